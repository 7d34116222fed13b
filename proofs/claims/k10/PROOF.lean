import PyProof.Rows.All
import Wide.All
import OpenK.AllK
import Wide.FinOn
import HandS.ForMost
import HandS.ForExc
import HandS.Gcd
import HandS.Wide
import HandS.IsInst
import HandS.Style
import HandS.RaiseMore
import HandS.Defaults
import HandS.TryOnly
import HandS.ClsMeth
import HandS.Nested
import HandS.Star
import HandS.More
import KE.KSuper
import KE.KDictZip
import PyProof.CollectWalk
import HandS.Base
import HandS.Call
import HandS.List
import HandS.Iter
import HandS.Zip0
import HandS.Zip
import HandS.Rev
import HandS.RevTup
import PyProof.Draws
import PyProof.EnumMake
import KE.GoesMore
import HandS.Walk
import HandS.OwnEq
import HandS.SlotsOwn
import PyProof.ReprRoads
import HandS.Head0
import HandS.Head1
import HandS.Head2
import HandS.Head3
import HandS.HeadEnd
import HandS.HeadHook1
import HandS.HeadHook2
import HandS.Deep
import HandS.TupAny
import HandS.TupSets
import HandS.SetFor
import PyProof.Rows.SortShell
import PyProof.EqAt
import PyProof.NeKinds
import PyProof.TypeOfCall
import HandS.IterVal
import KE.IntBitsLaws
import PyProof.Rows.RuleB_pow
import HandS.Small
import PyProof.Rows.Range3
import HandS.Conv
import HandS.WideBits
import PySem.Challenge.RW_oddsquares_k10_whole_gaps_of_lots
set_option Elab.async false
set_option linter.all false
set_option maxRecDepth 100000
set_option maxHeartbeats 4000000
namespace Odd
open PySem PySem.Spec PyProof.Rows L2

/-! ### numbers -/
def Canon (p : Int × Int) : Prop := 1 ≤ p.2 ∧ Nat.gcd p.1.natAbs p.2.natAbs = 1
def IsLow (t u : Int) (p : Int × Int) : Prop := Canon p ∧ p.1 * u = t * p.2
def low (t u : Int) : Int × Int := if u < 0 then (t.fdiv (-(Nat.gcd t.natAbs u.natAbs : Int)), u.fdiv (-(Nat.gcd t.natAbs u.natAbs : Int))) else (t.fdiv (Nat.gcd t.natAbs u.natAbs : Int), u.fdiv (Nat.gcd t.natAbs u.natAbs : Int))

theorem low_pos {t u : Int} (h : 0 < u) : ∃ g : Int, 0 < g ∧ t = g * (low t u).1 ∧ u = g * (low t u).2 ∧ Nat.gcd (low t u).1.natAbs (low t u).2.natAbs = 1 := by
  have hg : 0 < Nat.gcd t.natAbs u.natAbs := Nat.gcd_pos_of_pos_right _ (by omega)
  have d1 : ((Nat.gcd t.natAbs u.natAbs : Nat) : Int) ∣ t := Int.ofNat_dvd_left.mpr (Nat.gcd_dvd_left _ _)
  have d2 : ((Nat.gcd t.natAbs u.natAbs : Nat) : Int) ∣ u := Int.ofNat_dvd_left.mpr (Nat.gcd_dvd_right _ _)
  have e1 := Int.mul_fdiv_cancel' d1
  have e2 := Int.mul_fdiv_cancel' d2
  have el : low t u = (t.fdiv (Nat.gcd t.natAbs u.natAbs : Int), u.fdiv (Nat.gcd t.natAbs u.natAbs : Int)) := by
    unfold low
    rw [if_neg (by omega)]
  refine ⟨(Nat.gcd t.natAbs u.natAbs : Int), by omega, ?_, ?_, ?_⟩
  · rw [el]; exact e1.symm
  · rw [el]; exact e2.symm
  · rw [el]
    have a1 : t.natAbs = Nat.gcd t.natAbs u.natAbs * (t.fdiv (Nat.gcd t.natAbs u.natAbs : Int)).natAbs := by
      have := congrArg Int.natAbs e1
      rw [Int.natAbs_mul] at this
      exact this.symm
    have a2 : u.natAbs = Nat.gcd t.natAbs u.natAbs * (u.fdiv (Nat.gcd t.natAbs u.natAbs : Int)).natAbs := by
      have := congrArg Int.natAbs e2
      rw [Int.natAbs_mul] at this
      exact this.symm
    have a3 : Nat.gcd t.natAbs u.natAbs = Nat.gcd t.natAbs u.natAbs * Nat.gcd (t.fdiv (Nat.gcd t.natAbs u.natAbs : Int)).natAbs (u.fdiv (Nat.gcd t.natAbs u.natAbs : Int)).natAbs := by
      rw [← Nat.gcd_mul_left, ← a1, ← a2]
    exact Nat.eq_of_mul_eq_mul_left hg (by rw [Nat.mul_one]; exact a3.symm)
theorem low_neg {t u : Int} (h : u < 0) : low t u = low (-t) (-u) := by
  unfold low
  rw [if_pos h, if_neg (by omega), Int.natAbs_neg, Int.natAbs_neg]
  have k : ∀ x : Int, x.fdiv (-((Nat.gcd t.natAbs u.natAbs : Nat) : Int)) = (-x).fdiv ((Nat.gcd t.natAbs u.natAbs : Nat) : Int) := fun x => by
    have q := Int.neg_fdiv_neg (-x) ((Nat.gcd t.natAbs u.natAbs : Nat) : Int)
    rw [Int.neg_neg] at q
    exact q
  rw [k t, k u]
theorem natAbs_mul_le {g x y : Int} (hg : g ≠ 0) (e : x = g * y) : y.natAbs ≤ x.natAbs := by
  rw [e, Int.natAbs_mul]
  exact Nat.le_mul_of_pos_left _ (by omega)
/-- what lowest makes -/
theorem low_is {t u : Int} (h : u ≠ 0) : IsLow t u (low t u) ∧ (low t u).1.natAbs ≤ t.natAbs ∧ (low t u).2.natAbs ≤ u.natAbs := by
  have pos : ∀ t u : Int, 0 < u → IsLow t u (low t u) ∧ (low t u).1.natAbs ≤ t.natAbs ∧ (low t u).2.natAbs ≤ u.natAbs := fun t u hu => by
    obtain ⟨g, hg, e1, e2, e3⟩ := low_pos (t := t) hu
    generalize low t u = q at *
    obtain ⟨a, b⟩ := q
    dsimp only at *
    have hb : 0 < b := by
      rcases Int.lt_or_le 0 b with x | x
      · exact x
      · have : g * b ≤ 0 := Int.mul_nonpos_of_nonneg_of_nonpos (by omega) x
        omega
    refine ⟨⟨⟨by show 1 ≤ b; omega, e3⟩, ?_⟩, natAbs_mul_le (by omega) e1, natAbs_mul_le (by omega) e2⟩
    show a * u = t * b
    rw [e1, e2, ← Int.mul_assoc, Int.mul_comm a g]
  rcases Int.lt_or_le 0 u with hu | hu
  · exact pos t u hu
  · have hn : u < 0 := by omega
    obtain ⟨⟨c, e⟩, l1, l2⟩ := pos (-t) (-u) (by omega)
    rw [low_neg hn]
    rw [Int.natAbs_neg] at l1 l2
    refine ⟨⟨c, ?_⟩, l1, l2⟩
    rw [Int.mul_neg, Int.neg_mul] at e
    omega
/-- two pairs in lowest terms that are the same number are the same pair -/
theorem canon_eq {p q : Int × Int} (hp : Canon p) (hq : Canon q) (e : p.1 * q.2 = q.1 * p.2) : p = q := by
  obtain ⟨a, b⟩ := p
  obtain ⟨c, d⟩ := q
  obtain ⟨hb, g1⟩ := hp
  obtain ⟨hd, g2⟩ := hq
  dsimp only at *
  have n : a.natAbs * d.natAbs = c.natAbs * b.natAbs := by
    have := congrArg Int.natAbs e
    rwa [Int.natAbs_mul, Int.natAbs_mul] at this
  have d1 : d.natAbs ∣ b.natAbs := (Nat.Coprime.symm g2 : Nat.Coprime d.natAbs c.natAbs).dvd_of_dvd_mul_left ⟨a.natAbs, by rw [← n, Nat.mul_comm]⟩
  have d2 : b.natAbs ∣ d.natAbs := (Nat.Coprime.symm g1 : Nat.Coprime b.natAbs a.natAbs).dvd_of_dvd_mul_left ⟨c.natAbs, by rw [n, Nat.mul_comm]⟩
  have ebd : b = d := by
    have := Nat.dvd_antisymm d2 d1
    omega
  subst ebd
  have : a = c := Int.eq_of_mul_eq_mul_right (by omega) e
  rw [this]
/-- the pair in lowest terms of a pair in lowest terms is itself -/
theorem IsLow.uniq {t u : Int} {p q : Int × Int} (hu : u ≠ 0) (hp : IsLow t u p) (hq : IsLow t u q) : p = q := by
  refine canon_eq hp.1 hq.1 ?_
  refine Int.eq_of_mul_eq_mul_right hu ?_
  have e1 := hp.2
  have e2 := hq.2
  calc p.1 * q.2 * u = (p.1 * u) * q.2 := by rw [Int.mul_assoc, Int.mul_comm q.2 u, ← Int.mul_assoc]
    _ = t * p.2 * q.2 := by rw [e1]
    _ = (t * q.2) * p.2 := by rw [Int.mul_assoc, Int.mul_comm p.2 q.2, ← Int.mul_assoc]
    _ = q.1 * u * p.2 := by rw [e2]
    _ = q.1 * p.2 * u := by rw [Int.mul_assoc, Int.mul_comm u p.2, ← Int.mul_assoc]

/-! ### rules -/
def CDivX (_ j : Int) : Prop := j ≠ 0 ∧ j.natAbs.log2 < 9000
theorem op_fdivX {X : Cx} : OpR X (binaryOp .FloorDiv) (rI CDivX fun i j => .int (i.fdiv j)) := opI fun i j _ _ _ _ _ hc q => floordiv_int hc.1 q (.inl (PyProof.noPylong_of_log2 hc.2))
theorem divx {j : Int} {b : Nat} (h : j ≠ 0) (hb : j.natAbs < 2 ^ b) (h0 : 0 < b) (h9 : b ≤ 9000) : CDivX i j := ⟨h, Nat.lt_of_lt_of_le (PySem.Flt.log2_lt_of h0 hb) h9⟩

/-! ### heaps -/
theorem same_upd {H : Hp} {p : Addr} {o : HO} (h : H p = none) : Same H (upd H p o) := fun b x e => by
  rw [upd_ne (ne_of_none e h)]
  exact e
theorem same_tup {K : PySem.W.Frag} {H H' : Hp} {a : Addr} {xs : List V} (e : Same H H') (h : SqT K H a xs) : SqT K H' a xs := by
  rcases h with (h | ⟨o, h⟩) | h
  · exact .inl (.inl (e _ _ h))
  · exact .inl (.inr ⟨o, e _ _ h⟩)
  · exact .inr h
/-- all but the object at u stands as it stood -/
def But (u : Addr) (H H' : Hp) : Prop := (∀ b, b ≠ u → ∀ o, H b = some o → H' b = some o) ∧ ∀ c ys, H u = some (.lst (c :: ys)) → ∃ ys', H' u = some (.lst (c :: ys'))
theorem same_but {u : Addr} {H H' : Hp} (s : Same H H') : But u H H' := ⟨fun b _ o e => s b o e, fun c ys e => ⟨ys, s _ _ e⟩⟩
theorem But.trans {u : Addr} {H H1 H2 : Hp} (a : But u H H1) (b : But u H1 H2) : But u H H2 := ⟨fun c n o h => b.1 c n o (a.1 c n o h), fun c ys e => by obtain ⟨y1, e1⟩ := a.2 c ys e; exact b.2 c y1 e1⟩
theorem But.refl (u : Addr) (H : Hp) : But u H H := ⟨fun _ _ _ h => h, fun c ys e => ⟨ys, e⟩⟩
theorem but_upd {u : Addr} {H : Hp} {c : V} {xs ys : List V} (h : H u = some (.lst (c :: xs))) : But u H (upd H u (.lst (c :: ys))) := ⟨fun b nb o e => by rw [upd_ne nb]; exact e, fun c' y' e => by rw [h] at e; cases e; exact ⟨ys, upd_same⟩⟩
theorem But.tup {K : PySem.W.Frag} {u : Addr} {H H' : Hp} {a : Addr} {xs : List V} {ys : List V} (s : But u H H') (hu : H u = some (.lst ys)) (h : SqT K H a xs) : SqT K H' a xs := by
  rcases h with (h | ⟨o, h⟩) | h
  · exact .inl (.inl (s.1 _ (ne_of h hu (by intro z; cases z)) _ h))
  · exact .inl (.inr ⟨o, s.1 _ (ne_of h hu (by intro z; cases z)) _ h⟩)
  · exact .inr h
theorem But.lst {K : PySem.W.Frag} {u : Addr} {H H' : Hp} {a : Addr} {xs : List V} {ys : List V} (s : But u H H') (hu : H u = some (.lst ys)) (d : xs ≠ ys) (h : SqL K H a xs) : SqL K H' a xs := by
  rcases h with (h | ⟨o, h⟩) | h
  · exact .inl (.inl (s.1 _ (ne_of h hu (by intro z; injection z with z; exact d z)) _ h))
  · exact .inl (.inr ⟨o, s.1 _ (ne_of h hu (by intro z; cases z)) _ h⟩)
  · exact .inr h

/-! ### what a value is -/
inductive TyN (K : PySem.W.Frag) (H : Hp) : V → String → Prop
  | non : TyN K H .non "NoneType"
  | bl (b : Bool) : TyN K H (.bl b) "bool"
  | int (i : Int) : TyN K H (.int i) "int"
  | str (x : Str) : TyN K H (.str x) "str"
  | lst {p : Addr} {xs : List V} (h : SqL K H p xs) : TyN K H (.ref p) "list"
  | tup {p : Addr} {xs : List V} (h : SqT K H p xs) : TyN K H (.ref p) "tuple"
  | dict {p : Addr} {kvs : List (Key × V)} (h : H p = some (.dK kvs)) : TyN K H (.ref p) "dict"
theorem TyN.x {K : PySem.W.Frag} {H : Hp} {v : V} {T : String} (h : TyN K H v T) : TyX K H v (.type T) := by
  cases h with
  | non => exact .base .non
  | bl b => exact .base (.bl b)
  | int i => exact .base (.int i)
  | str x => exact .base (.str x)
  | lst h =>
    rcases h with (h | ⟨o, h⟩) | ⟨o, its, n, h, c, _⟩
    · exact .base (.lst h)
    · exact .base (.frz h)
    · exact .kList h c
  | tup h =>
    rcases h with (h | ⟨o, h⟩) | ⟨o, its, n, h, c, _⟩
    · exact .base (.tup h)
    · exact .fTuple h
    · exact .kTuple h c
  | dict h => exact .base (.dK h)
theorem TyN.same {K : PySem.W.Frag} {H H' : Hp} {v : V} {T : String} (s : Same H H') (h : TyN K H v T) : TyN K H' v T := by
  cases h with
  | non => exact .non
  | bl b => exact .bl b
  | int i => exact .int i
  | str x => exact .str x
  | lst h => exact .lst (s.seq h)
  | tup h => exact .tup (same_tup s h)
  | dict h => exact .dict (s _ _ h)
/-- a list or a tuple of these values -/
def Sq (K : PySem.W.Frag) (H : Hp) (p : Addr) (xs : List V) : Prop := SqL K H p xs ∨ SqT K H p xs
theorem Sq.same {K : PySem.W.Frag} {H H' : Hp} {p : Addr} {xs : List V} (s : Same H H') (h : Sq K H p xs) : Sq K H' p xs := by
  rcases h with h | h
  · exact .inl (s.seq h)
  · exact .inr (same_tup s h)
theorem Sq.but {K : PySem.W.Frag} {u : Addr} {H H' : Hp} {p : Addr} {xs ys : List V} (s : But u H H') (hu : H u = some (.lst ys)) (d : xs ≠ ys) (h : Sq K H p xs) : Sq K H' p xs := by
  rcases h with h | h
  · exact .inl (s.lst hu d h)
  · exact .inr (s.tup hu h)
/-- a pair of integers as a list or a tuple in lowest terms, or an integer: a number -/
inductive Num (K : PySem.W.Frag) (H : Hp) : V → Int × Int → Prop
  | int (n : Int) : Num K H (.int n) (n, 1)
  | sq {p : Addr} {a b : Int} (h : Sq K H p [.int a, .int b]) (c : Canon (a, b)) : Num K H (.ref p) (a, b)
theorem Num.same {K : PySem.W.Frag} {H H' : Hp} {v : V} {q : Int × Int} (s : Same H H') (h : Num K H v q) : Num K H' v q := by
  cases h with
  | int n => exact .int n
  | sq h c => exact .sq (h.same s) c
theorem Num.but {K : PySem.W.Frag} {u : Addr} {H H' : Hp} {v : V} {q : Int × Int} {c : Addr} {ys : List V} (s : But u H H') (hu : H u = some (.lst (.ref c :: ys))) (h : Num K H v q) : Num K H' v q := by
  cases h with
  | int n => exact .int n
  | sq h c => exact .sq (h.but s hu (by intro z; cases z)) c
theorem Num.canon {K : PySem.W.Frag} {H : Hp} {v : V} {q : Int × Int} (h : Num K H v q) : Canon q := by
  cases h with
  | int n => exact ⟨by show (1 : Int) ≤ 1; omega, Nat.gcd_one_right _⟩
  | sq h c => exact c
/-- a tuple that is a number -/
def Pr (K : PySem.W.Frag) (H : Hp) (v : V) (q : Int × Int) : Prop := ∃ p, v = .ref p ∧ SqT K H p [.int q.1, .int q.2]
theorem Pr.same {K : PySem.W.Frag} {H H' : Hp} {v : V} {q : Int × Int} (s : Same H H') (h : Pr K H v q) : Pr K H' v q := by
  obtain ⟨p, e, h⟩ := h
  exact ⟨p, e, same_tup s h⟩
theorem Pr.but {K : PySem.W.Frag} {u : Addr} {H H' : Hp} {v : V} {q : Int × Int} {ys : List V} (s : But u H H') (hu : H u = some (.lst ys)) (h : Pr K H v q) : Pr K H' v q := by
  obtain ⟨p, e, h⟩ := h
  exact ⟨p, e, s.tup hu h⟩
theorem Pr.num {K : PySem.W.Frag} {H : Hp} {v : V} {q : Int × Int} (h : Pr K H v q) (c : Canon q) : Num K H v q := by
  obtain ⟨p, rfl, h⟩ := h
  exact .sq (.inr h) c
/-- what is no number -/
inductive Bad (K : PySem.W.Frag) (H : Hp) : V → Prop
  | scal {v : V} {T : String} (h : TyN K H v T) (h1 : T ≠ "int") (h2 : T ≠ "list") (h3 : T ≠ "tuple") : Bad K H v
  | len {p : Addr} {xs : List V} (h : Sq K H p xs) (l : xs.length ≠ 2) : Bad K H (.ref p)
  | top {p : Addr} {x y : V} {T U : String} (h : Sq K H p [x, y]) (hx : TyN K H x T) (hT : T ≠ "int") (hy : TyN K H y U) : Bad K H (.ref p)
  | und {p : Addr} {a : Int} {y : V} {U : String} (h : Sq K H p [.int a, y]) (hy : TyN K H y U) (hU : U ≠ "int") : Bad K H (.ref p)
  | low {p : Addr} {a b : Int} (h : Sq K H p [.int a, .int b]) (c : ¬ Canon (a, b)) : Bad K H (.ref p)
theorem Bad.same {K : PySem.W.Frag} {H H' : Hp} {v : V} (s : Same H H') (h : Bad K H v) : Bad K H' v := by
  cases h with
  | scal h h1 h2 h3 => exact .scal (h.same s) h1 h2 h3
  | len h l => exact .len (h.same s) l
  | top h hx hT hy => exact .top (h.same s) (hx.same s) hT (hy.same s)
  | und h hy hU => exact .und (h.same s) (hy.same s) hU
  | low h c => exact .low (h.same s) c
/-- of so many bits -/
def Sm (N : Nat) (q : Int × Int) : Prop := q.1.natAbs < 2 ^ N ∧ q.2.natAbs < 2 ^ N
/-- hands back a number as a tuple -/
def RetP (K : PySem.W.Frag) (H : Hp) (q : Int × Int) (Q : VK) : Prop := ∀ H' p, Same H H' → SqT K H' p [.int q.1, .int q.2] → Q (.ref p) H'
/-- hands back a value -/
def RetV (H : Hp) (v : V) (Q : VK) : Prop := ∀ H', Same H H' → Q v H'
/-- raises an error of the class at C with this part -/
def RaiseP (H : Hp) (C : Addr) (part : V) (E : XK) : Prop := ∀ H' d, Same H H' → H' d = some (.xd [(("part" : Str), part)]) → E (.ref C) (some d) H'
theorem RetP.same {K : PySem.W.Frag} {H H' : Hp} {q : Int × Int} {Q : VK} (s : Same H H') (h : RetP K H q Q) : RetP K H' q Q := fun H2 p s2 e => h H2 p (s.trans s2) e
theorem RetV.same {H H' : Hp} {v : V} {Q : VK} (s : Same H H') (h : RetV H v Q) : RetV H' v Q := fun H2 s2 => h H2 (s.trans s2)
theorem RaiseP.same {H H' : Hp} {C : Addr} {part : V} {E : XK} (s : Same H H') (h : RaiseP H C part E) : RaiseP H' C part E := fun H2 d s2 e => h H2 d (s.trans s2) e
theorem st_of {K : PySem.W.Frag} {H : Hp} {a : Addr} {xs : List V} (h : H a = some (.tup xs)) : SqT K H a xs := .inl (.inl h)
theorem sl_of {K : PySem.W.Frag} {H : Hp} {a : Addr} {xs : List V} (h : H a = some (.lst xs)) : SqL K H a xs := .inl (.inl h)
theorem bt_len : bootBuiltins "len" = some (.builtin "len") := by decide +kernel
theorem bt_abs : bootBuiltins "abs" = some (.builtin "abs") := by decide +kernel
theorem bt_repr : bootBuiltins "repr" = some (.builtin "repr") := by decide +kernel
theorem bt_isinstance : bootBuiltins "isinstance" = some (.builtin "isinstance") := by decide +kernel
theorem bt_int : bootBuiltins "int" = some (.type "int") := by decide +kernel
theorem bt_bool : bootBuiltins "bool" = some (.type "bool") := by decide +kernel
theorem bt_str : bootBuiltins "str" = some (.type "str") := by decide +kernel
theorem bt_list : bootBuiltins "list" = some (.type "list") := by decide +kernel
theorem bt_tuple : bootBuiltins "tuple" = some (.type "tuple") := by decide +kernel
theorem bt_all : bootBuiltins "all" = some (.builtin "all") := by decide +kernel
theorem bt_range : bootBuiltins "range" = some (.type "range") := by decide +kernel
section
variable {X : Cx} {CX : CXT} {k : Nat} {f : Addr} {fd : FuncData} {ps ks : List Str} {sp : Sp} {E : XK} {x : Str} {p pos : Pos} {kws : List Keyword} {tk : TA} {g : List Value → List Value → List Value} {gV : List V → List V → List V}
/-- f(k = v, ..) -/
theorem pe_callK0 (F : FnOk X.prog X.w X.K X.mg X.base CX k f fd ps sp) (hr : Room k X.A) (hg : Gl X x) (hm : X.mg x = some (.ref f)) (hk : PySem.W.keepIn X.K (.ref f) = true) (hb : KBinds X.K fd ps ks g gV) (hx : Passes CX X E)
    (hkw : PK X kws tk) (hall : (backToKw pos (keywordEach kws X.env)).all (·.1.isSome) = true := by rfl) (hks : (backToKw pos (keywordEach kws X.env)).filterMap (·.1) = ks := by rfl)
    (hdb : (x == ("__debug__" : Str)) = false := by decide) (hpl : ((backTo pos (starEach [] X.env)).any (·.1) || (backToKw pos (keywordEach kws X.env)).any (·.1.isNone)) = false := by rfl) :
    PE X (.Call (.Name x p) [] kws pos) (tCallK sp gV E tNil tk) := by
  refine ⟨fun pins s σ H Q I h => ?_⟩
  refine wpAny_Call_Name_kw (ld_glob I hg hm ?_ hdb)
  refine PySem.W.callWith_KW0 (h₀ := X.base) I.ok.mod.kin hk hall (thn (hkw.run pos pins s σ H _ I h) fun ws s2 ⟨zs, H2, I2, rz, q2⟩ => ⟨I2.kIn, ?_⟩) hpl
  rw [hks]
  exact run_fnk (us := []) F hr hb hx I2 .nil rz q2
/-- repr of a bool, of an int -/
theorem call_reprX : CallR X (.builtin "repr") (fun xs H Q => (∃ i : Int, xs = [.int i] ∧ i.natAbs.log2 < 1920 ∧ Q (.str (toString i)) H) ∨ ∃ b : Bool, xs = [.bl b] ∧ Q (.str (if b then "True" else "False")) H) := by
  intro pins s σ H xs us Q I r h
  rcases h with h | ⟨b, rfl, q⟩
  · exact SkE.call_repr_int pins s σ H xs us Q I r h
  · obtain ⟨u, rfl, e⟩ := vals1 r
    cases e
    exact PySem.P.repr_of_bool (by cases b <;> exact ⟨.str _, H, I.tok _, ⟨_, rfl⟩, q⟩)
end
end Odd
namespace PySem
namespace LowX
open PySem.W PySem.Calls PyProof.Rows PySem.HandSPX
/-! ### the text of __init__ -/
def iA (p1 p2 : Pos) : Arguments := { posonlyargs := [], args := [{ arg := "self", annotation := none, pos := p1 }, { arg := "part", annotation := none, pos := p2 }], vararg := none, kwonlyargs := [], kw_defaults := [], kwarg := none, defaults := [] }
def iB (q1 q2 q3 q4 : Pos) : List Stmt := [.Assign [.Attribute (.Name "self" q1) "part" q2] (.Name "part" q3) q4]
def iS : Scope := { kind := .function, names := [(PySem.Str.ofString "self", .local), (PySem.Str.ofString "part", .local)], isGenerator := false, isCoroutine := false, more := [] }
/-- what the written part says of Low, at C, and of its __init__, at fI -/
structure LowTxt (nx qn : Str) (K : Frag) (mg : Str → Option Value) (C fI : Addr) : Prop where
  gC : mg nx = some (.ref C)
  cls : ∃ nm q N bs bm sn sub ab col dd k0 k1 k2 k3 k5, K.lookup C = some (excClassObj nm q C N bs bm true sn sub ab col dd k0 k1 k2 k3 k5 "ValueError.__new__") ∧ refsVE bm = true
  sa : findIn K (.ref C) "__setattr__" = some (some (.builtin "object.__setattr__"))
  ga : findIn K (.ref C) "__getattribute__" = some (some (.builtin "BaseException.__getattribute__"))
  gg : findIn K (.ref C) "__getattr__" = some none
  noN : findIn K (.ref C) "part" = some none
  iC : findIn K (.ref C) "__init__" = some (some (.ref fI))
  tC : typeIn K (.ref fI) = some (.type "function")
  kC : keepIn K (.ref C) = true
  exC : subIn K (.ref C) (.type "BaseException") = some true
  tyC : typeIn K (.ref C) = some (.type "type")
  hdC : hasDictIn K C = true
  te : exmOne K (.ref C) (.ref C) = some true
  fn : ∃ (oc : Value) (od : Option Addr) (doc pm : Value) (an : Option Addr) (cdv ct : Value) (osl : Array (Option Value)) (p1 p2 q1 q2 q3 q4 : Pos),
    K.lookup fI = some ⟨oc, od, .func (fnOf "__init__" qn (iA p1 p2) (iB q1 q2 q3 q4) iS .none .none doc pm an cdv ct), osl⟩ ∧ codeIn K cdv qn = true
theorem one_size (v : Value) : [v].length ≤ sizeLine := by
  rw [sizeLine_eq]
  exact (by decide : 1 ≤ 16777216)
theorem kept_but {K : Frag} {h h' : Heap} {x : Addr} (X : K.In h) (hx : K.lookup x = none) (k : ∀ b o, b ≠ x → h.get? b = some o → h'.get? b = some o) : K.In h' := fun a o e =>
  k a o (fun z => by rw [z, hx] at e; cases e) (X a o e)
theorem ldC {M : Model} {s : Shared} {name : Str} {scope : Scope} {L a : Addr} {cd : Value} {m : Str → Option Value} {x : Str} {pos : Pos} {v : Value} {Q : Value → Shared → Prop} {A : Around} {E : Value → Shared → Prop} (hn : s.heap.Ns L m) (hv : m x = some v) (h : Q v s)
    (hk : scope.kind = .function := by rfl) (hl : (envOfC name scope L a cd).kindOf x = some .local := by rfl) (hd : (x == ("__debug__" : Str)) = false := by decide) :
    wpAny M A (eval (.Name x pos) (envOfC name scope L a cd)) Q E s := wpAny_Name (wpAny_loadName_local hk hl hn hv h) hd
/-- what __init__ leaves of a fresh exception at x -/
structure InitEnd (h h' : Heap) (x C dx t1 : Addr) (v : Value) : Prop where
  keep : ∀ b o, b ≠ x → h.get? b = some o → h'.get? b = some o
  obj : h'.get? x = some { cls := .ref C, dict := some dx, data := .fields #[.ref t1, .none, .none, .none, .bool false, .none] }
  dbig : h.objs.size ≤ dx
  dne : dx ≠ x
  ns : h'.Ns1 dx (fun y => if y = "part" then some v else none)
/-- a made Low -/
structure OwnMade (h h' : Heap) (e C d : Addr) (v : Value) : Prop where
  keep : ∀ b o, h.get? b = some o → h'.get? b = some o
  new : h.objs.size ≤ e
  obj : ∃ oe vs, h'.get? e = some oe ∧ oe.cls = .ref C ∧ oe.dict = some d ∧ oe.data = .fields vs ∧ vs[1]? = some .none
  dbig : h.objs.size ≤ d
  dne : d ≠ e
  ns : h'.Ns1 d (fun y => if y = "part" then some v else none)
section
variable {prog : Program} {w : World} {A : Around} {E : Value → Shared → Prop} {R : Result → Shared → Prop} {s : Shared} {K : Frag} {mg : Str → Option Value} {C fI : Addr} {nx qn : Str}
theorem low_init (T : LowTxt nx qn K mg C fI) {x t0 : Addr} {v : Value} (X : K.In s.heap) (hlim : s.heap.NoLimit) (hx : s.heap.get? x = some (excO C t0)) (hnx : K.lookup x = none) (hroom : A.depth < recursionLimit)
    (hq : ∀ h' tk dx, InitEnd s.heap h' x C dx t0 v → R (.ok (.ret .none)) { s with heap := h', toks := tk }) :
    codeAny (model prog w) A (.call (.ref fI) ⟨[.ref x, v], []⟩) R s := by
  obtain ⟨oc, od, doc, pm, an, cdv, ct, osl, p1, p2, q1, q2, q3, q4, ho, hcd⟩ := T.fn
  obtain ⟨nm, q, N, bs, bm, sn, sub, ab, col, dd, k0, k1, k2, k3, k5, hC, hbm⟩ := T.cls
  have hcl : clsIn K C = some { name := nm, bases := bs, mro := .ref C :: bm, ns := N, qualname := q, hasDict := true, slotNames := sn, subclasses := sub, abstract := ab, collection := col, hasDel := false } := by unfold clsIn; rw [hC] <;> rfl
  refine Att.call_fn (binds := [("self", .ref x), ("part", v)]) X hlim ho hcd hroom (BindsTo.of_eq (by first | rfl | with_unfolding_all rfl)) (by first | rfl | decide | with_unfolding_all rfl) (fun s₁ IC => ?_) rfl rfl rfl
  obtain ⟨h₁, tk₁, rfl⟩ := IC.toInCall.same
  have k : ∀ b o, s.heap.get? b = some o → h₁.get? b = some o := IC.toInCall.keep
  have hn := IC.toInCall.ns
  have hxL : s.heap.objs.size ≠ x := Nat.ne_of_gt (Heap.lt_size hx)
  have X₁ : K.In h₁ := X.keeps k
  have hx₁ := k _ _ hx
  -- self.by = by
  show wpAny _ _ (execs _ _) _ _ _
  refine wpAny_execs_cons (plainObj_wpAny_Assign_Attribute ?_)
  refine ldC (v := v) hn (by first | rfl | with_unfolding_all rfl | kernel_rfl) (ldC (v := .ref x) hn (by first | rfl | with_unfolding_all rfl | kernel_rfl) ?_)
  refine set_plain X₁ (ox := excO C t0) (od := none) ⟨hx₁, rfl, rfl, trivial⟩ T.sa ?_
  refine exc_osa X₁ hx₁ hcl (show refsVE (.ref C :: bm) = true from hbm) rfl T.noN (fun h₃ tk₃ dx k₃ dn dne hx₃ hn₃ => ?_)
  show wpAny _ _ (execs _ _) _ _ _
  have z : s.heap.objs.size < h₁.objs.size := hn.lt
  exact wpAny_execs_nil (hq h₃ tk₃ dx ⟨fun b o hb e => k₃ b o hb (k b o e), hx₃, Nat.le_of_lt (Nat.lt_of_lt_of_le z dn), dne, hn₃⟩)
theorem low_made (T : LowTxt nx qn K mg C fI) {v : Value} (X : K.In s.heap) (hlim : s.heap.NoLimit) (hroom : A.depth + 1 < recursionLimit)
    (hq : ∀ h' tk e d, OwnMade s.heap h' e C d v → R (.ok (.ret (.ref e))) { s with heap := h', toks := tk }) :
    codeAny (model prog w) A (.call (.ref C) ⟨[v], []⟩) R s := by
  obtain ⟨nm, q, N, bs, bm, sn, sub, ab, col, dd, k0, k1, k2, k3, k5, hC, hbm⟩ := T.cls
  obtain ⟨hp, g, dr, tk, os⟩ := s
  have k : ∀ b o, hp.get? b = some o → ((hp.push (kdv_tup [v])).push (excO C hp.objs.size)).get? b = some o := fun b o e => Heap.get?_push_of_some _ (Heap.get?_push_of_some _ e)
  have hget : ((hp.push (kdv_tup [v])).push (excO C hp.objs.size)).get? (hp.objs.size + 1) = some (excO C hp.objs.size) := by heap_get
  have hnx : K.lookup (hp.objs.size + 1) = none := by
    cases e : K.lookup (hp.objs.size + 1) with
    | none => rfl
    | some o =>
      have z : hp.get? (hp.objs.size + 1) = some o := X _ _ e
      exact absurd (Nat.lt_of_succ_lt (Heap.lt_size z)) (Nat.lt_irrefl _)
  refine call_own F.excBase_ValueError (fun X => refsVE_contains X bm hbm) (X _ _ hC) (looks_findIn X T.iC) (fun self => bind_fn X self T.tC) (one_size v) ?_
  refine low_init (s := ⟨(hp.push (kdv_tup [v])).push (excO C hp.objs.size), g, dr, tk, os⟩) T (X.keeps k) (hlim.keeps k) hget hnx ?_ fun h' tk' dx ⟨k', hx, dn, dne, hns⟩ => ?_
  · show A.depth + 1 < recursionLimit
    exact hroom
  · have old : ∀ b o, hp.get? b = some o → h'.get? b = some o := fun b o e => k' b o (Nat.ne_of_lt (Nat.lt_succ_of_lt (Heap.lt_size e))) (k b o e)
    have z : hp.objs.size + 1 + 1 ≤ dx := by
      first
        | (simpa only [Heap.size_push] using dn)
        | exact dn
        | (have q := dn; rw [Heap.size_push, Heap.size_push] at q; exact q)
    exact ⟨rfl, hq h' tk' (hp.objs.size + 1) dx ⟨old, Nat.le_succ _, ⟨_, _, hx, rfl, rfl, rfl, rfl⟩, Nat.le_trans (Nat.le_trans (Nat.le_succ _) (Nat.le_succ _)) z, dne, hns⟩⟩
end
end LowX
end PySem
namespace L2
open PySem PySem.Spec PyProof.Rows
theorem relO_low {v : V} {v' : Value} (r : RelV v v') (f : Str) : RelO (List.lookup f [(("part" : Str), v)]) (if f = "part" then some v' else none) := by
  by_cases hw : f = "part"
  · subst hw
    rw [if_pos rfl]
    have q : List.lookup ("part" : Str) [(("part" : Str), v)] = some v := by simp [List.lookup]
    rw [q]
    exact r
  · rw [if_neg hw]
    have qw : (f == ("part" : Str)) = false := by simpa using hw
    have q2 : List.lookup f [(("part" : Str), v)] = none := by simp [List.lookup, qw]
    rw [q2]
    trivial
section
variable {X : Cx} {C fI : Addr} {nx qn : Str}
/-- Low(e) -/
def tMkLow (C : Addr) (ta : TA) : St → Hp → XK → Prop := fun σ H Q => ta σ H fun vs H1 => ∃ v, vs = [v] ∧ ∀ d, H1 d = none → Q (.ref C) (some d) (upd H1 d (.xd [(("part" : Str), v)]))
theorem pmk_low {a : Expr} {ta : TA} {p pos : Pos} {k : Nat} (T : PySem.LowX.LowTxt nx qn X.K X.mg C fI) (hr : Room k X.A) (ha : PA X [a] ta) (hg : Gl X nx := by rfl) (hnd : (nx == ("__debug__" : Str)) = false := by decide)
    (he : starEach (a :: []) X.env = (false, eval a X.env) :: starEach [] X.env := by rfl) (hpl : (backTo pos (starEach [] X.env)).any (·.1) = false := by rfl) :
    PMk X (.Call (.Name nx p) [a] [] pos) (tMkLow C ta) := by
  intro pins s σ H Q I h
  refine wpAny_Call_Name_kw (ld_glob I hg T.gC ?_ hnd)
  refine PySem.W.callWith_K (h₀ := X.base) I.ok.mod.kin T.kC (thn (ha.run pos pins s σ H _ I h) fun us s1 hh => ?_) he hpl
  obtain ⟨vs, H1, I1, r1, v, ev, q1⟩ := hh
  subst ev
  refine ⟨I1.kIn, ?_⟩
  cases r1 with
  | cons rv rn =>
    rename_i v' us'
    cases rn
    show wpAny _ _ (call (.ref C) [v']) _ _ _
    have hlim := I1.nolimit
    obtain ⟨hp, g, dr, tk, os⟩ := s1
    refine wpAny_call (PySem.LowX.low_made T I1.kIn hlim (by have := hr.dp; omega) fun h' tk' e d M => ?_)
    show MkP X pins σ Q (.ref e) ⟨h', g, dr, tk', os⟩
    obtain ⟨oe, fv, hoe, hc, hd, hdat, h1⟩ := M.obj
    have hns := M.ns
    obtain ⟨G', g1, g2⟩ := restrict h' fun b => decide (b ≠ e)
    have gk : ∀ b, b ≠ e → G'.get? b = h'.get? b := fun b hb => g1 b (decide_eq_true hb)
    have ge : G'.get? e = none := g2 e (by simp)
    have old : ∀ b o, hp.get? b = some o → G'.get? b = some o := fun b o q => (gk b (Nat.ne_of_lt (Nat.lt_of_lt_of_le (Heap.lt_size q) M.new))).trans (M.keep b o q)
    have ob : ObjOk X.prog X.w (upd H1 d (.xd [(("part" : Str), v)])) G' d (.xd [(("part" : Str), v)]) :=
      ⟨_, hns.at (fun o q => (gk d M.dne).trans q), fun f => relO_low rv f⟩
    have J : Inv X pins σ (upd H1 d (.xd [(("part" : Str), v)])) ⟨G', g, dr, tk', os⟩ := I1.laid (t' := tk') old M.dbig ob
    refine ⟨e, oe, fv, ⟨G', g, dr, tk', os⟩, _, .ref C, some d, rfl, J, fun b o q => ?_, ge, hoe, ⟨hc, hd⟩, hdat, h1, ?_, rfl, I1.bare, raises_own T.exC T.tyC, q1 d (I1.hok.fresh M.dbig)⟩
    · by_cases hb : b = e
      · have q' : G'.get? b = some o := q
        rw [hb, ge] at q'; cases q'
      · exact (gk b hb).symm.trans q
    · rw [upd_ne (Ne.symm M.dne)]
      exact I1.hok.fresh M.new
/-- raise Low(e) -/
def tRaiseLow (C : Addr) (W : WX) (ta : TA) : TS := fun _ σ H => tMkLow C ta σ H fun cls d H' => W cls d σ H'
theorem ps_raiseLow {a : Expr} {ta : TA} {W : WX} {p pos pos2 : Pos} {k : Nat} (hc : X.calm = true) (T : PySem.LowX.LowTxt nx qn X.K X.mg C fI) (hr : Room k X.A) (tk : Takes X W) (ha : PA X [a] ta) (hg : Gl X nx := by rfl) (hnd : (nx == ("__debug__" : Str)) = false := by decide)
    (he : starEach (a :: []) X.env = (false, eval a X.env) :: starEach [] X.env := by rfl) (hpl : (backTo pos (starEach [] X.env)).any (·.1) = false := by rfl) :
    PS X (.Raise (some (.Call (.Name nx p) [a] [] pos)) none pos2) (tRaiseLow C W ta) := ps_raise hc tk (pmk_low T hr ha hg hnd he hpl)
/-- low.by, low the exception that the suite holds (at a; its class cls, its dict d) -/
def tByLow (C : Addr) (a : Addr) (cls : Value) (d : Option Addr) (te : TE) : TE := fun σ H Q => te σ H fun x H1 => x = .ref a ∧ cls = .ref C ∧ ∃ (dd : Addr) (v : V), d = some dd ∧ H1 dd = some (.xd [(("part" : Str), v)]) ∧ Q v H1
theorem pe_byLow {a : Addr} {oe : Obj} {cls : Value} {d : Option Addr} {pn : List (Addr × Obj)} {e : Expr} {te : TE} {pos : Pos} (T : PySem.LowX.LowTxt nx qn X.K X.mg C fI) (hz : Zc cls d oe) (hf : ∃ vs, oe.data = .fields vs) (he : PE (X.suite a ((a, oe) :: pn)) e te)
    (hb : attributeBase e "part" X.env (eval e X.env) = eval e X.env := by rfl) :
    PE (X.suite a ((a, oe) :: pn)) (.Attribute e "part" pos) (tByLow C a cls d te) := by
  refine ⟨fun pins s σ H Q I h => ?_⟩
  refine attr_of hb (thn (he.run pins s σ H _ I h) fun u s1 hh => ?_)
  obtain ⟨x, H1, I1, rx, ex, ec, dd, v, ed, ea, q⟩ := hh
  subst ex
  obtain rfl : u = Value.ref a := rx
  subst ec
  subst ed
  obtain ⟨ha, _⟩ := I1.pin (a, oe) (List.mem_append_left _ List.mem_cons_self)
  obtain ⟨vs, hd⟩ := hf
  have hx : ObjOk X.prog X.w H1 s1.heap dd (.xd [(("part" : Str), v)]) := I1.hok dd _ ea
  obtain ⟨mA, hns, hr⟩ := hx
  obtain ⟨od, ho, hl⟩ := lookIn_ns hns
  have l : List.lookup ("part" : Str) [(("part" : Str), v)] = some v := by simp [List.lookup]
  obtain ⟨u, hu, ru⟩ := RelO.some_of (v := v) (o := mA "part") (by rw [← l]; exact hr "part")
  have J : PySem.W.InstAt s1.heap a oe C (some od) := ⟨ha, hz.1, by unfold PySem.W.notCls; rw [hd] <;> rfl, by rw [hz.2]; exact ho⟩
  exact HandSPX.exc_get I1.kIn J T.ga T.gg T.exC (PySem.W.findObj_own T.hdC T.noN rfl (by rw [hl, hu])) (handed_of ru) ⟨v, H1, I1.tok _, ru, q⟩
end
end L2

namespace L2
open PySem PySem.Spec PyProof.Rows
/-- an if whose test is known -/
theorem if_true_of {c : Bool} {A B : Prop} (hc : c = true) (h : A) : if c = true then A else B := by
  rw [if_pos hc]
  exact h
theorem if_false_of {c : Bool} {A B : Prop} (hc : c = false) (h : B) : if c = true then A else B := by
  rw [hc, if_neg Bool.false_ne_true]
  exact h
end L2
namespace Odd
open PySem PySem.Spec PyProof.Rows L2
/-! ### small rules that readings use -/
theorem cx_K {CX : CXT} {P : Program} {w : World} {K : PySem.W.Frag} {mg : Str → Option Value} {base : Heap} {N : List Str} {qual : Str} {sc : Scope} {f : Addr} {cd : Value} {A : Around} {outer : List Env} {s : Shared} {H : Hp} {E : XK} :
    (cxOf CX P w K mg base N qual sc f cd A outer s H E).K = K := rfl
theorem cx_Kn {X : Cx} : (Cx.nox X).K = X.K := rfl
def gSeq (K : PySem.W.Frag) (n : Nat) (t : TGs) : TG := fun v σ H Q => ∃ a xs, v = .ref a ∧ Sq K H a xs ∧ xs.length = n ∧ t xs σ H Q
theorem pg_seq2 {X : Cx} {pos : Pos} {es : List Expr} {k : Nat} {t : TGs} {n : Nat} (hc : X.calm = true) (h : PGs X es t)
    (hn : (assignEach es X.env).length = n := by rfl) (hst : (assignEach es X.env).findIdx? (·.1) = none := by rfl) : PG X (.Tuple es k pos) (gSeq X.K n t) := by
  refine ⟨fun pins s σ H v u Q I r hw => ?_⟩
  obtain ⟨a, xs, e1, hq, hl, hw⟩ := hw
  rcases hq with hq | hq
  · exact (pg_lst hc h hn hst).run pins s σ H v u Q I r ⟨a, xs, e1, hq, hl, hw⟩
  · exact (pg_tup hc h hn hst).run pins s σ H v u Q I r ⟨a, xs, e1, hq, hl, hw⟩
section
variable {K : PySem.W.Frag} {H H0 : Hp} {Q : VK} {p : Addr} {xs : List V} {v : V} {i : Int}
theorem ixT (h : SqT K H p xs) (e : atI xs i = some v) (q : Q v H) : rIxT K (.ref p) (.int i) H Q := ⟨p, xs, i, v, rfl, rfl, h, e, q⟩
theorem ixL (h : SqL K H p xs) (e : atI xs i = some v) (q : Q v H) : rIxL K (.ref p) (.int i) H Q := ⟨p, xs, i, v, rfl, rfl, h, e, q⟩
theorem ty_int {T : String} (h : TyN K H v T) (q : Q (.bl (T == "int" || T == "bool")) H) : rIsi K [v, .ty "int"] H Q := by
  refine ⟨v, .ty "int", .type T, .type "int", _, rfl, .ty _, h.x, ?_, q⟩
  cases h <;> exact kit_ty (by decide +kernel)
theorem ty_bool {T : String} (h : TyN K H v T) (q : Q (.bl (T == "bool")) H) : rIsi K [v, .ty "bool"] H Q := by
  refine ⟨v, .ty "bool", .type T, .type "bool", _, rfl, .ty _, h.x, ?_, q⟩
  cases h <;> exact kit_ty (by decide +kernel)
theorem ty_tuple {T : String} (h : TyN K H v T) (q : Q (.bl (T == "tuple")) H) : rIsi K [v, .ty "tuple"] H Q := by
  refine ⟨v, .ty "tuple", .type T, .type "tuple", _, rfl, .ty _, h.x, ?_, q⟩
  cases h <;> exact kit_ty (by decide +kernel)
theorem ty_str {T : String} (h : TyN K H v T) (q : Q (.bl (T == "str")) H) : rIsi K [v, .ty "str"] H Q := by
  refine ⟨v, .ty "str", .type T, .type "str", _, rfl, .ty _, h.x, ?_, q⟩
  cases h <;> exact kit_ty (by decide +kernel)
theorem kl (T : String) (h : TyN K H v T) : PySem.W.kitOne K (.type T) (.type "list") = some (T == "list") := by
  cases h <;> exact kit_ty (by decide +kernel)
theorem kt (T : String) (h : TyN K H v T) : PySem.W.kitOne K (.type T) (.type "tuple") = some (T == "tuple") := by
  cases h <;> exact kit_ty (by decide +kernel)
theorem ty_row {T : String} (h : TyN K H v T) (hp : H p = some (.tup [.ty "list", .ty "tuple"])) (q : Q (.bl (T == "list" || T == "tuple")) H) : rIsiT K [v, .ref p] H Q := by
  refine ⟨v, p, _, .type T, [.type "list", .type "tuple"], _, rfl, hp, .cons (.ty _) (.cons (.ty _) .nil), h.x, ?_, q⟩
  refine kitAny_cons (kl T h) (fun e => ?_) (fun e => by rw [e] <;> rfl)
  rw [e, Bool.false_or]
  exact kitAny_cons (kt T h) (fun e => by rw [e]; exact kitAny_nil) (fun e => e)
end
theorem TyN.intI {K : PySem.W.Frag} {H : Hp} {v : V} {T : String} (h : TyN K H v T) (e : T = "int") : ∃ i, v = .int i := by
  cases h <;> first | exact ⟨_, rfl⟩ | exact absurd e (by decide)
theorem seq_by {t u : TS} {D : Ends} {σ : L2.St} {H : Hp} (h : ∀ N, N = u D → t { D with nx := N } σ H) : tSeq t u D σ H := h _ rfl
theorem dpAll_ints {K : PySem.W.Frag} {H : Hp} : ∀ ns : List Int, DpAll K H (ns.map V.int) (ns.map PyData.int)
  | [] => .nil
  | n :: ns => .cons (.int n) (dpAll_ints ns)
theorem dp_ints {K : PySem.W.Frag} {H : Hp} {a : Addr} {ns : List Int} (h : SqL K H a (ns.map V.int)) : Dp K H (.ref a) (.list (ns.map PyData.int)) := .lst h (dpAll_ints ns)
theorem dp_intsT {K : PySem.W.Frag} {H : Hp} {a : Addr} {ns : List Int} (h : SqT K H a (ns.map V.int)) : Dp K H (.ref a) (.tuple (ns.map PyData.int)) := .tup h (dpAll_ints ns)
theorem lay_ints : ∀ ns : List Int, PyData.canLayAll0 (ns.map PyData.int) = true
  | [] => by simp [PyData.canLayAll0]
  | n :: ns => by simp [PyData.canLayAll0, PyData.canLay0, lay_ints ns]
theorem dep_ints : ∀ ns : List Int, PyData.depthAll (ns.map PyData.int) = 0
  | [] => by simp [PyData.depthAll]
  | n :: ns => by simp [PyData.depthAll, PyData.depth, dep_ints ns]
theorem sh_ints (ns : List Int) : SeqAt.shaped (.list (ns.map PyData.int)) = true := by
  simp [SeqAt.shaped, PyData.canLay0, PyData.depth, lay_ints, dep_ints]
theorem sh_intsT (ns : List Int) : SeqAt.shaped (.tuple (ns.map PyData.int)) = true := by
  simp [SeqAt.shaped, PyData.canLay0, PyData.depth, lay_ints, dep_ints]
theorem eqv_ints : ∀ ns ms : List Int, PyData.eqvAll (ns.map PyData.int) (ms.map PyData.int) = decide (ns = ms)
  | [], [] => by simp [PyData.eqvAll]
  | [], m :: ms => by simp [PyData.eqvAll]
  | n :: ns, [] => by simp [PyData.eqvAll]
  | n :: ns, m :: ms => by
    rw [List.map_cons, List.map_cons, PyData.eqvAll, eqv_ints ns ms, PyData.eqv, Bool.eq_iff_iff]
    simp
section
variable {X : Cx} {CX : CXT} {k : Nat} {f : Addr} {fd : FuncData} {ps ks : List Str} {sp : Sp} {E : XK} {x : Str} {p pos : Pos} {kws : List Keyword} {tk : TA} {g : List Value → List Value → List Value} {gV : List V → List V → List V}
/-- f(k = v, ..) -/
theorem pe_callN0 (F : FnOk X.prog X.w X.K X.mg X.base CX k f fd ps sp) (hr : Room k X.A) (hg : Gl X x) (hm : X.mg x = some (.ref f)) (hk : PySem.W.keepIn X.K (.ref f) = true) (hb : KBn X.K fd ps 0 ks g gV) (hx : Passes CX X E)
    (hkw : PK X kws tk) (hall : (backToKw pos (keywordEach kws X.env)).all (·.1.isSome) = true := by rfl) (hks : (backToKw pos (keywordEach kws X.env)).filterMap (·.1) = ks := by rfl)
    (hdb : (x == ("__debug__" : Str)) = false := by decide) (hpl : ((backTo pos (starEach [] X.env)).any (·.1) || (backToKw pos (keywordEach kws X.env)).any (·.1.isNone)) = false := by rfl) :
    PE X (.Call (.Name x p) [] kws pos) (tCallN 0 ks.length sp gV E tNil tk) := by
  refine ⟨fun pins s σ H Q I h => ?_⟩
  refine wpAny_Call_Name_kw (ld_glob I hg hm ?_ hdb)
  refine PySem.W.callWith_KW0 (h₀ := X.base) I.ok.mod.kin hk hall (thn (hkw.run pos pins s σ H _ I h) fun ws s2 ⟨zs, H2, I2, rz, l1, l2, q2⟩ => ⟨I2.kIn, ?_⟩) hpl
  rw [hks]
  exact run_fnN (us := []) F hr hb hx I2 .nil rz l1 l2 q2
end
/-- a def without defaults, called by keywords alone, in the parameters' order -/
theorem fun_kb {K : PySem.W.Frag} {x qual : Str} {st : Stmt} {f : Addr} {fd : FuncData} {ps : List Str} (F : Fun K x qual st f fd)
    (h : ∀ (kV doc pm : Value) (an : Option Addr) (cdv ct : Value) (ws : List Value), ws.length = ps.length → bindArgs (PySem.W.fnOf x qual (defArgs st) (defBody st) (defScope st) .none kV doc pm an cdv ct) ⟨[], ps.zip ws⟩ = pure (ps.zip ws)) : KBn K fd ps 0 ps (fun _ ws => ws) (fun _ zs => zs) := by
  obtain ⟨oc, od, kV, doc, pm, an, cdv, ct, osl, rfl, lk, hcd⟩ := F.ex
  refine ⟨fun s us ws X l1 l2 => ?_, fun _ r => r⟩
  obtain rfl := List.eq_nil_of_length_eq_zero l1
  exact .of_eq (h kV doc pm an cdv ct ws l2)
/-- a def with defaults, called by keywords alone -/
theorem funD_kb {K : PySem.W.Frag} {x qual : Str} {params : Arguments} {body : List Stmt} {scope : Scope} {dvs : List V} {f : Addr} {fd : FuncData} {ps ks : List Str} {j : Nat} (F : FunD K x qual params body scope dvs [] f fd) (hd : dvs ≠ [])
    (h : ∀ (T : Addr) (kV doc pm : Value) (an : Option Addr) (cdv ct : Value) (its ws : List Value), its.length = dvs.length → ws.length = ks.length →
      ∃ k, bindArgs (PySem.W.fnOf x qual params body scope (.ref T) kV doc pm an cdv ct) ⟨[], ks.zip ws⟩ = seqItems? (.ref T) >>= k ∧ k (some its.toArray) = pure (ps.zip (ws ++ its.drop j))) :
    ∃ its : List Value, KBn K fd ps 0 ks (fun _ ws => ws ++ its.drop j) (fun _ zs => zs ++ dvs.drop j) := by
  obtain ⟨oc, od, dV, kV, doc, pm, an, cdv, ct, osl, rfl, lk, hcd, hD, hK⟩ := F.ex
  rcases hD with ⟨e, _⟩ | ⟨_, T, o, its, m, rfl, lT, oT, rT⟩
  · exact absurd e hd
  · refine ⟨its, fun s us ws X l1 l2 => ?_, fun _ r => r.append (rT.drop j)⟩
    obtain rfl := List.eq_nil_of_length_eq_zero l1
    obtain ⟨k, e1, e2⟩ := h T kV doc pm an cdv ct its ws rT.length.symm l2
    refine BindsTo.of_looks fun M => ?_
    rw [e1]
    exact looks_items X lT oT (.of_pure e2)
theorem call_reprB {X : Cx} : CallR X (.builtin "repr") (fun xs H Q => ∃ b : Bool, xs = [.bl b] ∧ Q (.str (if b = true then "True" else "False")) H) := fun pins s σ H xs us Q I r h => call_reprX pins s σ H xs us Q I r (.inr h)
theorem call_reprI {X : Cx} : CallR X (.builtin "repr") (fun xs H Q => ∃ i : Int, xs = [.int i] ∧ i.natAbs.log2 < 1920 ∧ Q (.str (toString i)) H) := fun pins s σ H xs us Q I r h => call_reprX pins s σ H xs us Q I r (.inl h)
def optV : Option Int → V
  | none => .non
  | some i => .int i
theorem is_int {K : PySem.W.Frag} {H : Hp} {v : V} (T : String) (h : TyN K H v T) : ((T == "int" || T == "bool") && !(T == "bool")) = (T == "int") := by
  cases h <;> decide
theorem Num.ty {K : PySem.W.Frag} {H : Hp} {v : V} {q : Int × Int} (h : Num K H v q) : ∃ T, TyN K H v T ∧ (T = "int" ∨ T = "list" ∨ T = "tuple") := by
  cases h with
  | int n => exact ⟨_, .int n, .inl rfl⟩
  | sq h c =>
    rcases h with h | h
    · exact ⟨_, .lst h, .inr (.inl rfl)⟩
    · exact ⟨_, .tup h, .inr (.inr rfl)⟩
theorem Sq.ty {K : PySem.W.Frag} {H : Hp} {p : Addr} {xs : List V} (h : Sq K H p xs) : ∃ T, TyN K H (.ref p) T ∧ (T == "list" || T == "tuple") = true := by
  rcases h with h | h
  · exact ⟨_, .lst h, by decide⟩
  · exact ⟨_, .tup h, by decide⟩
end Odd
/-! super().__init__(..) as the first statement of an __init__ -/
namespace L2
open PySem PySem.Spec PyProof.Rows
theorem super_at {X : Cx} {pins : List (Addr × Obj)} {σ : L2.St} {H : Hp} {s : Shared} {CX : CXT} {k j : Nat} {sp : Sp} {E : XK} {f cda C D f2 x dx : Addr} {fs : List (Str × V)} {oc ccl : Value} {od cdd : Option Addr} {osl ccs : Array (Option Value)} {fd : FuncData} {ar : Arg}
    {vs : Array Value} {file : Str} {tf : Tok} {cdD cdC : ClassData} {e : Expr} {es : List Expr} {ta : TA} {p0 p1 p2 p3 p4 : Pos} {body : List Stmt} {D' : Ends}
    (I : Inv X pins σ H s) (hks : X.env.kindOf "super" = some .globalImplicit) (hkc : X.env.kindOf "__class__" = some .free) (hfu : X.env.func = some f) (hco : X.env.code = .ref cda)
    (hf : X.K.lookup f = some ⟨oc, od, .func fd, osl⟩) (hp : (fd.params.posonlyargs ++ fd.params.args).head? = some ar)
    (hcode : X.K.lookup cda = some ⟨ccl, cdd, .fields vs, ccs⟩) (hvs : vs[2]? = some (.str file tf)) (hfile : ((X.prog.main.file : Str) == file) = true) (htop : (X.prog.main.scope.names.lookup ("super" : Str)).isSome = false)
    (hsm : X.mg "super" = none) (hboot : bootBuiltins "super" = some (.type "super"))
    (hN0 : X.N[0]? = some ar.arg) (hk0 : X.env.kindOf ar.arg = some .local) (hσ0 : σ[0]? = some (some (.ref x))) (hN1 : X.N[j]? = some "__class__") (hσ1 : σ[j]? = some (some (.ref D)))
    (hD : PySem.W.clsIn X.K D = some cdD) (hsub : PySem.W.mroIn X.K C (.ref D) = some true) (hC : PySem.W.clsIn X.K C = some cdC) (hi : H x = some (.ins C dx fs))
    (ho : PySem.W.nsIn X.K cStatics "thirdparty.any" = some none) (hm : PySem.W.ks_superIn X.K C D "__init__" = some (some (.ref f2))) (ht : PySem.W.typeIn X.K (.ref f2) = some (.type "function")) (hfi : PySem.W.fnIn X.K f2 = true)
    (F : FnR X.prog X.w X.K X.mg X.base CX k f2 sp) (hr : Room k X.A) (hx : Passes CX X E) (ha : PA X (e :: es) ta) (hint : interactive X.env = false)
    (q : ta σ H fun ws H1 => sp (.ref x :: ws) H1 (fun _ H2 => D'.nx σ H2) E)
    (hpl : (backTo p3 (starEach es X.env)).any (·.1) = false) (hse : starEach (e :: es) X.env = (false, eval e X.env) :: starEach es X.env)
    {pl : Sem Bool} (hev : eval (.Call (.Attribute (.Call (.Name "super" p0) [] [] p1) "__init__" p2) (e :: es) [] p3) X.env = (do
      let ov ← attributeBase (.Call (.Name "super" p0) [] [] p1) "__init__" X.env (eval (.Call (.Name "super" p0) [] [] p1) X.env)
      standAt p2.atName
      let (f, first) ← holding [ov] (getMethod ov "__init__" pl)
      callWith p3 f first (backTo p3 (starEach (e :: es) X.env)) []))
    (hsw : swapsWith (.Call (.Attribute (.Call (.Name "super" p0) [] [] p1) "__init__" p2) (e :: es) [] p3) none p4.line X.env = pure false) :
    PySem.wpAt (model X.prog X.w) X.A (.func body X.env) (exec (.Expr (.Call (.Attribute (.Call (.Name "super" p0) [] [] p1) "__init__" p2) (e :: es) [] p3) p4) X.env) (SP X pins D') X.xe s := by
  obtain ⟨m, hns, hlook⟩ := I.loc
  refine PySem.ks_wpAt_Expr_any (PySem.ks_wpAt_MethodCall (PySem.ks_wpAt_super_base hks hkc (by decide) hfu (I.kIn _ _ hf) rfl hp hco (I.kIn _ _ hcode) rfl hvs hfile htop ?_) hev) hint hsw
  have lim : PySem.W.clsIn X.K D = some cdD := hD
  obtain ⟨oD, hD1, hD2⟩ : ∃ oD, s.heap.get? D = some oD ∧ oD.data = .cls cdD := by
    unfold PySem.W.clsIn at hD
    split at hD
    · rename_i c d cd' sl ho
      cases hD
      exact ⟨_, I.kIn _ _ ho, rfl⟩
    · cases hD
  obtain ⟨u0, r0, l0⟩ := hlook 0 ar.arg _ hN0 hσ0 (.inl hk0)
  obtain rfl : u0 = Value.ref x := r0
  have m0 : m ar.arg = some (.ref x) := by
    rcases l0 with ⟨_, l0⟩ | ⟨l0 | l0, _⟩
    · exact l0
    · rw [hk0] at l0; cases l0
    · rw [hk0] at l0; cases l0
  obtain ⟨u1, r1, l1⟩ := hlook j "__class__" _ hN1 hσ1 (.inr (.inr hkc))
  obtain rfl : u1 = Value.ref D := r1
  obtain ⟨cc, hcc, hcv⟩ : ∃ c, X.env.cells.lookup ("__class__" : Str) = some c ∧ s.heap.IsCell c (some (.ref D)) := by
    rcases l1 with ⟨l1, _⟩ | ⟨_, l1⟩
    · rw [hkc] at l1; cases l1
    · exact l1
  obtain ⟨mb, b1, b2⟩ := I.mod.blt
  refine PySem.W.ks_loadName_global I.ok.kind hks (PySem.Calls.loadGlobal_builtin (by rw [I.ok.glob]; exact I.mod.glob.keeps I.bk) hsm (by rw [I.ok.blt]; exact b1.keeps I.bk) ((b2 _ (by decide)).trans hboot) ⟨rfl, ?_⟩)
  refine wpAny_loadName_free I.ok.kind hkc hcc hcv ?_
  refine wpAny_loadName_local I.ok.kind hk0 hns m0 ?_
  obtain ⟨mA, O, _⟩ := ins_get I.hok hi
  obtain ⟨odx, J, _⟩ := O.look
  obtain ⟨hh, g, d, t, os⟩ := s
  refine PySem.ks_wpAny_isType_cls hD1 hD2 ⟨rfl, ?_⟩
  refine PySem.ks_wpAny_call_super hD1 hD2 J.at_ J.cls (fun c e => ?_) (PySem.W.looks_mroIn I.kIn hsub) (fun h' e kp => ?_)
  · have := J.no
    unfold PySem.W.notCls at this
    rw [e] at this
    exact Bool.noConfusion this
  have I1 : Inv X ((hh.objs.size, PySem.W.ks_superObj D x C) :: pins) σ H ⟨h', g, d, t, os⟩ := ClX.pin_new (s := ⟨hh, g, d, t, os⟩) (t' := t) I kp (Nat.le_refl _) e (fun v z => nomatch z)
  have hm0 := hm
  unfold PySem.W.ks_superIn at hm
  rw [hC] at hm
  obtain ⟨of, hof, hofc⟩ : ∃ of, h'.get? f2 = some of ∧ of.cls = .type "function" := by
    have ht' : (X.K.lookup f2).map (·.cls) = some (.type "function") := ht
    cases z : X.K.lookup f2 with
    | none => rw [z] at ht'; cases ht'
    | some of => rw [z] at ht'; exact ⟨of, I1.kIn _ _ z, Option.some.inj ht'⟩
  refine PySem.ks_wpAny_getMethod_super (ClX.pin_at I1) (PySem.W.looks_opaque I1.kIn ho) (l₀ := cdC.mro) ?_ rfl I1.kIn hm hof hofc (PySem.W.ks_ne I.kIn J hC) (by decide) ?_
  · exact fun A Q E s k q => wpAny_bind ((PySem.W.looks_clsIn I1.kIn hC) A _ E s k (wpAny_pure q))
  have I2 : Inv X ((h'.objs.size, PySem.W.methodObj (.ref f2) (.ref x)) :: (hh.objs.size, PySem.W.ks_superObj D x C) :: pins) σ H ⟨h'.push (PySem.W.methodObj (.ref f2) (.ref x)), g, d, t + 1, os⟩ :=
    ClX.pin_new (s := ⟨h', g, d, t, os⟩) (t' := t + 1) I1 (fun _ _ z => Heap.get?_push_of_some _ z) (Nat.le_refl _) (Heap.get?_push_size h' rfl) (fun v z => nomatch z)
  have hb : X.base.get? h'.objs.size = none := ClX.base_none I1 (Nat.le_refl _)
  have hL : h'.objs.size ≠ X.env.locals := (I2.pin (h'.objs.size, PySem.W.methodObj (.ref f2) (.ref x)) (List.mem_append_right _ List.mem_cons_self)).2.2.1
  refine PySem.W.callWith_M (K := X.K) (h₀ := X.base) (first := []) I.ok.mod.kin (news_at hL hb (ClX.pin_at I2)) List.mem_cons_self hfi ?_ hse hpl
  refine thn (ha.run _ _ _ σ H _ I2 q) fun us s3 ⟨ws, H3, I3, rv, hsp⟩ => ⟨⟨ClX.pin_at I3, I3.kIn⟩, ?_⟩
  refine thn (wpAny_call (PySem.W.method_call (ClX.pin_at I3) (run_fnR (us := Value.ref x :: us) (vs := V.ref x :: ws) F hr hx I3 (.cons rfl rv) hsp))) fun u s4 h4 => ?_
  obtain ⟨v, H4, I4, _, q4⟩ := h4
  exact ⟨σ, H4, ClX.unpin (ClX.unpin I4), q4⟩

/-- a method with the cell __class__, by a run of its body at its own place -/
theorem fn_super {CX : CXT} {P : Program} {w : World} {K : PySem.W.Frag} {mg : Str → Option Value} {base : Heap} {N ps : List Str} {f cda cc D : Addr} {k : Nat} {sp : Sp} {name qual : Str} {params : Arguments} {body : List Stmt} {scope : Scope} {oc cl kV doc pm ct : Value} {od cld an : Option Addr} {osl csl : Array (Option Value)}
    (lk : K.lookup f = some ⟨oc, od, .func (PySem.W.fnX name qual params body scope [("__class__", cc)] .none kV doc pm an (.ref cda) ct), osl⟩) (hcd : PySem.W.codeIn K (.ref cda) qual = true) (hcell : K.lookup cc = some ⟨cl, cld, .cell (some (.ref D)), csl⟩)
    (S : NdefX.NScope N ps ["__class__"] scope) (len : ∀ vs H Q E, sp vs H Q E → vs.length = ps.length)
    (hbody : ∀ (A : Around) (outer : List Env) (s : Shared) (H : Hp) (vs : List V) (Q : VK) (E : XK), Room k (A.deeper (NdefX.envF ⟨name, qual, params, body, scope, [("__class__", cc)], cda⟩ f s.heap.objs.size)) → sp vs H Q E →
      ∀ s1, Inv (NdefX.ncx CX P w K mg base N ⟨name, qual, params, body, scope, [("__class__", cc)], cda⟩ f A outer s H E) [] (NdefX.startF N vs [some (.ref D)]) H s1 →
        PySem.wpAt (model P w) (A.deeper (NdefX.envF ⟨name, qual, params, body, scope, [("__class__", cc)], cda⟩ f s.heap.objs.size)) (.func body (NdefX.envF ⟨name, qual, params, body, scope, [("__class__", cc)], cda⟩ f s.heap.objs.size)) (execs body (NdefX.envF ⟨name, qual, params, body, scope, [("__class__", cc)], cda⟩ f s.heap.objs.size))
          (SP (NdefX.ncx CX P w K mg base N ⟨name, qual, params, body, scope, [("__class__", cc)], cda⟩ f A outer s H E) [] { nx := fun _ H' => Q .non H', rt := Q }) (NdefX.ncx CX P w K mg base N ⟨name, qual, params, body, scope, [("__class__", cc)], cda⟩ f A outer s H E).xe s1) :
    FnOk P w K mg base CX (k + 1) f (PySem.W.fnX name qual params body scope [("__class__", cc)] .none kV doc pm an (.ref cda) ct) ps sp := by
  refine ⟨len, fun A outer s H args us vs Q E hr e0 hbind r hsp => ?_⟩
  have hl := len _ _ _ _ hsp
  have up := fun b o (e : base.get? b = some o) => (e0.bs b o e).1
  have In := e0.mod.kin.keeps up
  have lim : s.heap.NoLimit := e0.mod.nolimit.keeps up
  refine PySem.ks_codeAny_call_defAt (body := body) (binds := ps.zip us) hr.depth (In _ _ lk) rfl lim (PySem.W.codeRec_of In hcd) rfl hbind S.nocell (fun ⟨n, _⟩ hy => S.par n (List.of_mem_zip hy).1) (fun h₁ hns kp => ?_) S.co S.gen S.kind
  have C : NdefX.CellsAt [("__class__", cc)] ["__class__"] [some (.ref D)] s.heap H := by
    have one : ∀ y c, ([(("__class__" : Str), cc)] : List (Str × Addr)).lookup y = some c → y = ("__class__" : Str) ∧ c = cc := fun y c e => by
      unfold List.lookup at e
      split at e
      · rename_i hy
        exact ⟨by simpa using hy, (Option.some.inj e).symm⟩
      · cases e
    refine ⟨rfl, fun y c e => ?_, fun x y c e1 e2 => ?_, fun i y e => ?_⟩
    · obtain ⟨_, rfl⟩ := one y c e
      obtain ⟨z1, z2⟩ := e0.bs _ _ (e0.mod.kin _ _ hcell)
      exact ⟨z2, _, _, z1, rfl⟩
    · rw [(one x c e1).1, (one y c e2).1]
    · match i, e with
      | 0, e =>
        cases e
        refine ⟨cc, by simp [List.lookup], fun v ev => ?_⟩
        cases ev
        exact ⟨.ref D, rfl, _, In _ _ hcell, rfl⟩
  have I := NdefX.inv_startN (CX := CX) (mg := mg) (base := base) (E := E) (F := ⟨name, qual, params, body, scope, [("__class__", cc)], cda⟩) (f := f) (tk := s.toks + (ps.zip us).length) S hr.hd e0 hl r C hns kp
  refine PySem.ks_wpAt_mono (hbody A outer s H vs Q E (hr.deeper _) hsp _ I) (fun fl s' hs => ?_) fun e s' hs => hs
  cases fl with
  | ret u =>
    obtain ⟨v, σ', H', J, rv, q⟩ := hs
    exact ⟨v, H', J.os, J.bare, J.base, J.hok, rv, q⟩
  | next =>
    obtain ⟨σ', H', J, q⟩ := hs
    exact ⟨.non, H', J.os, J.bare, J.base, J.hok, rfl, q⟩
  | brk =>
    obtain ⟨_, _, _, q⟩ := hs
    exact False.elim q
  | cont =>
    obtain ⟨_, _, _, q⟩ := hs
    exact False.elim q
end L2
/-! truth and length by an own __bool__, __len__ -/
namespace L2
open PySem PySem.Spec PyProof.Rows
theorem odd_special {prog : Program} {w : World} {A : Around} {E : Value → Shared → Prop} {s : Shared} {K : PySem.W.Frag} {a C f : Addr} {ox : Obj} {od : Option Obj} {name : Str} {args : List Value} {Q : Option Value → Shared → Prop}
    (X : K.In s.heap) (I : PySem.W.InstAt s.heap a ox C od) (hm : PySem.W.findIn K (.ref C) name = some (some (.ref f))) (hf : PySem.W.typeIn K (.ref f) = some (.type "function"))
    (q : wpAny (model prog w) A (call (.ref f) (.ref a :: args)) (fun v s' => Q (some v) s') E s) : wpAny (model prog w) A (callSpecial? (.ref a) name args) Q E s := by
  unfold callSpecial? specialOf
  refine wpAny_bind (wpAny_bind (I.type.here ((PySem.W.looks_findIn X hm).here ?_)))
  refine wpAny_holding ?_
  refine wpAny_bind ((PySem.W.bind_fn X _ hf).here ?_)
  exact wpAny_bind (wpAny_mono q (fun v s' z => wpAny_pure z) fun _ _ z => z)
def tBoolO (C : Addr) (sp : Sp) (te : TE) : TT := fun σ H Q => te σ H fun x H1 => ∃ a dx fs, x = .ref a ∧ H1 a = some (.ins C dx fs) ∧ sp [.ref a] H1 (fun v H2 => ∃ b, v = .bl b ∧ Q b H2) E0
theorem pt_boolO {X : Cx} {C f : Addr} {k : Nat} {sp : Sp} {e : Expr} {te : TE} (hm : PySem.W.findIn X.K (.ref C) "__bool__" = some (some (.ref f))) (hf : PySem.W.typeIn X.K (.ref f) = some (.type "function"))
    (F : FnR X.prog X.w X.K X.mg X.base CX0 k f sp) (hr : Room k X.A) (he : PE X e te) (hw : ∀ whole, isTrue e X.env whole = (do let v ← whole; standAt e.pos; holding [v] (truthy v)) := by intro _; rfl) : PT X e (tBoolO C sp te) := by
  refine ⟨fun pins s σ H Q I h => ?_⟩
  refine isTrue_plain (thn (he.run pins s σ H _ I h) fun v s1 ⟨x, H1, I1, r1, a, dx, fs, ex, ea, hsp⟩ => ?_) (hw _)
  subst ex
  obtain rfl : v = Value.ref a := r1
  obtain ⟨mA, O, _⟩ := ins_get I1.hok ea
  obtain ⟨odx, J, _⟩ := O.look
  unfold truthy
  have go : wpAny (model X.prog X.w) X.A (callSpecial? (.ref a) "__bool__") (fun r s' => ∃ b, r = some (.bool b) ∧ TP X pins σ Q b s') X.xe s1 := by
    refine odd_special I1.kIn J hm hf (thn (wpAny_call (run_fnR (us := [Value.ref a]) (vs := [V.ref a]) F hr pass0 I1 (.cons rfl .nil) hsp)) fun u s2 h2 => ?_)
    obtain ⟨y, H2, I2, ry, b, ey, q⟩ := h2
    subst ey
    obtain rfl : u = Value.bool b := ry
    exact ⟨b, rfl, H2, I2, q⟩
  first
    | (refine wpAny_bind (m := callSpecial? (.ref a) (Str.ofString "__bool__")) (thn go fun r s2 h2 => ?_); obtain ⟨b, rfl, q⟩ := h2; exact wpAny_pure q)
    | (refine wpAny_bind (wpAny_pure ?_); refine wpAny_bind (m := callSpecial? (.ref a) (Str.ofString "__bool__")) (thn go fun r s2 h2 => ?_); obtain ⟨b, rfl, q⟩ := h2; exact wpAny_pure q)
def rLenO (C : Addr) (sp : Sp) : List V → Hp → VK → Prop := fun xs H Q => ∃ a dx fs, xs = [.ref a] ∧ H a = some (.ins C dx fs) ∧ sp [.ref a] H (fun v H2 => ∃ n : Int, v = .int n ∧ 0 ≤ n ∧ n < 2 ^ 63 ∧ Q (.int n) H2) E0
theorem call_lenO {X : Cx} {C f : Addr} {k : Nat} {sp : Sp} (hm : PySem.W.findIn X.K (.ref C) "__len__" = some (some (.ref f))) (hf : PySem.W.typeIn X.K (.ref f) = some (.type "function"))
    (F : FnR X.prog X.w X.K X.mg X.base CX0 k f sp) (hr : Room (k + 1) X.A) : CallR X (.builtin "len") (rLenO C sp) := by
  intro pins s σ H xs us Q I r h
  obtain ⟨a, dx, fs, rfl, ea, hsp⟩ := h
  obtain ⟨u, rfl, ru⟩ := vals1 r
  obtain rfl : u = Value.ref a := ru
  obtain ⟨mA, O, _⟩ := ins_get I.hok ea
  obtain ⟨odx, J, _⟩ := O.look
  refine PySem.Calls.call_function_entry PySem.kind_len PySem.plain_len PySem.entry_len (PySem.args_len1 _) ?_
  unfold PySem.Builtin.«len»
  refine wpAny_bind (m := PySem.oneArg "len" _) (wpAny_pure ?_)
  have go : wpAny (model X.prog X.w) X.A.in1 (call (.ref f) [.ref a]) (fun u s2 => ∃ n t, u = Value.int n t ∧ 0 ≤ n ∧ n < 2 ^ 63 ∧ EP X pins σ Q (.int n s2.toks) { s2 with toks := s2.toks + 1 }) X.xe s := by
    refine wpAny_call (codeAny_mono (F X.A.in1 X.stack s H [.ref a] [.ref a] _ E0 hr.in1 I.env0.in1 (.cons rfl .nil) hsp) fun r s' hq => ?_)
    match r, hq with
    | .error e, hq => exact hq.elim
    | .ok (.ret u), hq =>
      obtain ⟨y, H2, I2, ry, n, ey, n0, n1, q⟩ := I.after hq
      subst ey
      obtain ⟨t, rfl⟩ := ry
      exact ⟨n, t, rfl, n0, n1, .int n, H2, I2.tok _, ⟨_, rfl⟩, q⟩
  refine wpAny_bind (m := callSpecial? (.ref a) (Str.ofString "__len__")) (odd_special I.kIn J hm hf (thn go fun u s2 h2 => ?_))
  obtain ⟨n, t, rfl, h0, h1, hq⟩ := h2
  refine wpAny_bind (wpAny_holding (wpAny_pure ?_))
  refine wpAny_bind (wpAny_letGo ?_)
  show wpAny _ _ (if n < 0 then _ else _) _ _ _
  rw [if_neg (by omega)]
  show wpAny _ _ (if n ≥ 2 ^ 63 then _ else _) _ _ _
  rw [if_neg (by omega)]
  exact wpAny_bind (wpAny_mkInt (wpAny_pure ⟨_, rfl, hq⟩))
/-- what is never reached -/
theorem pe_never {X : Cx} {e : Expr} : PE X e (fun _ _ _ => False) := ⟨fun _ _ _ _ _ _ h => h.elim⟩
/-- a method's text -/
structure MDef (K : PySem.W.Frag) (m qual : Str) (st : Stmt) (f : Addr) (fd : FuncData) (ps : List Str) : Prop where
  F : Fun K m qual st f fd
  b : Binds K fd ps []
/-- an __init__ whose class is C, its code at cda, the cell __class__ at cc; above it the __init__ at f2 -/
structure SupF (K : PySem.W.Frag) (qual : Str) (st : Stmt) (C f cda cc f2 : Addr) (fd : FuncData) : Prop where
  lk : ∃ (oc kV doc pm ct cl : Value) (od an cld : Option Addr) (osl csl : Array (Option Value)), fd = PySem.W.fnX "__init__" qual (defArgs st) (defBody st) (defScope st) [("__class__", cc)] .none kV doc pm an (.ref cda) ct ∧
    K.lookup f = some ⟨oc, od, .func fd, osl⟩ ∧ K.lookup cc = some ⟨cl, cld, .cell (some (.ref C)), csl⟩
  code : PySem.W.codeIn K (.ref cda) qual = true
  cod : ∃ (ccl : Value) (cdd : Option Addr) (vs : Array Value) (ccs : Array (Option Value)) (file : Str) (tf : Tok), K.lookup cda = some ⟨ccl, cdd, .fields vs, ccs⟩ ∧ vs[2]? = some (.str file tf) ∧ file = "/claim/cut.py"
  cC : ∃ cd, PySem.W.clsIn K C = some cd
  sub : PySem.W.mroIn K C (.ref C) = some true
  sup : PySem.W.ks_superIn K C C "__init__" = some (some (.ref f2))
  ty : PySem.W.typeIn K (.ref f2) = some (.type "function")
  fi : PySem.W.fnIn K f2 = true
  opq : PySem.W.nsIn K cStatics "thirdparty.any" = some none
end L2
/-! tuple(zip(t1, t2)) of two tuples -/
namespace OZ
open PySem PySem.Spec PyProof.Rows L2 RZ
theorem nolen_zip : typeLookup (.type "zip") "__len__" = pure none := by rw [typeLookup_type, builtinLookup_eq_fast]; kernel_rfl
theorem nohint_zip : typeLookup (.type "zip") "__length_hint__" = pure none := by rw [typeLookup_type, builtinLookup_eq_fast]; kernel_rfl
section
variable {prog : Program} {w : World} {A : Around} {E : Value → Shared → Prop} {s : Shared}
theorem held_item {z TI TO T i1 i2 l1 l2 : Addr} {f : Bool} {oT : Obj} {k1 k2 : Nat} {xs ys : Array Value} {x y : Value} {Q : Option Value → Shared → Prop} (D : ZipApart z TI TO i1 i2 l1 l2)
    (hz : IsZipHeld s.heap z TI TO T f) (hT : s.heap.get? T = some oT) (hTI : IsPair s.heap TI (.ref i1) (.ref i2))
    (h1 : s.heap.IsTupleIter i1 l1 k1) (h2 : s.heap.IsTupleIter i2 l2 k2) (hl1 : s.heap.IsTuple l1 xs) (hl2 : s.heap.IsTuple l2 ys) (hx : xs[k1]? = some x) (hy : ys[k2]? = some y)
    (hQ : ∀ h', IsZipHeld h' z TI TO T true → h'.IsTupleIter i1 l1 (k1 + 1) → h'.IsTupleIter i2 l2 (k2 + 1) → IsPair h' s.heap.objs.size x y → h'.objs.size = s.heap.objs.size + 1 →
      (∀ c o, c ≠ z → c ≠ i1 → c ≠ i2 → s.heap.get? c = some o → h'.get? c = some o) → Q (some (.ref s.heap.objs.size)) { s with heap := h' }) :
    wpAny (model prog w) A (pyNext (.ref z)) Q E s := by
  have hTy : s.TypeIs (.ref z) "zip" := ⟨_, hz, rfl⟩
  unfold pyNext
  refine wpAny_bind (wpAny_attempt (wpAny_callSpecial?_slot (name := Str.ofString "__next__") hTy F.slot_zip_next
    (wpAny_call_entry F.slot_zip_next hTy F.entry_zip_next ?_ (F.args_zip_next_1 _))))
  show wpAny _ _ (field (.ref z) 2 >>= _) _ _ _
  refine wpAny_bind (wpAny_field hz rfl (x := .bool false) rfl ?_)
  show wpAny _ _ (field (.ref z) 3 >>= _) _ _ _
  refine wpAny_bind (wpAny_field hz rfl (x := .ref TI) rfl ?_)
  refine wpAny_bind (wpAny_seqItems hTI rfl ?_)
  show wpAny _ _ (Builtin.SmallTypes.ownedTupleIsFree (.ref z) >>= _) _ _ _
  refine wpAny_bind (wpAny_tupleHeld_zip hz hT fun h₁ hz₁ hs₁ => ?_)
  simp only [Bool.false_eq_true, if_false]
  refine wpAny_bind ?_
  rw [← Array.forIn_toList]
  simp only [List.forIn_cons, List.forIn_nil]
  refine wpAny_bind (wpAny_bind (wpAny_holding ?_))
  show wpAny _ _ (Builtin.SmallTypes.nextOf (.ref i1) >>= _) _ _ _
  refine wpAny_bind (nextOf_tuple_item (s := { s with heap := h₁ }) (h1.extBut hs₁.extBut D.i1z) (hl1.extBut hs₁.extBut D.l1z) hx fun h₂ h1₂ hs₂ => wpAny_pure ?_)
  refine wpAny_pure ?_
  refine wpAny_bind (wpAny_bind (wpAny_holding ?_))
  show wpAny _ _ (Builtin.SmallTypes.nextOf (.ref i2) >>= _) _ _ _
  refine wpAny_bind (nextOf_tuple_item (s := { s with heap := h₂ }) ((h2.extBut hs₁.extBut D.i2z).extBut hs₂.extBut D.i12.symm) ((hl2.extBut hs₁.extBut D.l2z).extBut hs₂.extBut D.l2i1) hy fun h₃ h2₃ hs₃ => wpAny_pure ?_)
  refine wpAny_pure (wpAny_pure ?_)
  show wpAny _ _ (newTuple [x, y] >>= _) _ _ _
  refine wpAny_bind (wpAny_newTuple ?_)
  have hsz : h₃.objs.size = s.heap.objs.size := by rw [hs₃.1, hs₂.1, hs₁.1]
  have hz₃ : IsZipHeld h₃ z TI TO T true := hs₃.extBut _ _ D.i2z.symm (hs₂.extBut _ _ D.i1z.symm hz₁)
  have hk : ∀ c o, c ≠ z → c ≠ i1 → c ≠ i2 → s.heap.get? c = some o → h₃.get? c = some o := fun c o c1 c2 c3 e => hs₃.extBut _ _ c3 (hs₂.extBut _ _ c2 (hs₁.extBut _ _ c1 e))
  have h1₃ : h₃.IsTupleIter i1 l1 (k1 + 1) := h1₂.extBut hs₃.extBut D.i12
  refine wpAny_pure ⟨_, rfl, wpAny_pure ?_⟩
  show Q (some (.ref h₃.objs.size)) _
  have hp : IsPair (h₃.push { cls := .type "tuple", data := .seq #[x, y] }) h₃.objs.size x y := Heap.get?_push_size _ rfl
  have hz4 : (h₃.push { cls := .type "tuple", data := .seq #[x, y] }).objs.size = h₃.objs.size + 1 := Heap.size_push ..
  rw [hsz] at hp hz4 ⊢
  exact hQ _ (Heap.get?_push_of_some _ hz₃) (h1₃.at fun o e => Heap.get?_push_of_some _ e) (h2₃.at fun o e => Heap.get?_push_of_some _ e) hp hz4 fun c o c1 c2 c3 e => Heap.get?_push_of_some _ (hk c o c1 c2 c3 e)
theorem held_end {z TI TO T i1 i2 l1 l2 : Addr} {f : Bool} {oT : Obj} {k1 : Nat} {xs : Array Value} {Q : Option Value → Shared → Prop} (hh : A.handled = none) (D : ZipApart z TI TO i1 i2 l1 l2)
    (hz : IsZipHeld s.heap z TI TO T f) (hT : s.heap.get? T = some oT) (hTI : IsPair s.heap TI (.ref i1) (.ref i2))
    (h1 : s.heap.IsTupleIter i1 l1 k1) (hl1 : s.heap.IsTuple l1 xs) (hend : xs[k1]? = none)
    (hQ : ∀ h', (∀ c o, c ≠ z → c ≠ i1 → c ≠ i2 → s.heap.get? c = some o → h'.get? c = some o) → Q none { s with heap := h' }) :
    wpAny (model prog w) A (pyNext (.ref z)) Q E s := by
  have hTy : s.TypeIs (.ref z) "zip" := ⟨_, hz, rfl⟩
  unfold pyNext
  refine wpAny_bind (wpAny_attempt (wpAny_callSpecial?_slot (name := Str.ofString "__next__") hTy F.slot_zip_next
    (wpAny_call_entry F.slot_zip_next hTy F.entry_zip_next ?_ (F.args_zip_next_1 _))))
  show wpAny _ _ (field (.ref z) 2 >>= _) _ _ _
  refine wpAny_bind (wpAny_field hz rfl (x := .bool false) rfl ?_)
  show wpAny _ _ (field (.ref z) 3 >>= _) _ _ _
  refine wpAny_bind (wpAny_field hz rfl (x := .ref TI) rfl ?_)
  refine wpAny_bind (wpAny_seqItems hTI rfl ?_)
  show wpAny _ _ (Builtin.SmallTypes.ownedTupleIsFree (.ref z) >>= _) _ _ _
  refine wpAny_bind (wpAny_tupleHeld_zip hz hT fun h₁ hz₁ hs₁ => ?_)
  simp only [Bool.false_eq_true, if_false]
  refine wpAny_bind ?_
  rw [← Array.forIn_toList]
  simp only [List.forIn_cons, List.forIn_nil]
  refine wpAny_bind (wpAny_bind (wpAny_holding ?_))
  show wpAny _ _ (Builtin.SmallTypes.nextOf (.ref i1) >>= _) _ _ _
  refine wpAny_bind (nextOf_tuple_end (s := { s with heap := h₁ }) hh (h1.extBut hs₁.extBut D.i1z) (hl1.extBut hs₁.extBut D.l1z) hend fun h₂ e hs₂ he => ?_)
  obtain ⟨o, ho, hc⟩ := he
  refine wpAny_bind (wpAny_isInstance (T := "StopIteration") (b := true) ⟨o, ho, hc⟩ isSubtype_stop ?_)
  exact wpAny_pure (hQ _ fun c o c1 c2 _ x => hs₂ _ _ c2 (hs₁.extBut _ _ c1 x))
end
theorem sqT_keep {K : PySem.W.Frag} {H H' : Hp} {p : Addr} {xs : List V} (k : ∀ b o, H b = some o → H' b = some o) (h : SqT K H p xs) : SqT K H' p xs := by
  rcases h with (h | ⟨o, h⟩) | h
  · exact .inl (.inl (k _ _ h))
  · exact .inl (.inr ⟨o, k _ _ h⟩)
  · exact .inr h
def ZFree (h : Heap) (z TI TO : Addr) : Prop := IsZip h z TI TO .none ∧ ∃ a b, IsPair h TO a b
def ZHeld (h : Heap) (z TI TO S : Addr) : Prop := ∃ T f oT, IsZipHeld h z TI TO T f ∧ h.get? T = some oT ∧ S < T
section
variable {prog : Program} {w : World} {A : Around} {E : Value → Shared → Prop} {s : Shared}
theorem either_item {z TI TO i1 i2 l1 l2 S : Addr} {i : Nat} {xs ys : Array Value} {x y : Value} {Q : Option Value → Shared → Prop} (D : ZipApart z TI TO i1 i2 l1 l2)
    (hst : ZFree s.heap z TI TO ∨ ZHeld s.heap z TI TO S) (hTI : IsPair s.heap TI (.ref i1) (.ref i2)) (lz : z < S) (lTI : TI < S) (li1 : i1 < S) (li2 : i2 < S) (lS : S < s.heap.objs.size)
    (h1 : s.heap.IsTupleIter i1 l1 i) (h2 : s.heap.IsTupleIter i2 l2 i) (hl1 : s.heap.IsTuple l1 xs) (hl2 : s.heap.IsTuple l2 ys) (hx : xs[i]? = some x) (hy : ys[i]? = some y)
    (hQ : ∀ h', ZHeld h' z TI TO S → IsPair h' TI (.ref i1) (.ref i2) → h'.IsTupleIter i1 l1 (i + 1) → h'.IsTupleIter i2 l2 (i + 1) → IsPair h' s.heap.objs.size x y →
      (∀ c o, c ≠ z → c ≠ TO → c ≠ i1 → c ≠ i2 → s.heap.get? c = some o → h'.get? c = some o) → Q (some (.ref s.heap.objs.size)) { s with heap := h' }) :
    wpAny (model prog w) A (pyNext (.ref z)) Q E s := by
  rcases hst with ⟨hz, a, b, hTO⟩ | ⟨T, f, oT, hz, hT, lT⟩
  · exact pyNext_zipT_item D hz hTI hTO h1 h2 hl1 hl2 hx hy fun h' z' _ a1 a2 a3 _ a5 => hQ h' ⟨_, false, _, z', a3, lS⟩ (a5 _ _ D.TIz D.TITO D.TIi1 D.TIi2 hTI) a1 a2 a3 a5
  · refine held_item D hz hT hTI h1 h2 hl1 hl2 hx hy fun h' z' a1 a2 a3 _ a5 => hQ h' ⟨T, true, oT, z', a5 _ _ ?_ ?_ ?_ hT, lT⟩ (a5 _ _ D.TIz D.TIi1 D.TIi2 hTI) a1 a2 a3 (fun c o c1 _ c3 c4 e => a5 c o c1 c3 c4 e)
    · exact Nat.ne_of_gt (Nat.lt_trans lz lT)
    · exact Nat.ne_of_gt (Nat.lt_trans li1 lT)
    · exact Nat.ne_of_gt (Nat.lt_trans li2 lT)
end
/-- the tuples told so far -/
def Told (H : Hp) (xs ys : List V) (Ts : List Addr) : Prop := ∀ (j : Nat) (T : Addr), Ts[j]? = some T → ∃ x y, xs[j]? = some x ∧ ys[j]? = some y ∧ H T = some (.tup [x, y])
theorem told_snoc {H : Hp} {xs ys : List V} {Ts : List Addr} {T : Addr} {x y : V} (t : Told H xs ys Ts) (hn : H T = none) (hx : xs[Ts.length]? = some x) (hy : ys[Ts.length]? = some y) : Told (upd H T (.tup [x, y])) xs ys (Ts ++ [T]) := by
  intro j U hj
  rw [List.getElem?_append] at hj
  split at hj
  · obtain ⟨a, b, e1, e2, e3⟩ := t j U hj
    exact ⟨a, b, e1, e2, by rw [upd_ne (ne_of_none e3 hn)]; exact e3⟩
  · rename_i hlt
    have e : j = Ts.length := by
      have := (List.getElem?_eq_some_iff.mp hj).1
      simp at this
      omega
    subst e
    simp at hj
    subst hj
    exact ⟨x, y, hx, hy, upd_same⟩
theorem zip_loop {X : Cx} {pins : List (Addr × Obj)} {σ : L2.St} {A : Around} {l1 l2 z TI TO i1 i2 S : Addr} {xs ys : List V} {H1 : Hp} {R : Result → Shared → Prop} {res : Value} (hh : A.in1.handled = none) (D : ZipApart z TI TO i1 i2 l1 l2)
    (lz : z < S) (lTI : TI < S) (lTO : TO < S) (li1 : i1 < S) (li2 : i2 < S) (hlen : xs.length = ys.length) (hn : xs.length ≤ sizeLine) (hl1 : SqT X.K H1 l1 xs) (hl2 : SqT X.K H1 l2 ys) :
    ∀ (k i : Nat) (s : Shared) (H : Hp) (acc : Array Value) (c : Nat) (Ts : List Addr), xs.length - i = k → i ≤ xs.length → Inv X pins σ H s → (∀ b o, H1 b = some o → H b = some o) → (∀ b ∈ [z, TI, TO, i1, i2, S], FpOk X pins H b) →
    ((i = 0 ∧ i < xs.length ∧ ZFree s.heap z TI TO) ∨ ZHeld s.heap z TI TO S) → IsPair s.heap TI (.ref i1) (.ref i2) → s.heap.IsTupleIter i1 l1 i → s.heap.IsTupleIter i2 l2 i →
    s.heap.get? S = some { cls := .type "list", dict := none, data := .seq acc c, slots := #[] } → acc.toList = Ts.map Value.ref → Ts.length = i → Told H xs ys Ts →
    (∀ s' H' acc' c' Ts', Inv X pins σ H' s' → (∀ b o, H1 b = some o → H' b = some o) → s'.heap.get? S = some { cls := .type "list", dict := none, data := .seq acc' c', slots := #[] } → acc'.toList = Ts'.map Value.ref → Ts'.length = xs.length → Told H' xs ys Ts' → R (.ok (.ret res)) s') →
    codeAny (model X.prog X.w) A (.builtin "list.extend.loop" ⟨[.ref S, .ref z, res], []⟩) R s := by
  intro k
  induction k with
  | zero =>
    intro i s H acc c Ts hk hi I km hf hst hTI h1 h2 hS ha hl ht hR
    have hin : i = xs.length := by omega
    rcases hst with ⟨_, hlt, _⟩ | ⟨T, f, oT, hz, hT, lT⟩
    · omega
    refine codeAny_builtin F.entry_extend_loop ?_
    rw [Around.under_plainId F.plain_extend_loop _]
    show wpAny _ A.in1 (pyNext (.ref z) >>= _) _ _ s
    obtain ⟨its, rv, p1, _⟩ := I.tuple (sqT_keep km hl1)
    have q1 := rv.length
    refine wpAny_bind (held_end (l2 := l2) hh D hz hT hTI h1 (show s.heap.IsTuple l1 its.toArray from p1) (by simp; omega) fun h' hk' => ?_)
    have I1 : Inv X pins σ H { s with heap := h' } := I.turnedL (t' := s.toks) (ch := [z, TI, TO, i1, i2, S]) (fun b o hb e => hk' b o (fun q => hb (by simp [q])) (fun q => hb (by simp [q])) (fun q => hb (by simp [q])) e) hf
    exact wpAny_pure (hR _ H acc c Ts I1 km (hk' _ _ (Nat.ne_of_gt lz) (Nat.ne_of_gt li1) (Nat.ne_of_gt li2) hS) ha (hl.trans hin) ht)
  | succ k ih =>
    intro i s H acc c Ts hk hi I km hf hst hTI h1 h2 hS ha hl ht hR
    have hlt : i < xs.length := by omega
    have hlt2 : i < ys.length := by omega
    refine codeAny_builtin F.entry_extend_loop ?_
    rw [Around.under_plainId F.plain_extend_loop _]
    show wpAny _ A.in1 (pyNext (.ref z) >>= _) _ _ s
    obtain ⟨its, rv, p1, _⟩ := I.tuple (sqT_keep km hl1)
    obtain ⟨its2, rv2, p2, _⟩ := I.tuple (sqT_keep km hl2)
    obtain ⟨x, hx⟩ : ∃ x, xs[i]? = some x := ⟨_, List.getElem?_eq_getElem hlt⟩
    obtain ⟨y, hy⟩ : ∃ y, ys[i]? = some y := ⟨_, List.getElem?_eq_getElem hlt2⟩
    obtain ⟨u, hu, ru⟩ := rv.get hx
    obtain ⟨u2, hu2, ru2⟩ := rv2.get hy
    have hN : H s.heap.objs.size = none := I.hok.fresh (Nat.le_refl _)
    have lS : S < s.heap.objs.size := Heap.lt_size hS
    refine wpAny_bind (either_item (S := S) D (hst.elim (fun q => .inl q.2.2) .inr) hTI lz lTI li1 li2 lS h1 h2 (show s.heap.IsTuple l1 its.toArray from p1) (show s.heap.IsTuple l2 its2.toArray from p2) (x := u) (y := u2) (by simpa using hu) (by simpa using hu2) fun h' hz' hTI' h1' h2' hT' hk' => ?_)
    have new : ObjOk X.prog X.w (upd H s.heap.objs.size (.tup [x, y])) h' s.heap.objs.size (.tup [x, y]) :=
      ⟨by show 2 ≤ sizeLine; decide, [u, u2], .cons ru (.cons ru2 .nil), ⟨_, hT', rfl, _, rfl⟩⟩
    have I1 : Inv X pins σ (upd H s.heap.objs.size (.tup [x, y])) { s with heap := h' } :=
      I.turnedNew (t' := s.toks) (ch := [z, TI, TO, i1, i2, S]) (fun b o hb e => hk' b o (fun q => hb (by simp [q])) (fun q => hb (by simp [q])) (fun q => hb (by simp [q])) (fun q => hb (by simp [q])) e) hf (Nat.le_refl _) new
    have hS' := hk' _ _ (Nat.ne_of_gt lz) (Nat.ne_of_gt lTO) (Nat.ne_of_gt li1) (Nat.ne_of_gt li2) hS
    have hf' : ∀ b ∈ [z, TI, TO, i1, i2, S], FpOk X pins (upd H s.heap.objs.size (.tup [x, y])) b := fun b hb => by
      have hlb : b < s.heap.objs.size := by
        have e' : b = z ∨ b = TI ∨ b = TO ∨ b = i1 ∨ b = i2 ∨ b = S := by simpa using hb
        rcases e' with q | q | q | q | q | q
        · rw [q]; exact Nat.lt_trans lz lS
        · rw [q]; exact Nat.lt_trans lTI lS
        · rw [q]; exact Nat.lt_trans lTO lS
        · rw [q]; exact Nat.lt_trans li1 lS
        · rw [q]; exact Nat.lt_trans li2 lS
        · rw [q]; exact lS
      obtain ⟨f0, f1⟩ := hf b hb
      exact ⟨by rw [upd_ne (Nat.ne_of_lt hlb)]; exact f0, f1⟩
    have hal : acc.size = i := by
      have := congrArg List.length ha
      simp at this
      omega
    show wpAny _ A.in1 (updateSeq S (·.push (.ref s.heap.objs.size)) >>= _) _ _ _
    refine wpAny_bind ?_
    refine wpAny_updateSeq hS' rfl (wpAny_pure ⟨plainId_quiet F.plain_extend_loop _, ih (i + 1) _ (upd H s.heap.objs.size (.tup [x, y])) (acc.push (.ref s.heap.objs.size)) _ (Ts ++ [s.heap.objs.size]) (by omega) (by omega) ?_ ?_ hf' (.inr ?_) ?_ ?_ ?_ (Heap.get?_update_self _ hS' rfl) ?_ ?_ ?_ hR⟩)
      (by rw [hal]; omega) (by show (acc.push (.ref s.heap.objs.size)).size ≤ sizeLine + 1; rw [Array.size_push, hal]; omega)
    · exact I1.turnedL (t' := s.toks) (ch := [S]) (fun b o hb e => (Heap.get?_update_other _ _ (fun h : S = b => hb (by simp [h]))).trans e) (fun b hb => hf' b (by
        have e' : b = S := by simpa using hb
        simp [e']))
    · intro b o e
      rw [upd_ne (ne_of_none (km b o e) hN)]
      exact km b o e
    · obtain ⟨T, f, oT, hz, hT, lT⟩ := hz'
      exact ⟨T, f, oT, (Heap.get?_update_other _ _ (Nat.ne_of_gt lz)).trans hz, (Heap.get?_update_other _ _ (Nat.ne_of_lt lT)).trans hT, lT⟩
    · exact (Heap.get?_update_other _ _ (Nat.ne_of_gt lTI)).trans hTI'
    · exact h1'.at fun o e => (Heap.get?_update_other _ _ (Nat.ne_of_gt li1)).trans e
    · exact h2'.at fun o e => (Heap.get?_update_other _ _ (Nat.ne_of_gt li2)).trans e
    · simp [ha]
    · simp [hl]
    · exact told_snoc ht hN (by rw [hl]; exact hx) (by rw [hl]; exact hy)
/-- tuple(zip(a, b)) -/
def tTupZip (K : PySem.W.Frag) (ta : TA) : TE := fun σ H Q => ta σ H fun vs H1 => ∃ (a b : Addr) (xs ys : List V), vs = [.ref a, .ref b] ∧ SqT K H1 a xs ∧ SqT K H1 b ys ∧ xs.length = ys.length ∧ 0 < xs.length ∧
  ∀ H2 t Ts, (∀ c o, H1 c = some o → H2 c = some o) → H2 t = some (.tup (Ts.map V.ref)) → Ts.length = xs.length → Told H2 xs ys Ts → Q (.ref t) H2
theorem vals_refs : ∀ {Ts : List Addr}, Vals (Ts.map V.ref) (Ts.map Value.ref)
  | [] => .nil
  | _ :: _ => .cons rfl vals_refs
theorem zip_collect {X : Cx} {pins : List (Addr × Obj)} {σ : L2.St} {A : Around} {E : Value → Shared → Prop} {l1 l2 z TI TO i1 i2 : Addr} {xs ys : List V} {H1 : Hp} {s : Shared} {Q : List Value → Shared → Prop} (hh : A.handled = none) (D : ZipApart z TI TO i1 i2 l1 l2)
    (hlen : xs.length = ys.length) (h0 : 0 < xs.length) (hn : xs.length ≤ sizeLine) (hl1 : SqT X.K H1 l1 xs) (hl2 : SqT X.K H1 l2 ys) (I : Inv X pins σ H1 s) (hf : ∀ b ∈ [z, TI, TO, i1, i2], FpOk X pins H1 b ∧ b < s.heap.objs.size)
    (hz : ZFree s.heap z TI TO) (hTI : IsPair s.heap TI (.ref i1) (.ref i2)) (h1 : s.heap.IsTupleIter i1 l1 0) (h2 : s.heap.IsTupleIter i2 l2 0)
    (hQ : ∀ s' H' Ts, Inv X pins σ H' s' → (∀ b o, H1 b = some o → H' b = some o) → Ts.length = xs.length → Told H' xs ys Ts → Q (Ts.map Value.ref) s') : wpAny (model X.prog X.w) A (collect (.ref z)) Q E s := by
  have lz := (hf z (by simp)).2
  have lTI := (hf TI (by simp)).2
  have lTO := (hf TO (by simp)).2
  have li1 := (hf i1 (by simp)).2
  have li2 := (hf i2 (by simp)).2
  have hT : ∀ (h : Heap) (tk : Nat), IsZip h z TI TO .none → ({ s with heap := h, toks := tk } : Shared).TypeIs (.ref z) "zip" := fun h tk q => ⟨_, q, rfl⟩
  unfold collect
  refine wpAny_bind (wpAny_runValue (codeAny_builtin F.entry_proto_collect ?_))
  rw [Around.under_plainId F.plain_proto_collect _]
  show wpAny _ A.in1 (newList [] >>= fun l => again (.builtin "list.__iadd__" ⟨[l, .ref z], []⟩)) _ _ s
  refine wpAny_bind (wpAny_newObj_type ?_)
  refine wpAny_pure ⟨plainId_quiet F.plain_list_iadd _, codeAny_builtin F.entry_list_iadd ?_⟩
  rw [Around.under_plainId F.plain_list_iadd _]
  have hS₁ : (s.heap.push { cls := .type "list", data := .seq ([] : List Value).toArray }).get? s.heap.objs.size = some { cls := .type "list", data := .seq ([] : List Value).toArray } := Heap.get?_push_size _ rfl
  have kp : ∀ b o, s.heap.get? b = some o → (s.heap.push { cls := .type "list", data := .seq ([] : List Value).toArray }).get? b = some o := fun b o e => Heap.get?_push_of_some _ e
  have hTy := hT _ s.toks (kp _ _ hz.1)
  show wpAny _ A.in1 (Builtin.List.listExtendWith (.ref s.heap.objs.size) (.ref z) (.ref s.heap.objs.size)) _ _ _
  unfold Builtin.List.listExtendWith
  refine wpAny_bind (wpAny_typeOf hTy ?_)
  have hne : s.heap.objs.size ≠ z := Nat.ne_of_gt lz
  have h1' : Builtin.List.listSameRef (.ref s.heap.objs.size) (.ref z) = false := by simp [Builtin.List.listSameRef, hne]
  have t2 : (Value.type "zip" == Value.type "list") = false := by decide +kernel
  have t3 : (Value.type "zip" == Value.type "tuple") = false := by decide +kernel
  simp only [h1', t2, t3, Bool.or_false, Bool.false_eq_true, if_false]
  refine wpAny_bind (wpAny_pyIter_zip (s := { s with heap := s.heap.push { cls := .type "list", data := .seq ([] : List Value).toArray } }) (kp _ _ hz.1) ?_)
  refine wpAny_bind (wpAny_holding ?_)
  unfold Builtin.List.listLengthHint
  refine wpAny_bind (wpAny_specialOf hTy nolen_zip ?_)
  show wpAny _ A.in1 (specialOf (Value.ref z) (Str.ofString "__length_hint__") >>= _) _ _ _
  refine wpAny_bind (wpAny_specialOf hTy nohint_zip ?_)
  refine wpAny_pure ?_
  show wpAny _ A.in1 (rule "list.extend.makes-room" >>= fun _ => Builtin.List.listTouch (.ref s.heap.objs.size) >>= fun _ =>
    again (.builtin "list.extend.loop" ⟨[.ref s.heap.objs.size, .ref z, .ref s.heap.objs.size], []⟩)) _ _ _
  refine wpAny_bind (wpAny_rule ?_)
  refine wpAny_bind ?_
  show wpAny _ A.in1 (updateSeq s.heap.objs.size (·.push .none) >>= fun _ => updateSeq s.heap.objs.size (·.pop)) _ _ _
  refine wpAny_bind (wpAny_updateSeq hS₁ rfl ?_)
  have hS₂ := Heap.get?_update_self (Obj.mapSeq (·.push Value.none)) hS₁ rfl
  refine wpAny_updateSeq hS₂ rfl ?_
  have hS₃ := Heap.get?_update_self (Obj.mapSeq (·.pop)) hS₂ rfl
  have oth : ∀ b o, s.heap.get? b = some o →
      (((s.heap.push { cls := .type "list", data := .seq ([] : List Value).toArray }).update s.heap.objs.size (Obj.mapSeq (·.push Value.none))).update s.heap.objs.size (Obj.mapSeq (·.pop))).get? b = some o :=
    fun b o e => (Heap.get?_update_other _ _ (Nat.ne_of_gt (Heap.lt_size e))).trans ((Heap.get?_update_other _ _ (Nat.ne_of_gt (Heap.lt_size e))).trans (kp b o e))
  have I2 : Inv X pins σ H1 { s with heap := ((s.heap.push { cls := .type "list", data := .seq ([] : List Value).toArray }).update s.heap.objs.size (Obj.mapSeq (·.push Value.none))).update s.heap.objs.size (Obj.mapSeq (·.pop)) } := I.kept (t' := s.toks) oth
  have fS : FpOk X pins H1 s.heap.objs.size := I.fpOk (Nat.le_refl _) (I.hok.fresh (Nat.le_refl _))
  refine wpAny_pure ⟨plainId_quiet F.plain_extend_loop _, zip_loop (X := X) (pins := pins) (σ := σ) (H1 := H1) (A := A) (show A.in1.handled = none from hh) D lz lTI lTO li1 li2 hlen hn hl1 hl2 xs.length 0 _ H1 _ _ [] (by omega) (Nat.zero_le _) I2 (fun _ _ e => e) (fun b hb => ?_)
    (.inl ⟨rfl, h0, oth _ _ hz.1, ?_⟩) (oth _ _ hTI) (h1.at fun o e => oth _ _ e) (h2.at fun o e => oth _ _ e) hS₃ rfl rfl (fun j T q => by simp at q) fun s' H' acc' c' Ts' I' km' hS' ha' hl' ht' => ?_⟩
  · have e' : b ∈ [z, TI, TO, i1, i2] ∨ b = s.heap.objs.size := by
      simp only [List.mem_cons, List.not_mem_nil, or_false] at hb ⊢
      rcases hb with q | q | q | q | q | q <;> simp [q]
    rcases e' with q | q
    · exact (hf b q).1
    · rw [q]; exact fS
  · obtain ⟨a, b, q⟩ := hz.2
    exact ⟨a, b, oth _ _ q⟩
  · show wpAny _ A (load s.heap.objs.size >>= _) _ _ s'
    refine wpAny_bind (wpAny_load hS' ?_)
    refine wpAny_pure ?_
    rw [show acc'.toList = Ts'.map Value.ref from ha']
    exact hQ s' H' Ts' I' km' hl' ht'
section
variable {prog : Program} {w : World} {A : Around}
theorem call_tuple_zip {X : Cx} {pins : List (Addr × Obj)} {σ : L2.St} {A : Around} {E : Value → Shared → Prop} {l1 l2 z TI TO i1 i2 : Addr} {xs ys : List V} {H1 : Hp} {s : Shared} {Q : Value → Shared → Prop} (hh : A.handled = none) (D : ZipApart z TI TO i1 i2 l1 l2)
    (hlen : xs.length = ys.length) (h0 : 0 < xs.length) (hn : xs.length ≤ sizeLine) (hl1 : SqT X.K H1 l1 xs) (hl2 : SqT X.K H1 l2 ys) (I : Inv X pins σ H1 s) (hf : ∀ b ∈ [z, TI, TO, i1, i2], FpOk X pins H1 b ∧ b < s.heap.objs.size)
    (hz : ZFree s.heap z TI TO) (hTI : IsPair s.heap TI (.ref i1) (.ref i2)) (h1 : s.heap.IsTupleIter i1 l1 0) (h2 : s.heap.IsTupleIter i2 l2 0)
    (hQ : ∀ s' H' Ts, Inv X pins σ H' s' → (∀ b o, H1 b = some o → H' b = some o) → Ts.length = xs.length → Told H' xs ys Ts → Q (.ref s'.heap.objs.size) { s' with heap := s'.heap.push { cls := .type "tuple", data := .seq (Ts.map Value.ref).toArray } }) :
    wpAny (model X.prog X.w) A (call (.type "tuple") [.ref z]) Q E s := by
  refine callType_codes (Q₁ := fun obj s₁ => s₁.TypeIs obj "tuple" ∧ Q obj s₁) F.called_tuple (F.typeCall_tuple_1 _) F.entry_object_init ?_ fun obj s₁ h₁ => ⟨h₁.1, F.args_object_init_2 obj _, object_init_meets F.called_tuple.init.lookup F.called_tuple.made (by decide) X.prog X.w A.in1 _ s₁ ⟨h₁.1, rfl, h₁.2⟩⟩
  refine codeAny_of_tree ?_
  show wpAny _ A.in1.in1 (do checkBuiltinCall "tuple.__new__" ⟨[.type "tuple", .ref z], []⟩; again (.builtin "tuple.__new__" ⟨[.type "tuple", .ref z], []⟩)) _ _ s
  refine wpAny_bind (wpAny_of_eq (F.newCall_tuple_1 _) (wpAny_pure ⟨plainId_quiet F.plain_tuple_new _, codeAny_builtin F.entry_tuple_new ?_⟩))
  rw [Around.under_plainId F.plain_tuple_new _]
  have hsub := sub_tuple_self
  have hinit := init_tuple_lookup
  have hmh := madeHere_tuple
  have hTI' : s.TypeIs (.ref z) "zip" := ⟨_, hz.1, rfl⟩
  have hh1 : A.in1.in1.handled = none := hh
  wp_walk using wpAny_typeOf hTI', zip_collect (A := A.in1.in1) hh1 D hlen h0 hn hl1 hl2 I hf hz hTI h1 h2
  intro s' H' Ts I' km hl ht
  show wpAny _ _ (Builtin.Tuple.tupleExact (Ts.map Value.ref).toArray >>= fun v => ret v) _ _ _
  unfold Builtin.Tuple.tupleExact
  refine wpAny_bind (wpAny_newObj_type ?_ (by show (Ts.map Value.ref).toArray.size ≤ sizeLine; simp; omega))
  exact wpAny_pure ⟨⟨_, Heap.get?_push_size _ rfl, rfl⟩, hQ s' H' Ts I' km hl ht⟩
end
theorem pe_tupZip {X : Cx} {e e2 : Expr} {ta : TA} {p p2 pos pos2 : Pos} (hc : X.calm = true) (hg : Gl X "tuple") (hm : X.mg "tuple" = none) (hg2 : Gl X "zip") (hm2 : X.mg "zip" = none) (ha : PA X [e, e2] ta)
    (hs : starEach [e, e2] X.env = (false, eval e X.env) :: starEach [e2] X.env := by rfl) (hpl : (backTo pos2 (starEach [e2] X.env)).any (·.1) = false := by rfl)
    (hs2 : starEach [.Call (.Name "zip" p2) [e, e2] [] pos2] X.env = (false, eval (.Call (.Name "zip" p2) [e, e2] [] pos2) X.env) :: starEach [] X.env := by rfl) :
    PE X (.Call (.Name "tuple" p) [.Call (.Name "zip" p2) [e, e2] [] pos2] [] pos) (tTupZip X.K ta) := by
  refine ⟨fun pins s σ H Q I h => ?_⟩
  refine Call_ (ld_blt I hg hm boot_tuple (PyProof.Rows.callWith_type1 (args_cons (Call_ (ld_blt I hg2 hm2 PyProof.Rows.boot_zip (PyProof.Rows.callWith_type1 (thn (ha.run pos2 pins s σ H _ I h) fun us s1 ⟨vs, H1, I1, r1, q1⟩ => ?_) hs hpl))) hs2) hs2 rfl))
  obtain ⟨a, b, xs, ys, ex, hqx, hqy, hlen, h0, q⟩ := q1
  subst ex
  cases r1 with
  | cons r rr =>
    cases rr with
    | cons r' rr =>
      cases rr
      cases r
      cases r'
      have fresh5 : ∀ c, c ∈ [s1.heap.objs.size + 4, s1.heap.objs.size + 2, s1.heap.objs.size + 3, s1.heap.objs.size, s1.heap.objs.size + 1] → FpOk X pins H1 c ∧ c < s1.heap.objs.size + 5 := fun c hcm => by
        have e' : c = s1.heap.objs.size + 4 ∨ c = s1.heap.objs.size + 2 ∨ c = s1.heap.objs.size + 3 ∨ c = s1.heap.objs.size ∨ c = s1.heap.objs.size + 1 := by simpa using hcm
        have hle : s1.heap.objs.size ≤ c ∧ c < s1.heap.objs.size + 5 := by
          rcases e' with z | z | z | z | z
          · rw [z]; exact ⟨Nat.le_add_right _ _, Nat.add_lt_add_left (by decide) _⟩
          · rw [z]; exact ⟨Nat.le_add_right _ _, Nat.add_lt_add_left (by decide) _⟩
          · rw [z]; exact ⟨Nat.le_add_right _ _, Nat.add_lt_add_left (by decide) _⟩
          · rw [z]; exact ⟨Nat.le_refl _, Nat.lt_add_of_pos_right (by decide)⟩
          · rw [z]; exact ⟨Nat.le_add_right _ _, Nat.add_lt_add_left (by decide) _⟩
        exact ⟨I1.fpOk hle.1 (I1.hok.fresh hle.1), hle.2⟩
      obtain ⟨its, rv, p1, hz1⟩ := I1.tuple hqx
      obtain ⟨its2, rv2, p2', _⟩ := I1.tuple hqy
      obtain ⟨o1, ho1, _⟩ := id p1
      obtain ⟨o2, ho2, _⟩ := id p2'
      refine call_zipT (show s1.heap.IsTuple a its.toArray from p1) (show s1.heap.IsTuple b its2.toArray from p2') fun h' hz hTI hTO h1 h2 hsz hk => ?_
      have I2 : Inv X pins σ H1 { s1 with heap := h' } := I1.kept (t' := s1.toks) hk
      refine args_nil (call_tuple_zip (X := X) (I1.ok.hd hc) (PySem.W.ktu_apart s1.heap.objs.size a b (Heap.lt_size ho1) (Heap.lt_size ho2)) hlen h0 hz1 hqx hqy I2 (fun c hcm => ?_) ⟨hz, _, _, hTO⟩ hTI h1 h2 fun s' H' Ts I' km hl ht => ?_)
      · obtain ⟨f0, f1⟩ := fresh5 c hcm
        exact ⟨f0, by show c < h'.objs.size; rw [hsz]; exact f1⟩
      · have hn : H' s'.heap.objs.size = none := I'.hok.fresh (Nat.le_refl _)
        refine ⟨.ref s'.heap.objs.size, upd H' s'.heap.objs.size (.tup (Ts.map V.ref)), I'.laid (t' := s'.toks) (fun c o e => Heap.get?_push_of_some _ e) (Nat.le_refl _) (show ObjOk X.prog X.w _ _ _ (.tup (Ts.map V.ref)) from ⟨by rw [List.length_map, hl]; exact hz1, Ts.map Value.ref, vals_refs, IsTup.new _ _⟩), rfl, q _ _ Ts (fun c o e => ?_) upd_same hl fun j T hj => ?_⟩
        · rw [upd_ne (ne_of_none (km c o e) hn)]
          exact km c o e
        · obtain ⟨x, y, e1, e2, e3⟩ := ht j T hj
          exact ⟨x, y, e1, e2, by rw [upd_ne (ne_of_none e3 hn)]; exact e3⟩
end OZ
/-! enumerate(tuple) with a target of two names -/
namespace OZ
open PySem PySem.Spec PyProof.Rows L2 RZ
open AutoSeq1 (wpAny_loadPart')
theorem meets_enumerate_newT (l : Addr) (items : Array Value) (n : Nat) (dct : Option Addr) (sl : Array (Option Value)) :
    Meets (Builtin.«enumerate.__new__» ⟨[.type "enumerate", .ref l], []⟩) (fun _ R s => s.heap.get? l = some { cls := .type "tuple", dict := dct, data := .seq items n, slots := sl } ∧
      R (.ok (.ret (.ref (s.heap.push { cls := .type "tuple_iterator", data := .fields #[.ref l, .int 0 0] }).objs.size)))
        { s with heap := (s.heap.push { cls := .type "tuple_iterator", data := .fields #[.ref l, .int 0 0] }).push { cls := .type "enumerate", data := .fields #[.none, .bool false, .ref s.heap.objs.size, rawInt 0, .none, .none] } }) :=
  .of_wp fun prog w A R s h => by
    obtain ⟨hp, g, d, tk, os⟩ := s; obtain ⟨hl, h⟩ := h
    have hsub := sub_enumerate
    have hL : Heap.IsTuple (Shared.heap ⟨hp, g, d, tk, os⟩) l items := ⟨_, hl, rfl, n, rfl⟩
    wp_walk using wpAny_loadPart' hl
    refine wpAny_stack_any fun st => wpAny_pure ?_
    split
    · rename_i c _ _ _ _ _
      cases (c == Value.type "enumerate")
      · wp_walk using wpAny_loadPart' hl, wpAny_pyIter_tuple hL
        exact ⟨_, rfl, h⟩
      · wp_walk using wpAny_loadPart' hl, wpAny_pyIter_tuple hL
        exact ⟨_, rfl, h⟩
    · wp_walk using wpAny_loadPart' hl, wpAny_pyIter_tuple hL
      exact ⟨_, rfl, h⟩
section
variable {prog : Program} {w : World} {A : Around} {E : Value → Shared → Prop} {s : Shared}
theorem call_enumerate_tuple {l : Addr} {items : Array Value} {Q : Value → Shared → Prop} (hL : s.heap.IsTuple l items)
    (h : ∀ h', IsEnum h' (s.heap.objs.size + 1) s.heap.objs.size 0 .none → h'.IsTupleIter s.heap.objs.size l 0 → h'.objs.size = s.heap.objs.size + 2 →
      (∀ b o, s.heap.get? b = some o → h'.get? b = some o) → Q (.ref (s.heap.objs.size + 1)) { s with heap := h' }) :
    wpAny (model prog w) A (call (.type "enumerate") [.ref l]) Q E s := by
  obtain ⟨⟨c, dct, dt, sl⟩, hl, hc, n, hd⟩ := hL
  replace hc : c = .type "tuple" := hc
  replace hd : dt = .seq items n := hd
  subst hc hd
  refine callType_new F.called_enumerate (by decide) (F.typeCall_enumerate_1 _) (F.newCall_enumerate_1 _) (fun obj => F.args_object_init_2 obj _) F.entry_enumerate_new
    (meets_enumerate_newT l items n dct sl) ⟨hl, ?_⟩
  have hz : (s.heap.push { cls := .type "tuple_iterator", data := .fields #[.ref l, .int 0 0] }).objs.size = s.heap.objs.size + 1 := Heap.size_push ..
  show _ ∧ _
  rw [hz]
  have he : IsEnum ((s.heap.push { cls := .type "tuple_iterator", data := .fields #[.ref l, .int 0 0] }).push
      { cls := .type "enumerate", data := .fields #[.none, .bool false, .ref s.heap.objs.size, rawInt 0, .none, .none] }) (s.heap.objs.size + 1) s.heap.objs.size 0 .none := by
    have := Heap.get?_push_size (s.heap.push { cls := .type "tuple_iterator", data := .fields #[.ref l, .int 0 0] })
      (o := { cls := .type "enumerate", data := .fields #[.none, .bool false, .ref s.heap.objs.size, rawInt 0, .none, .none] }) rfl
    rw [hz] at this; exact this
  refine ⟨⟨_, he, rfl⟩, h _ he ⟨_, Heap.get?_push_of_some _ (Heap.get?_push_size _ rfl), rfl, rfl⟩ (by rw [Heap.size_push, hz]) fun b o x => Heap.get?_push_of_some _ (Heap.get?_push_of_some _ x)⟩
end
/-- the tuple at a, each item in a new pair -/
def IteT (K : PySem.W.Frag) (a : Addr) (xs : List V) : It :=
  ⟨fun i H => SqT K H a xs ∧ i < xs.length, fun i H v H' => ∃ T x, v = .ref T ∧ H T = none ∧ H' = upd H T (.tup [.int (i : Nat), x]) ∧ xs[i]? = some x, fun i H => SqT K H a xs ∧ xs.length ≤ i⟩
theorem turn_enumT {P : Program} {w : World} {K : PySem.W.Frag} {elts : List Expr} {kk : Nat} {tpos : Pos} (a e it : Addr) (xs : List V) :
    Turn P w K (.Tuple elts kk tpos) (IteT K a xs) [e, it] e (fun i h => (∃ old, IsEnum h e it ((i : Nat) : Int) old) ∧ h.IsTupleIter it a i ∧ e ≠ it ∧ a ≠ it ∧ a ≠ e) where
  mem := by simp
  obj := fun i h st b hb => by
    obtain ⟨⟨old, he⟩, ⟨o, ho, hc, hd⟩, _⟩ := st
    have e' : b = e ∨ b = it := by simpa using hb
    rcases e' with z | z
    · rw [z]; exact ⟨_, he, fun v q => nomatch q⟩
    · rw [z]; exact ⟨o, ho, fun v q => by rw [hd] at q; cases q⟩
  keep := fun i h h' st k => let ⟨⟨old, he⟩, hi, hne⟩ := st; ⟨⟨old, k e (by simp) _ he⟩, hi.at fun o q => k it (by simp) o q, hne⟩
  item := by
    intro X hP hw hK hc i pins s σ H E I hf st hg
    subst hP hw hK
    obtain ⟨⟨old, he⟩, hit, hne, hai, hae⟩ := st
    obtain ⟨hq, hlt⟩ := hg
    obtain ⟨x, hx⟩ : ∃ x, xs[i]? = some x := ⟨_, List.getElem?_eq_getElem hlt⟩
    obtain ⟨its, rv, p, hz⟩ := I.tuple hq
    obtain ⟨u, hu, ru⟩ := rv.get hx
    have hel : e < s.heap.objs.size := Heap.lt_size he
    have hil : it < s.heap.objs.size := by obtain ⟨_, q, _⟩ := hit; exact Heap.lt_size q
    have hl := rv.length
    refine wpAny_pyNext_enum_itemD (Draws.tuple (show X.A.in1.handled = none from I.ok.hd hc) it a hai its.toArray) he ⟨hit, p⟩ (by simp; omega) hne (by simp [hne, hae.symm]) fun v h' tk hv ho hit' hT hsz hk => ?_
    have ev : v = u := by
      have z : its.toArray[i]? = some u := by simpa using hu
      rw [z] at hv
      exact (Option.some.inj hv).symm
    subst ev
    refine ⟨_, rfl, wpAny_letOwnedTupleGo_enum (s := { s with heap := h', toks := tk + 1 }) ho fun h'' he' sb => ?_⟩
    have hT2 : h''.get? s.heap.objs.size = some { cls := .type "tuple", data := .seq #[.int i tk, v] } := (sb.2 _ (Nat.ne_of_gt hel)).trans hT
    have new : ObjOk X.prog X.w (upd H s.heap.objs.size (.tup [.int (i : Nat), x])) h'' s.heap.objs.size (.tup [.int (i : Nat), x]) :=
      ⟨by show 2 ≤ sizeLine; decide, [.int i tk, v], .cons ⟨_, rfl⟩ (.cons ru .nil), ⟨_, hT2, rfl, _, rfl⟩⟩
    have I1 : Inv X pins σ (upd H s.heap.objs.size (.tup [.int (i : Nat), x])) { s with heap := h'', toks := tk + 1 } :=
      I.turnedNew (ch := [e, it]) (fun b ob hb q => (sb.2 b (fun z => hb (by simp [z]))).trans (hk b ob (fun z => hb (by simp [z])) (fun z => hb (by simp [z])) q)) hf (Nat.le_refl _) new
    refine ⟨.ref s.heap.objs.size, _, I1, rfl, ⟨_, x, rfl, I.hok.fresh (Nat.le_refl _), rfl, hx⟩, ⟨⟨v, ?_⟩, hit'.1.at fun o q => (sb.2 it (Ne.symm hne)).trans q, hne, hai, hae⟩, fun b hb => ?_⟩
    · have e1 : ((i + 1 : Nat) : Int) = (i : Int) + 1 := by omega
      rw [e1]; exact he'
    · have hb' : b < s.heap.objs.size := by
        have e' : b = e ∨ b = it := by simpa using hb
        rcases e' with z | z
        · rw [z]; exact hel
        · rw [z]; exact hil
      rw [upd_ne (Nat.ne_of_lt hb')]
      exact (hf b hb).1
  done := by
    intro X hP hw hK hc i pins s σ H E I hf st hg
    subst hP hw hK
    obtain ⟨⟨old, he⟩, hit, hne, hai, hae⟩ := st
    obtain ⟨hq, hx⟩ := hg
    obtain ⟨its, rv, p, hz⟩ := I.tuple hq
    obtain ⟨f0, f1, f2, f3, f4, f5⟩ := hf it (by simp)
    have hl := rv.length
    have hT : s.TypeIs (.ref e) "enumerate" := ⟨_, he, rfl⟩
    unfold pyNext
    refine wpAny_bind (wpAny_attempt (wpAny_callSpecial?_slot (name := Str.ofString "__next__") hT F.slot_enumerate_next
      (wpAny_call_entry F.slot_enumerate_next hT F.entry_enumerate_next ?_ (F.args_enumerate_next_1 _))))
    show wpAny _ _ (field (.ref e) 2 >>= _) _ _ _
    refine wpAny_bind (wpAny_field he rfl (x := .ref it) rfl ?_)
    refine wpAny_bind (RZ.nextOf_tuple_end (show X.A.in1.handled = none from I.ok.hd hc) hit (show s.heap.IsTuple a its.toArray from p) (by simp; omega) fun h' y he' hx' => ?_)
    obtain ⟨o, ho, hc'⟩ := hx'
    refine wpAny_bind (wpAny_isInstance (T := "StopIteration") (b := true) ⟨o, ho, hc'⟩ isSubtype_stop ?_)
    exact wpAny_pure ⟨rfl, I.turned (t' := s.toks) (fun b o hb q => he' b o hb q) f0 f1 f3 f4 f5⟩
  self := fun A i s Q E st h => let ⟨⟨_, he⟩, _⟩ := st; wpAny_pyIter_enum he h
def iEnumT (K : PySem.W.Frag) (ta : TA) : TI := fun σ H R => ta σ H fun vs H1 => ∃ a xs, vs = [.ref a] ∧ SqT K H1 a xs ∧ R (IteT K a xs) H1
theorem pi_enumT {X : Cx} {e : Expr} {ta : TA} {p pos tpos : Pos} {elts : List Expr} {kk : Nat} (hg : Gl X "enumerate") (hm : X.mg "enumerate" = none) (ha : PA X [e] ta) (hs : starEach [e] X.env = [(false, eval e X.env)] := by rfl) :
    PI X (.Tuple elts kk tpos) (.Call (.Name "enumerate" p) [e] [] pos) (iEnumT X.K ta) := by
  refine ⟨fun pins s σ H R I h => ?_⟩
  refine Call_ (ld_blt I hg hm boot_enumerate (PyProof.Rows.callWith_type1 (thn (ha.run pos pins s σ H _ I h) fun us s1 ⟨vs, H1, I1, r1, q1⟩ => ?_) hs rfl))
  obtain ⟨a, xs, ex, hq, q⟩ := q1
  subst ex
  cases r1 with
  | cons r rr =>
    cases rr
    cases r
    obtain ⟨its, rv, p', hz⟩ := I1.tuple hq
    obtain ⟨o1, ho1, _⟩ := id p'
    have hal : a < s1.heap.objs.size := Heap.lt_size ho1
    refine call_enumerate_tuple (show s1.heap.IsTuple a its.toArray from p') fun h' he hit hsz hk => wpAny_pyIter_enum he ?_
    have I2 : Inv X pins σ H1 { s1 with heap := h' } := I1.kept (t' := s1.toks) hk
    refine ⟨s1.heap.objs.size + 1, [s1.heap.objs.size + 1, s1.heap.objs.size], _, _, H1, rfl, I2, turn_enumT a (s1.heap.objs.size + 1) s1.heap.objs.size xs, ⟨⟨.none, he⟩, hit, Nat.succ_ne_self _, Nat.ne_of_lt hal, Nat.ne_of_lt (Nat.lt_succ_of_lt hal)⟩, fun b hb => ?_, q⟩
    have e' : b = s1.heap.objs.size + 1 ∨ b = s1.heap.objs.size := by simpa using hb
    have hle : s1.heap.objs.size ≤ b := by
      rcases e' with z | z
      · rw [z]; exact Nat.le_add_right _ _
      · rw [z]; exact Nat.le_refl _
    exact I1.fpOk hle (I1.hok.fresh hle)
/-- a loop over enumerate(tuple) -/
theorem for_enumT {K : PySem.W.Frag} {a : Addr} {xs : List V} {g : TG} {tb : TS} {D : Ends} {σ : L2.St} {H : Hp} (Pv : Nat → L2.St → Hp → Prop) (h0 : Pv 0 σ H) (hq : ∀ i σ H, Pv i σ H → SqT K H a xs)
    (hs : ∀ (i : Nat) (x : V) (T : Addr) (σ : L2.St) (H : Hp), xs[i]? = some x → Pv i σ H → H T = none → g (.ref T) σ (upd H T (.tup [.int (i : Nat), x])) fun σ2 H2 => tb { D with nx := Pv (i + 1), ct := Pv (i + 1), bk := D.nx } σ2 H2) (hd : ∀ σ H, Pv xs.length σ H → D.nx σ H) :
    ∃ W : Nat → Nat → L2.St → Hp → Prop, (∃ m, W 0 m σ H) ∧ ∀ i m σ H, W i m σ H →
      ((IteT K a xs).stop i H ∧ D.nx σ H) ∨ ((IteT K a xs).go i H ∧ ∃ N : L2.St → Hp → Prop, (∀ σ' H', N σ' H' → ∃ m', m' < m ∧ W (i + 1) m' σ' H') ∧ ∀ v H', (IteT K a xs).yld i H v H' → g v σ H' fun σ2 H2 => tb { D with nx := N, ct := N, bk := D.nx } σ2 H2) := by
  refine ⟨fun i m σ H => m = xs.length - i ∧ i ≤ xs.length ∧ Pv i σ H, ⟨xs.length, rfl, Nat.zero_le _, h0⟩, ?_⟩
  rintro i m σ H ⟨rfl, hi, p⟩
  by_cases hlt : i < xs.length
  · refine .inr ⟨⟨hq _ _ _ p, hlt⟩, Pv (i + 1), fun σ' H' p' => ⟨xs.length - (i + 1), by omega, rfl, by omega, p'⟩, ?_⟩
    rintro v H' ⟨T, x, rfl, hn, rfl, hx⟩
    exact hs i x T σ H hx p hn
  · have e : i = xs.length := by omega
    subst e
    exact .inl ⟨⟨hq _ _ _ p, Nat.le_refl _⟩, hd _ _ p⟩
/-- a dict of the module whose keys are ints -/
def KInt (K : PySem.W.Frag) (a : Addr) (k : Int) (v : V) : Prop :=
  ∃ es n u, K.lookup a = some ⟨.type "dict", none, .dict es n, #[]⟩ ∧ (∀ e ∈ es, ∃ k t, e.key = Value.int k t ∧ e.hash = hashInt k) ∧ findBy Value.isInt es k = some u ∧ RelV v u
def rIxI (K : PySem.W.Frag) : R2 := fun x y H Q => ∃ p k v, x = .ref p ∧ y = .int k ∧ KInt K p k v ∧ Q v H
theorem ix_kdictI {X : Cx} : IxR X (rIxI X.K) := by
  intro value slice pins s σ H x y v u Q I rx ry h hs
  obtain ⟨p, k, r, rfl, rfl, ⟨es, n, u0, hl, hk, e, ru⟩, q⟩ := h
  obtain rfl : v = Value.ref p := rx
  obtain ⟨t, rfl⟩ := ry
  have hm : s.heap.MapOf (intKind X.prog X.w) p (fun k => findBy Value.isInt es k) := ⟨_, es, n, I.kIn _ _ hl, ⟨rfl, rfl, rfl⟩, rfl, fun e he => by
    obtain ⟨k, t, e1, e2⟩ := hk e he
    exact ⟨k, by rw [e1]; simp [intKind, Value.isInt], e2⟩, fun _ => rfl⟩
  exact tail_any hm.typeIs slot_dict_getitem.lookup (wpAny_getItem_of (show (intKind X.prog X.w).is k (.int k t) = true by simp [intKind, Value.isInt]) hm e ⟨r, H, I.tok _, ru, q⟩) hs
theorem walk_enumT {K : PySem.W.Frag} {a : Addr} {xs : List V} : Walk (IteT K a xs) xs.length (fun H => SqT K H a xs) (fun i H v H' => ∃ T x, v = .ref T ∧ H T = none ∧ H' = upd H T (.tup [.int (i : Nat), x]) ∧ xs[i]? = some x) :=
  ⟨fun i _ hi q => ⟨q, hi⟩, fun _ q => ⟨q, Nat.le_refl _⟩, fun _ _ _ _ _ q y => y⟩
theorem ix_tupK {X : Cx} {K : PySem.W.Frag} (e : X.K = K) : IxR X (rIxT K) := by subst e; exact ix_tup
theorem ix_listK {X : Cx} {K : PySem.W.Frag} (e : X.K = K) : IxR X (rIxL K) := by subst e; exact ix_list
theorem ix_kdictIK {X : Cx} {K : PySem.W.Frag} (e : X.K = K) : IxR X (rIxI K) := by subst e; exact ix_kdictI
theorem pg_tupK {X : Cx} {K : PySem.W.Frag} {es : List Expr} {k : Nat} {t : TGs} {n : Nat} {pos : Pos} (e : X.K = K) (hc : X.calm = true) (h : PGs X es t)
    (hn : (assignEach es X.env).length = n := by rfl) (hst : (assignEach es X.env).findIdx? (·.1) = none := by rfl) : PG X (.Tuple es k pos) (gTup K n t) := by subst e; exact pg_tup hc h hn hst
/-- the turns of a comprehension, whatever its body -/
theorem wf_it {J : It} {n : Nat} {G : Hp → Prop} {Y : Nat → Hp → V → Hp → Prop} (w : Walk J n G Y) {body : V → Hp → (Hp → Prop) → Prop} {H0 : Hp} {Qd : Hp → Prop} (Pv : Nat → Hp → Prop) (h0 : Pv 0 H0) (hG : ∀ i H, i ≤ n → Pv i H → G H)
    (hs : ∀ i x H H', i < n → Pv i H → Y i H x H' → body x H' (Pv (i + 1))) (hd : ∀ H, Pv n H → Qd H) :
    ∃ W : Nat → Nat → Hp → Prop, (∃ m, W 0 m H0) ∧ ∀ i m H, W i m H → (J.stop i H ∧ Qd H) ∨ (J.go i H ∧ ∃ Nx : Hp → Prop, (∀ H', Nx H' → ∃ m', m' < m ∧ W (i + 1) m' H') ∧ ∀ x H', J.yld i H x H' → body x H' Nx) := by
  refine ⟨fun i m H => m = n - i ∧ i ≤ n ∧ Pv i H, ⟨n, by simp, Nat.zero_le _, h0⟩, ?_⟩
  rintro i m H ⟨rfl, hi, p⟩
  have q := hG i H hi p
  by_cases hlt : i < n
  · refine .inr ⟨w.goes i H hlt q, Pv (i + 1), fun H' p' => ⟨n - (i + 1), by omega, rfl, hlt, p'⟩, fun x H' y => hs i x H H' hlt p (w.yields i H x H' hlt q y)⟩
  · have e : i = n := by omega
    subst e
    exact .inl ⟨w.stops H q, hd H p⟩
end OZ
/-! slices with a step of -1 -/
namespace Os
open PySem PySem.Spec PyProof.Rows L2
def SlR3 (X : Cx) (r : V → Option Int → Option Int → Option Int → Hp → VK → Prop) : Prop :=
  ∀ (pins : List (Addr × Obj)) (s : Shared) (σ : L2.St) (H : Hp) (x : V) (v vl vu vs : Value) (lo hi st : Option Int) (sl : Addr) (Q : VK), Inv X pins σ H s → RelV x v → s.heap.IsSliceOf sl vl vu vs → IsPart vl lo → IsPart vu hi → IsPart vs st → r x lo hi st H Q →
    ∃ T id, typeLookup (.type T) "__getitem__" = pure (some (.builtin id)) ∧ s.TypeIs v T ∧ wpAny (model X.prog X.w) X.A (getItem v (.ref sl)) (EP X pins σ Q) X.xe s
def tSl3 (r : V → Option Int → Option Int → Option Int → Hp → VK → Prop) (te : TE) (tl th ts : TO) : TE := fun σ H Q => te σ H fun x H1 => tl σ H1 fun l H2 => th σ H2 fun u H3 => ts σ H3 fun t H4 => r x l u t H4 Q
theorem pe_slice3 {X : Cx} {e : Expr} {te : TE} {lo hi : Option Expr} {st : Expr} {tl th ts : TO} {pos p2 : Pos} {r : V → Option Int → Option Int → Option Int → Hp → VK → Prop} (hr : SlR3 X r) (he : PE X e te) (hl : PO X lo tl) (hu : PO X hi th) (ht : PO X (some st) ts) :
    PE X (.Subscript e (.Slice lo hi (some st) p2) pos) (tSl3 r te tl th ts) := by
  refine ⟨fun pins s σ H Q I h => ?_⟩
  refine Subscript_ (thn (he.run pins s σ H _ I h) fun v s1 ⟨x, H1, I1, r1, q1⟩ => ?_)
  refine wpAny_Slice (thn (hl.run pins s1 σ H1 _ I1 q1) fun vl s2 ⟨l, H2, I2, pl, q2⟩ => thn (hu.run pins s2 σ H2 _ I2 q2) fun vu s3 ⟨u, H3, I3, pu, q3⟩ => thn (ht.run pins s3 σ H3 _ I3 q3) fun vs s4 ⟨t, H4, I4, ps, q4⟩ => ?_)
  have I5 : Inv X pins σ H4 { s4 with heap := s4.heap.push { cls := .type "slice", data := .fields #[vl, vu, vs] } } := I4.kept (t' := s4.toks) fun b ob q => Heap.get?_push_of_some _ q
  obtain ⟨T, id, hT, hty, hg⟩ := hr pins { s4 with heap := s4.heap.push { cls := .type "slice", data := .fields #[vl, vu, vs] } } σ H4 x v vl vu vs l u t s4.heap.objs.size Q I5 r1 (Heap.IsSliceOf.new ..) pl pu ps q4
  show wpAny (model X.prog X.w) X.A (subscriptTail e (.Slice lo hi (some st) p2) v (.ref s4.heap.objs.size)) (EP X pins σ Q) X.xe { s4 with heap := s4.heap.push { cls := .type "slice", data := .fields #[vl, vu, vs] } }
  exact tail_any (ops := [v, .ref s4.heap.objs.size]) hty hT hg (by with_unfolding_all rfl)
/-- what x[hi+1:] is, read from its end; all of it for none -/
def backV (xs : List V) (hi : Option Int) : List V := match hi with
  | none => xs.reverse
  | some _ => (xs.drop 1).reverse
theorem pick_back (xs : Array Value) (n : Nat) (hn : xs.size = n) (k : Nat) (hk : k ≤ n) : ((List.range k).map fun (m : Nat) => (((n : Int) - 1) + (-1) * (m : Int)).toNat).filterMap (xs[·]?) = (xs.toList.drop (n - k)).reverse := by
  induction k with
  | zero =>
    rw [show n - 0 = xs.toList.length by rw [Array.length_toList]; omega, List.drop_length]
    rfl
  | succ k ih =>
    rw [List.range_succ, List.map_append, List.filterMap_append, ih (by omega)]
    have e : (((n : Int) - 1) + (-1) * (k : Int)).toNat = n - (k + 1) := by omega
    have hl : n - (k + 1) < xs.toList.length := by rw [Array.length_toList]; omega
    rw [show n - k = n - (k + 1) + 1 by omega, List.drop_eq_getElem_cons hl, List.reverse_cons]
    simp only [List.map_cons, List.map_nil, e]
    rw [List.filterMap_cons, Array.getElem?_eq_getElem (by rw [Array.length_toList] at hl; exact hl)]
    rfl
/-- xs[::-1] and xs[:0:-1] of a list -/
def rBkL (K : PySem.W.Frag) : V → Option Int → Option Int → Option Int → Hp → VK → Prop := fun x lo hi st H Q => ∃ a xs, x = .ref a ∧ SqL K H a xs ∧ lo = none ∧ (hi = none ∨ hi = some 0) ∧ st = some (-1) ∧ ∀ p, H p = none → Q (.ref p) (upd H p (.lst (backV xs hi)))
theorem pickL (its : List Value) {hi : Option Int} (hh : hi = none ∨ hi = some 0) : slicePick its.toArray none hi (some (-1)) = (match hi with | none => its.reverse | some _ => (its.drop 1).reverse).toArray := by
  have sz : its.toArray.size = its.length := List.size_toArray ..
  rcases hh with rfl | rfl
  · have e : sliceRange ((its.length : Int) - 1) (-1) (-1) = (List.range its.length).map fun (m : Nat) => (((its.length : Int) - 1) + (-1) * (m : Int)).toNat := by
      unfold sliceRange
      have c : ((if (-1 : Int) > 0 then (if (its.length : Int) - 1 < -1 then (-1 - ((its.length : Int) - 1) + -1 - 1) / -1 else 0) else (if (its.length : Int) - 1 > -1 then ((its.length : Int) - 1 - -1 - -1 - 1) / (- -1) else 0)) : Int).toNat = its.length := by
        rw [if_neg (by decide)]
        split
        · rw [show -(-1 : Int) = 1 from rfl, Int.ediv_one]
          omega
        · omega
      dsimp only
      rw [c]
    have b : sliceBounds none none (some (-1)) its.length = ((its.length : Int) - 1, -1, -1) := by
      rfl
    unfold slicePick
    rw [sz, b]
    dsimp only
    rw [e, pick_back its.toArray its.length sz its.length (Nat.le_refl _), Nat.sub_self]
    rfl
  · have e : sliceRange ((its.length : Int) - 1) (max (-1) (min 0 ((its.length : Int) - 1))) (-1) = (List.range (its.length - 1)).map fun (m : Nat) => (((its.length : Int) - 1) + (-1) * (m : Int)).toNat := by
      unfold sliceRange
      have c : ((if (-1 : Int) > 0 then (if (its.length : Int) - 1 < max (-1) (min 0 ((its.length : Int) - 1)) then (max (-1) (min 0 ((its.length : Int) - 1)) - ((its.length : Int) - 1) + -1 - 1) / -1 else 0) else (if (its.length : Int) - 1 > max (-1) (min 0 ((its.length : Int) - 1)) then ((its.length : Int) - 1 - max (-1) (min 0 ((its.length : Int) - 1)) - -1 - 1) / (- -1) else 0)) : Int).toNat = its.length - 1 := by
        rw [if_neg (by decide)]
        split
        · rw [show -(-1 : Int) = 1 from rfl, Int.ediv_one]
          omega
        · omega
      dsimp only
      rw [c]
    have b : sliceBounds none (some 0) (some (-1)) its.length = ((its.length : Int) - 1, max (-1) (min 0 ((its.length : Int) - 1)), -1) := by
      rfl
    unfold slicePick
    rw [sz, b]
    dsimp only
    rw [e, pick_back its.toArray its.length sz (its.length - 1) (by omega)]
    cases its with
    | nil => rfl
    | cons a l =>
      congr 2
      show List.drop (l.length + 1 - (l.length + 1 - 1)) (a :: l) = List.drop 1 (a :: l)
      rw [show l.length + 1 - (l.length + 1 - 1) = 1 by omega]
theorem vals_back {xs : List V} {its : List Value} (r : Vals xs its) (hi : Option Int) : Vals (backV xs hi) (match hi with | none => its.reverse | some _ => (its.drop 1).reverse) := by
  cases hi with
  | none => exact r.reverse
  | some i => exact (r.drop 1).reverse
theorem sl_bkL {X : Cx} : SlR3 X (rBkL X.K) := by
  intro pins s σ H x v vl vu vs lo hi st sl Q I rx hs pl pu ps h
  obtain ⟨a, xs, rfl, hx, rfl, hh, rfl, q⟩ := h
  cases rx
  obtain ⟨its, r, ht, hz⟩ := I.list hx
  have hlen := r.length
  refine ⟨"list", _, slot_list_getitem.lookup, ht.isList.typeIs, ?_⟩
  refine wpAny_getItem_list_slice ht.isList hs pl pu ps (by decide) ?_ (by rw [List.size_toArray] <;> omega)
  rw [pickL its hh]
  refine ⟨.ref s.heap.objs.size, _, I.laid (t' := s.toks) (o := .lst (backV xs hi)) (fun b ob q => Heap.get?_push_of_some _ q) (Nat.le_refl _) ?_, rfl, q _ (I.hok.fresh (Nat.le_refl _))⟩
  refine ⟨?_, _, 0, vals_back r hi, Heap.get?_push_size _ rfl⟩
  rcases hh with rfl | rfl
  · show xs.reverse.length ≤ sizeLine
    rw [List.length_reverse]
    exact hz
  · show (xs.drop 1).reverse.length ≤ sizeLine
    rw [List.length_reverse, List.length_drop]
    omega
/-- how many it takes -/
def backN (n : Nat) : Option Int → Nat
  | none => n
  | some _ => n - 1
def stopB (n : Nat) : Option Int → Int
  | none => -1
  | some _ => min 0 ((n : Int) - 1)
section
variable {prog : Program} {w : World} {A : Around} {E : Value → Shared → Prop} {s : Shared}
open HT in
theorem applied_back {sl : Addr} {vl vu vs : Value} {hi : Option Int} {n : Nat} {Q : Int × Int × Nat → Shared → Prop} (hs : s.heap.IsSliceOf sl vl vu vs) (pl : IsPart vl none) (pu : IsPart vu hi) (ps : IsPart vs (some (-1))) (hh : hi = none ∨ hi = some 0)
    (h : Q ((n : Int) - 1, -1, backN n hi) s) : wpAny (model prog w) A (Builtin.Slice.sliceApplied (.ref sl) (pure (n : Int))) Q E s := by
  obtain ⟨os, hos, hcs, hds⟩ := id hs
  unfold Builtin.Slice.sliceApplied Builtin.Slice.sliceFields
  refine wpAny_bind (wpAny_bind (wpAny_field hos hds (x := vl) rfl (wpAny_bind (wpAny_field hos hds (x := vu) rfl (wpAny_bind (wpAny_field hos hds (x := vs) rfl (wpAny_pure ?_)))))))
  refine wpAny_bind (slicePart_ ps ?_)
  show wpAny _ _ (if ((-1 : Int) == 0) = true then _ else _) _ _ s
  rw [if_neg (by decide)]
  refine wpAny_bind (slicePart_ pl (wpAny_bind (slicePart_ pu (wpAny_bind (wpAny_pure ?_)))))
  show wpAny _ _ (match Builtin.Slice.sliceAdjust none hi (-1) (n : Int) with | (lo, hi) => pure (lo, (-1 : Int), Builtin.Slice.slicePlaces lo hi (-1))) _ _ s
  have e : Builtin.Slice.sliceAdjust none hi (-1) (n : Int) = ((n : Int) - 1, stopB n hi) := by
    rcases hh with rfl | rfl <;> rfl
  have p : Builtin.Slice.slicePlaces ((n : Int) - 1) (stopB n hi) (-1) = backN n hi := by
    unfold Builtin.Slice.slicePlaces
    rw [if_neg (by decide)]
    rcases hh with rfl | rfl
    · show (if (n : Int) - 1 > -1 then ((n : Int) - 1 - -1 - 1) / - -1 + 1 else 0).toNat = n
      by_cases c : (n : Int) - 1 > -1
      · rw [if_pos c, show -(-1 : Int) = 1 from rfl, Int.ediv_one]
        omega
      · rw [if_neg c]
        omega
    · show (if (n : Int) - 1 > min 0 ((n : Int) - 1) then ((n : Int) - 1 - min 0 ((n : Int) - 1) - 1) / - -1 + 1 else 0).toNat = n - 1
      by_cases c : (n : Int) - 1 > min 0 ((n : Int) - 1)
      · rw [if_pos c, show -(-1 : Int) = 1 from rfl, Int.ediv_one]
        omega
      · rw [if_neg c]
        omega
  rw [e]
  dsimp only
  rw [p]
  exact wpAny_pure h
theorem pick_backT (its : List Value) (hi : Option Int) (hh : hi = none ∨ hi = some 0) : ((List.range (backN its.toArray.size hi)).filterMap fun (m : Nat) => its.toArray[(((its.toArray.size : Int) - 1) + (m : Int) * -1).toNat]?).toArray = (match hi with | none => its.reverse | some _ => (its.drop 1).reverse).toArray := by
  have sz : its.toArray.size = its.length := List.size_toArray ..
  have f : (fun (m : Nat) => its.toArray[(((its.toArray.size : Int) - 1) + (m : Int) * -1).toNat]?) = (its.toArray[·]?) ∘ fun (m : Nat) => (((its.length : Int) - 1) + (-1) * (m : Int)).toNat := by
    funext m
    show its.toArray[(((its.toArray.size : Int) - 1) + (m : Int) * -1).toNat]? = its.toArray[(((its.length : Int) - 1) + (-1) * (m : Int)).toNat]?
    rw [sz, Int.mul_comm]
  rw [f, ← List.filterMap_map, sz]
  rcases hh with rfl | rfl
  · show (List.filterMap _ (List.map _ (List.range its.length))).toArray = _
    rw [pick_back its.toArray its.length sz its.length (Nat.le_refl _), Nat.sub_self]
    rfl
  · show (List.filterMap _ (List.map _ (List.range (its.length - 1)))).toArray = _
    rw [pick_back its.toArray its.length sz (its.length - 1) (by omega)]
    cases its with
    | nil => rfl
    | cons a l =>
      congr 2
      show List.drop (l.length + 1 - (l.length + 1 - 1)) (a :: l) = List.drop 1 (a :: l)
      rw [show l.length + 1 - (l.length + 1 - 1) = 1 by omega]
open HT in
theorem getItem_tuple_back {t sl : Addr} {its : List Value} {vl vu vs : Value} {hi : Option Int} {Q : Value → Shared → Prop} (ht : IsTup s.heap t its.toArray) (hs : s.heap.IsSliceOf sl vl vu vs) (pl : IsPart vl none) (pu : IsPart vu hi) (ps : IsPart vs (some (-1))) (hh : hi = none ∨ hi = some 0)
    (h : Q (.ref s.heap.objs.size) { s with heap := s.heap.push { cls := .type "tuple", data := .seq ((match hi with | none => its.reverse | some _ => (its.drop 1).reverse).toArray) } })
    (hsz : its.length ≤ sizeLine) : wpAny (model prog w) A (getItem (.ref t) (.ref sl)) Q E s := by
  have htake : sizeOk (.seq ((match hi with | none => its.reverse | some _ => (its.drop 1).reverse).toArray)) := by
    show ((match hi with | none => its.reverse | some _ => (its.drop 1).reverse).toArray).size ≤ sizeLine
    rw [List.size_toArray]
    cases hi with
    | none =>
      show its.reverse.length ≤ _
      rw [List.length_reverse]
      exact hsz
    | some i =>
      show (its.drop 1).reverse.length ≤ _
      rw [List.length_reverse, List.length_drop]
      omega
  obtain ⟨os, hos, hcs, hds⟩ := id hs
  have hTs : s.TypeIs (.ref sl) "slice" := ⟨os, hos, hcs⟩
  unfold getItem
  try with_reducible refine wpAny_holding ?_
  first | refine wpAny_bind (wpAny_pure ?_) | skip
  refine wpAny_bind (wpAny_sequenceKey ht.typeIs (by decide) ?_)
  refine wpAny_bind (wpAny_callSpecial?_slot (name := Str.ofString "__getitem__") ht.typeIs PyProof.Rows.slot_tuple_getitem
    (wpAny_call_entry PyProof.Rows.slot_tuple_getitem ht.typeIs entry_tuple_getitem ?_ (args_tuple_getitem _ _)))
  show wpAny _ _ (Builtin.Tuple.tupleItemsOf (.ref t) >>= _) _ _ s
  refine wpAny_bind (tupleItemsOf_ ht ?_)
  refine wpAny_bind (wpAny_typeOf hTs ?_)
  rw [if_pos (by decide)]
  refine wpAny_bind (applied_back hs pl pu ps hh ?_)
  show wpAny _ _ (if ((((its.toArray.size : Nat) : Int) - 1) == 0 && (-1 : Int) == 1 && backN its.toArray.size hi == its.toArray.size) = true then _ else _) _ _ s
  rw [if_neg (by rw [show ((-1 : Int) == 1) = false from rfl, Bool.and_false, Bool.false_and]; decide), pick_backT its hi hh]
  first
    | exact wpAny_bind (m := Builtin.Tuple.tupleExact _) (wpAny_newObj_type (wpAny_pure ⟨_, rfl, wpAny_pure h⟩) htake)
    | exact wpAny_bind (m := Builtin.Tuple.tupleExact _) (wpAny_newObj_type (wpAny_bind (wpAny_pure (wpAny_pure ⟨_, rfl, wpAny_pure h⟩))) htake)
    | exact wpAny_bind (wpAny_bind (m := Builtin.Tuple.tupleExact _) (wpAny_newObj_type (wpAny_pure (wpAny_pure ⟨_, rfl, wpAny_pure h⟩)) htake))
    | exact wpAny_bind (wpAny_bind (m := Builtin.Tuple.tupleExact _) (wpAny_newObj_type (wpAny_pure ⟨_, rfl, wpAny_pure h⟩) htake))
end
/-- xs[::-1] and xs[:0:-1] of a tuple -/
def rBkT (K : PySem.W.Frag) : V → Option Int → Option Int → Option Int → Hp → VK → Prop := fun x lo hi st H Q => ∃ a xs, x = .ref a ∧ SqT K H a xs ∧ lo = none ∧ (hi = none ∨ hi = some 0) ∧ st = some (-1) ∧ ∀ p, H p = none → Q (.ref p) (upd H p (.tup (backV xs hi)))
theorem sl_bkT {X : Cx} : SlR3 X (rBkT X.K) := by
  intro pins s σ H x v vl vu vs lo hi st sl Q I rx hs pl pu ps h
  obtain ⟨a, xs, rfl, hx, rfl, hh, rfl, q⟩ := h
  cases rx
  obtain ⟨its, r, ht, hz⟩ := I.tuple hx
  have hlen := r.length
  refine ⟨"tuple", _, PyProof.Rows.slot_tuple_getitem.lookup, ht.typeIs, ?_⟩
  refine getItem_tuple_back ht hs pl pu ps hh ?_ (by omega)
  refine ⟨.ref s.heap.objs.size, _, I.laid (t' := s.toks) (o := .tup (backV xs hi)) (fun b ob q => Heap.get?_push_of_some _ q) (Nat.le_refl _) ?_, rfl, q _ (I.hok.fresh (Nat.le_refl _))⟩
  refine ⟨?_, _, vals_back r hi, IsTup.new _ _⟩
  rcases hh with rfl | rfl
  · show xs.reverse.length ≤ sizeLine
    rw [List.length_reverse]
    exact hz
  · show (xs.drop 1).reverse.length ≤ sizeLine
    rw [List.length_reverse, List.length_drop]
    omega
end Os
/-! list(zip(l1, l2)) of two lists -/
namespace OZl
open PySem PySem.Spec PyProof.Rows L2 RZ OZ
section
variable {prog : Program} {w : World} {A : Around} {E : Value → Shared → Prop} {s : Shared}
theorem held_item {z TI TO T i1 i2 l1 l2 : Addr} {f : Bool} {oT : Obj} {k1 k2 : Nat} {xs ys : Array Value} {x y : Value} {Q : Option Value → Shared → Prop} (D : ZipApart z TI TO i1 i2 l1 l2)
    (hz : IsZipHeld s.heap z TI TO T f) (hT : s.heap.get? T = some oT) (hTI : IsPair s.heap TI (.ref i1) (.ref i2))
    (h1 : s.heap.IsListIter i1 l1 k1) (h2 : s.heap.IsListIter i2 l2 k2) (hl1 : s.heap.IsList l1 xs) (hl2 : s.heap.IsList l2 ys) (hx : xs[k1]? = some x) (hy : ys[k2]? = some y)
    (hQ : ∀ h', IsZipHeld h' z TI TO T true → h'.IsListIter i1 l1 (k1 + 1) → h'.IsListIter i2 l2 (k2 + 1) → IsPair h' s.heap.objs.size x y → h'.objs.size = s.heap.objs.size + 1 →
      (∀ c o, c ≠ z → c ≠ i1 → c ≠ i2 → s.heap.get? c = some o → h'.get? c = some o) → Q (some (.ref s.heap.objs.size)) { s with heap := h' }) :
    wpAny (model prog w) A (pyNext (.ref z)) Q E s := by
  have hTy : s.TypeIs (.ref z) "zip" := ⟨_, hz, rfl⟩
  unfold pyNext
  refine wpAny_bind (wpAny_attempt (wpAny_callSpecial?_slot (name := Str.ofString "__next__") hTy F.slot_zip_next
    (wpAny_call_entry F.slot_zip_next hTy F.entry_zip_next ?_ (F.args_zip_next_1 _))))
  show wpAny _ _ (field (.ref z) 2 >>= _) _ _ _
  refine wpAny_bind (wpAny_field hz rfl (x := .bool false) rfl ?_)
  show wpAny _ _ (field (.ref z) 3 >>= _) _ _ _
  refine wpAny_bind (wpAny_field hz rfl (x := .ref TI) rfl ?_)
  refine wpAny_bind (wpAny_seqItems hTI rfl ?_)
  show wpAny _ _ (Builtin.SmallTypes.ownedTupleIsFree (.ref z) >>= _) _ _ _
  refine wpAny_bind (wpAny_tupleHeld_zip hz hT fun h₁ hz₁ hs₁ => ?_)
  simp only [Bool.false_eq_true, if_false]
  refine wpAny_bind ?_
  rw [← Array.forIn_toList]
  simp only [List.forIn_cons, List.forIn_nil]
  refine wpAny_bind (wpAny_bind (wpAny_holding ?_))
  show wpAny _ _ (Builtin.SmallTypes.nextOf (.ref i1) >>= _) _ _ _
  refine wpAny_bind (wpAny_nextOf_list_item (s := { s with heap := h₁ }) (h1.extBut hs₁.extBut D.i1z) (hl1.extBut hs₁.extBut D.l1z) hx fun h₂ h1₂ hs₂ => wpAny_pure ?_)
  refine wpAny_pure ?_
  refine wpAny_bind (wpAny_bind (wpAny_holding ?_))
  show wpAny _ _ (Builtin.SmallTypes.nextOf (.ref i2) >>= _) _ _ _
  refine wpAny_bind (wpAny_nextOf_list_item (s := { s with heap := h₂ }) ((h2.extBut hs₁.extBut D.i2z).extBut hs₂.extBut D.i12.symm) ((hl2.extBut hs₁.extBut D.l2z).extBut hs₂.extBut D.l2i1) hy fun h₃ h2₃ hs₃ => wpAny_pure ?_)
  refine wpAny_pure (wpAny_pure ?_)
  show wpAny _ _ (newTuple [x, y] >>= _) _ _ _
  refine wpAny_bind (wpAny_newTuple ?_)
  have hsz : h₃.objs.size = s.heap.objs.size := by rw [hs₃.1, hs₂.1, hs₁.1]
  have hz₃ : IsZipHeld h₃ z TI TO T true := hs₃.extBut _ _ D.i2z.symm (hs₂.extBut _ _ D.i1z.symm hz₁)
  have hk : ∀ c o, c ≠ z → c ≠ i1 → c ≠ i2 → s.heap.get? c = some o → h₃.get? c = some o := fun c o c1 c2 c3 e => hs₃.extBut _ _ c3 (hs₂.extBut _ _ c2 (hs₁.extBut _ _ c1 e))
  have h1₃ : h₃.IsListIter i1 l1 (k1 + 1) := h1₂.extBut hs₃.extBut D.i12
  refine wpAny_pure ⟨_, rfl, wpAny_pure ?_⟩
  show Q (some (.ref h₃.objs.size)) _
  have hp : IsPair (h₃.push { cls := .type "tuple", data := .seq #[x, y] }) h₃.objs.size x y := Heap.get?_push_size _ rfl
  have hz4 : (h₃.push { cls := .type "tuple", data := .seq #[x, y] }).objs.size = h₃.objs.size + 1 := Heap.size_push ..
  rw [hsz] at hp hz4 ⊢
  exact hQ _ (Heap.get?_push_of_some _ hz₃) (h1₃.at fun o e => Heap.get?_push_of_some _ e) (h2₃.at fun o e => Heap.get?_push_of_some _ e) hp hz4 fun c o c1 c2 c3 e => Heap.get?_push_of_some _ (hk c o c1 c2 c3 e)
theorem held_end {z TI TO T i1 i2 l1 l2 : Addr} {f : Bool} {oT : Obj} {k1 : Nat} {xs : Array Value} {Q : Option Value → Shared → Prop} (hh : A.handled = none) (D : ZipApart z TI TO i1 i2 l1 l2)
    (hz : IsZipHeld s.heap z TI TO T f) (hT : s.heap.get? T = some oT) (hTI : IsPair s.heap TI (.ref i1) (.ref i2))
    (h1 : s.heap.IsListIter i1 l1 k1) (hl1 : s.heap.IsList l1 xs) (hend : xs[k1]? = none)
    (hQ : ∀ h', (∀ c o, c ≠ z → c ≠ i1 → c ≠ i2 → s.heap.get? c = some o → h'.get? c = some o) → Q none { s with heap := h' }) :
    wpAny (model prog w) A (pyNext (.ref z)) Q E s := by
  have hTy : s.TypeIs (.ref z) "zip" := ⟨_, hz, rfl⟩
  unfold pyNext
  refine wpAny_bind (wpAny_attempt (wpAny_callSpecial?_slot (name := Str.ofString "__next__") hTy F.slot_zip_next
    (wpAny_call_entry F.slot_zip_next hTy F.entry_zip_next ?_ (F.args_zip_next_1 _))))
  show wpAny _ _ (field (.ref z) 2 >>= _) _ _ _
  refine wpAny_bind (wpAny_field hz rfl (x := .bool false) rfl ?_)
  show wpAny _ _ (field (.ref z) 3 >>= _) _ _ _
  refine wpAny_bind (wpAny_field hz rfl (x := .ref TI) rfl ?_)
  refine wpAny_bind (wpAny_seqItems hTI rfl ?_)
  show wpAny _ _ (Builtin.SmallTypes.ownedTupleIsFree (.ref z) >>= _) _ _ _
  refine wpAny_bind (wpAny_tupleHeld_zip hz hT fun h₁ hz₁ hs₁ => ?_)
  simp only [Bool.false_eq_true, if_false]
  refine wpAny_bind ?_
  rw [← Array.forIn_toList]
  simp only [List.forIn_cons, List.forIn_nil]
  refine wpAny_bind (wpAny_bind (wpAny_holding ?_))
  show wpAny _ _ (Builtin.SmallTypes.nextOf (.ref i1) >>= _) _ _ _
  refine wpAny_bind (wpAny_nextOf_list_end (s := { s with heap := h₁ }) hh (h1.extBut hs₁.extBut D.i1z) (hl1.extBut hs₁.extBut D.l1z) hend fun h₂ e hs₂ he => ?_)
  obtain ⟨o, ho, hc⟩ := he
  refine wpAny_bind (wpAny_isInstance (T := "StopIteration") (b := true) ⟨o, ho, hc⟩ isSubtype_stop ?_)
  exact wpAny_pure (hQ _ fun c o c1 c2 _ x => hs₂ _ _ c2 (hs₁.extBut _ _ c1 x))
end
section
variable {prog : Program} {w : World} {A : Around} {E : Value → Shared → Prop} {s : Shared}
theorem either_item {z TI TO i1 i2 l1 l2 S : Addr} {i : Nat} {xs ys : Array Value} {x y : Value} {Q : Option Value → Shared → Prop} (D : ZipApart z TI TO i1 i2 l1 l2)
    (hst : ZFree s.heap z TI TO ∨ ZHeld s.heap z TI TO S) (hTI : IsPair s.heap TI (.ref i1) (.ref i2)) (lz : z < S) (lTI : TI < S) (li1 : i1 < S) (li2 : i2 < S) (lS : S < s.heap.objs.size)
    (h1 : s.heap.IsListIter i1 l1 i) (h2 : s.heap.IsListIter i2 l2 i) (hl1 : s.heap.IsList l1 xs) (hl2 : s.heap.IsList l2 ys) (hx : xs[i]? = some x) (hy : ys[i]? = some y)
    (hQ : ∀ h', ZHeld h' z TI TO S → IsPair h' TI (.ref i1) (.ref i2) → h'.IsListIter i1 l1 (i + 1) → h'.IsListIter i2 l2 (i + 1) → IsPair h' s.heap.objs.size x y →
      (∀ c o, c ≠ z → c ≠ TO → c ≠ i1 → c ≠ i2 → s.heap.get? c = some o → h'.get? c = some o) → Q (some (.ref s.heap.objs.size)) { s with heap := h' }) :
    wpAny (model prog w) A (pyNext (.ref z)) Q E s := by
  rcases hst with ⟨hz, a, b, hTO⟩ | ⟨T, f, oT, hz, hT, lT⟩
  · exact wpAny_pyNext_zip_item D hz hTI hTO h1 h2 hl1 hl2 hx hy fun h' z' _ a1 a2 a3 _ a5 => hQ h' ⟨_, false, _, z', a3, lS⟩ (a5 _ _ D.TIz D.TITO D.TIi1 D.TIi2 hTI) a1 a2 a3 a5
  · refine held_item D hz hT hTI h1 h2 hl1 hl2 hx hy fun h' z' a1 a2 a3 _ a5 => hQ h' ⟨T, true, oT, z', a5 _ _ ?_ ?_ ?_ hT, lT⟩ (a5 _ _ D.TIz D.TIi1 D.TIi2 hTI) a1 a2 a3 (fun c o c1 _ c3 c4 e => a5 c o c1 c3 c4 e)
    · exact Nat.ne_of_gt (Nat.lt_trans lz lT)
    · exact Nat.ne_of_gt (Nat.lt_trans li1 lT)
    · exact Nat.ne_of_gt (Nat.lt_trans li2 lT)
end
theorem sqL_keep {K : PySem.W.Frag} {H H' : Hp} {p : Addr} {xs : List V} (k : ∀ b o, H b = some o → H' b = some o) (h : SqL K H p xs) : SqL K H' p xs := by
  rcases h with (h | ⟨o, h⟩) | h
  · exact .inl (.inl (k _ _ h))
  · exact .inl (.inr ⟨o, k _ _ h⟩)
  · exact .inr h
theorem told_over {H : Hp} {S : Addr} {xs ys : List V} {Ts : List Addr} {as bs : List V} (hS : H S = some (.lst as)) (t : Told H xs ys Ts) : Told (upd H S (.lst bs)) xs ys Ts := by
  intro j U hj
  obtain ⟨a, b, e1, e2, e3⟩ := t j U hj
  refine ⟨a, b, e1, e2, ?_⟩
  rw [upd_ne (ne_of e3 hS (by intro z; cases z))]
  exact e3
/-- a list of ours at S -/
def LstAt (h : Heap) (S : Addr) (Ts : List Addr) : Prop := ∃ c, h.get? S = some { cls := .type "list", dict := none, data := .seq (Ts.map Value.ref).toArray c, slots := #[] }
theorem lst_ok {P : Program} {w : World} {H : Hp} {h : Heap} {S : Addr} {Ts : List Addr} (hn : Ts.length ≤ sizeLine) (e : LstAt h S Ts) : ObjOk P w H h S (.lst (Ts.map V.ref)) := by
  obtain ⟨c, e⟩ := e
  exact ⟨by rw [List.length_map]; exact hn, Ts.map Value.ref, c, vals_refs, e⟩
theorem zip_loop {X : Cx} {pins : List (Addr × Obj)} {σ : L2.St} {A : Around} {l1 l2 z TI TO i1 i2 S : Addr} {xs ys : List V} {H1 : Hp} {R : Result → Shared → Prop} {res : Value} (hh : A.in1.handled = none) (D : ZipApart z TI TO i1 i2 l1 l2)
    (lz : z < S) (lTI : TI < S) (lTO : TO < S) (li1 : i1 < S) (li2 : i2 < S) (hlen : xs.length = ys.length) (hn : xs.length ≤ sizeLine) (hl1 : SqL X.K H1 l1 xs) (hl2 : SqL X.K H1 l2 ys) (hS1 : H1 S = none) :
    ∀ (k i : Nat) (s : Shared) (H : Hp) (Ts : List Addr), xs.length - i = k → i ≤ xs.length → Inv X pins σ H s → (∀ b o, H1 b = some o → H b = some o) → (∀ b ∈ [z, TI, TO, i1, i2], FpOk X pins H b) →
    ((i = 0 ∧ i < xs.length ∧ ZFree s.heap z TI TO) ∨ ZHeld s.heap z TI TO S) → IsPair s.heap TI (.ref i1) (.ref i2) → s.heap.IsListIter i1 l1 i → s.heap.IsListIter i2 l2 i →
    H S = some (.lst (Ts.map V.ref)) → LstAt s.heap S Ts → Ts.length = i → Told H xs ys Ts →
    (∀ s' H' Ts', Inv X pins σ H' s' → (∀ b o, H1 b = some o → H' b = some o) → H' S = some (.lst (Ts'.map V.ref)) → Ts'.length = xs.length → Told H' xs ys Ts' → R (.ok (.ret res)) s') →
    codeAny (model X.prog X.w) A (.builtin "list.extend.loop" ⟨[.ref S, .ref z, res], []⟩) R s := by
  intro k
  induction k with
  | zero =>
    intro i s H Ts hk hi I km hf hst hTI h1 h2 hHS hS hl ht hR
    have hin : i = xs.length := by omega
    rcases hst with ⟨_, hlt, _⟩ | ⟨T, f, oT, hz, hT, lT⟩
    · omega
    refine codeAny_builtin F.entry_extend_loop ?_
    rw [Around.under_plainId F.plain_extend_loop _]
    show wpAny _ A.in1 (pyNext (.ref z) >>= _) _ _ s
    obtain ⟨its, rv, p1, _⟩ := I.list (sqL_keep km hl1)
    have q1 := rv.length
    refine wpAny_bind (held_end (l2 := l2) hh D hz hT hTI h1 (show s.heap.IsList l1 its.toArray from p1.isList) (by simp; omega) fun h' hk' => ?_)
    have I1 : Inv X pins σ H { s with heap := h' } := I.turnedL (t' := s.toks) (ch := [z, TI, TO, i1, i2]) (fun b o hb e => hk' b o (fun q => hb (by simp [q])) (fun q => hb (by simp [q])) (fun q => hb (by simp [q])) e) hf
    exact wpAny_pure (hR _ H Ts I1 km hHS (hl.trans hin) ht)
  | succ k ih =>
    intro i s H Ts hk hi I km hf hst hTI h1 h2 hHS hS hl ht hR
    have hlt : i < xs.length := by omega
    have hlt2 : i < ys.length := by omega
    refine codeAny_builtin F.entry_extend_loop ?_
    rw [Around.under_plainId F.plain_extend_loop _]
    show wpAny _ A.in1 (pyNext (.ref z) >>= _) _ _ s
    obtain ⟨its, rv, p1, _⟩ := I.list (sqL_keep km hl1)
    obtain ⟨its2, rv2, p2, _⟩ := I.list (sqL_keep km hl2)
    obtain ⟨x, hx⟩ : ∃ x, xs[i]? = some x := ⟨_, List.getElem?_eq_getElem hlt⟩
    obtain ⟨y, hy⟩ : ∃ y, ys[i]? = some y := ⟨_, List.getElem?_eq_getElem hlt2⟩
    obtain ⟨u, hu, ru⟩ := rv.get hx
    obtain ⟨u2, hu2, ru2⟩ := rv2.get hy
    have hN : H s.heap.objs.size = none := I.hok.fresh (Nat.le_refl _)
    obtain ⟨c, hS0⟩ := hS
    have lS : S < s.heap.objs.size := Heap.lt_size hS0
    refine wpAny_bind (either_item (S := S) D (hst.elim (fun q => .inl q.2.2) .inr) hTI lz lTI li1 li2 lS h1 h2 (show s.heap.IsList l1 its.toArray from p1.isList) (show s.heap.IsList l2 its2.toArray from p2.isList) (x := u) (y := u2) (by simpa using hu) (by simpa using hu2) fun h' hz' hTI' h1' h2' hT' hk' => ?_)
    have new : ObjOk X.prog X.w (upd H s.heap.objs.size (.tup [x, y])) h' s.heap.objs.size (.tup [x, y]) :=
      ⟨by show 2 ≤ sizeLine; decide, [u, u2], .cons ru (.cons ru2 .nil), ⟨_, hT', rfl, _, rfl⟩⟩
    have I1 : Inv X pins σ (upd H s.heap.objs.size (.tup [x, y])) { s with heap := h' } :=
      I.turnedNew (t' := s.toks) (ch := [z, TI, TO, i1, i2]) (fun b o hb e => hk' b o (fun q => hb (by simp [q])) (fun q => hb (by simp [q])) (fun q => hb (by simp [q])) (fun q => hb (by simp [q])) e) hf (Nat.le_refl _) new
    have hS' := hk' _ _ (Nat.ne_of_gt lz) (Nat.ne_of_gt lTO) (Nat.ne_of_gt li1) (Nat.ne_of_gt li2) hS0
    have hlb : ∀ b ∈ [z, TI, TO, i1, i2], b < S := fun b hb => by
      have e' : b = z ∨ b = TI ∨ b = TO ∨ b = i1 ∨ b = i2 := by simpa using hb
      rcases e' with q | q | q | q | q <;> rw [q] <;> assumption
    have hf' : ∀ b ∈ [z, TI, TO, i1, i2], FpOk X pins (upd (upd H s.heap.objs.size (.tup [x, y])) S (.lst ((Ts ++ [s.heap.objs.size]).map V.ref))) b := fun b hb => by
      have l := hlb b hb
      obtain ⟨f0, f1⟩ := hf b hb
      exact ⟨by rw [upd_ne (Nat.ne_of_lt l), upd_ne (Nat.ne_of_lt (Nat.lt_trans l lS))]; exact f0, f1⟩
    have hHS' : upd H s.heap.objs.size (.tup [x, y]) S = some (.lst (Ts.map V.ref)) := by rw [upd_ne (Nat.ne_of_lt lS)]; exact hHS
    show wpAny _ A.in1 (updateSeq S (·.push (.ref s.heap.objs.size)) >>= _) _ _ _
    refine wpAny_bind ?_
    refine wpAny_updateSeq hS' rfl ?_ (by simp; omega) (by show ((Ts.map Value.ref).toArray.push (.ref s.heap.objs.size)).size ≤ sizeLine + 1; rw [Array.size_push]; simp; omega)
    have hSn : LstAt (h'.update S (Obj.mapSeq (·.push (.ref s.heap.objs.size)))) S (Ts ++ [s.heap.objs.size]) := by
      refine ⟨if ((Ts.map Value.ref).toArray.push (.ref s.heap.objs.size)).size == (Ts.map Value.ref).toArray.size then c else c + 1, (Heap.get?_update_self _ hS' rfl).trans ?_⟩
      have e : ((Ts ++ [s.heap.objs.size]).map Value.ref).toArray = (Ts.map Value.ref).toArray.push (.ref s.heap.objs.size) := by simp
      rw [e] <;> rfl
    refine wpAny_pure ⟨plainId_quiet F.plain_extend_loop _, ih (i + 1) _ _ (Ts ++ [s.heap.objs.size]) (by omega) (by omega) (I1.write (x := S) (e := S) (t' := s.toks) (by rw [hHS']; trivial) (.inl rfl) (fun b o hb e => (Heap.get?_update_other _ _ (Ne.symm hb)).trans e) (let ⟨_, e⟩ := hSn; ⟨_, e⟩) (lst_ok (by simp; omega) hSn)) ?_ hf' (.inr ?_) ?_ ?_ ?_ upd_same hSn ?_ ?_ hR⟩
    · intro b o e
      rw [upd_ne (ne_of_none e hS1), upd_ne (ne_of_none (km b o e) hN)]
      exact km b o e
    · obtain ⟨T, f, oT, hz, hT, lT⟩ := hz'
      exact ⟨T, f, oT, (Heap.get?_update_other _ _ (Nat.ne_of_gt lz)).trans hz, (Heap.get?_update_other _ _ (Nat.ne_of_lt lT)).trans hT, lT⟩
    · exact (Heap.get?_update_other _ _ (Nat.ne_of_gt lTI)).trans hTI'
    · exact h1'.at fun o e => (Heap.get?_update_other _ _ (Nat.ne_of_gt li1)).trans e
    · exact h2'.at fun o e => (Heap.get?_update_other _ _ (Nat.ne_of_gt li2)).trans e
    · simp [hl]
    · exact told_over hHS' (told_snoc ht hN (by rw [hl]; exact hx) (by rw [hl]; exact hy))
/-- list(zip(a, b)) -/
def tListZip (K : PySem.W.Frag) (ta : TA) : TE := fun σ H Q => ta σ H fun vs H1 => ∃ (a b : Addr) (xs ys : List V), vs = [.ref a, .ref b] ∧ SqL K H1 a xs ∧ SqL K H1 b ys ∧ xs.length = ys.length ∧ 0 < xs.length ∧
  ∀ H2 t Ts, H1 t = none → (∀ c o, H1 c = some o → H2 c = some o) → H2 t = some (.lst (Ts.map V.ref)) → Ts.length = xs.length → Told H2 xs ys Ts → Q (.ref t) H2
theorem call_list_zip {X : Cx} {pins : List (Addr × Obj)} {σ : L2.St} {A : Around} {E : Value → Shared → Prop} {l1 l2 z TI TO i1 i2 : Addr} {xs ys : List V} {H1 : Hp} {s : Shared} {Q : Value → Shared → Prop} (hh : A.handled = none) (D : ZipApart z TI TO i1 i2 l1 l2)
    (hlen : xs.length = ys.length) (h0 : 0 < xs.length) (hn : xs.length ≤ sizeLine) (hl1 : SqL X.K H1 l1 xs) (hl2 : SqL X.K H1 l2 ys) (I : Inv X pins σ H1 s) (hf : ∀ b ∈ [z, TI, TO, i1, i2], FpOk X pins H1 b ∧ b < s.heap.objs.size)
    (hz : ZFree s.heap z TI TO) (hTI : IsPair s.heap TI (.ref i1) (.ref i2)) (h1 : s.heap.IsListIter i1 l1 0) (h2 : s.heap.IsListIter i2 l2 0)
    (hQ : ∀ s' H' Ts, Inv X pins σ H' s' → (∀ b o, H1 b = some o → H' b = some o) → H' s.heap.objs.size = some (.lst (Ts.map V.ref)) → Ts.length = xs.length → Told H' xs ys Ts → Q (.ref s.heap.objs.size) s') :
    wpAny (model X.prog X.w) A (call (.type "list") [.ref z]) Q E s := by
  have lz := (hf z (by simp)).2
  have lTI := (hf TI (by simp)).2
  have lTO := (hf TO (by simp)).2
  have li1 := (hf i1 (by simp)).2
  have li2 := (hf i2 (by simp)).2
  have hS1 : H1 s.heap.objs.size = none := I.hok.fresh (Nat.le_refl _)
  refine callType_codes (Q₁ := fun obj s₁ => obj = .ref s.heap.objs.size ∧ s₁ = { s with heap := s.heap.push { cls := .type "list", data := .seq #[] } }) PySem.F.called_list (PySem.F.typeCall_list_1 _) PySem.F.entry_list_init
    (code_list_new _ ⟨rfl, rfl⟩) fun obj s₁ h₁ => ?_
  obtain ⟨rfl, rfl⟩ := h₁
  have hS : (s.heap.push { cls := .type "list", data := .seq #[] }).get? s.heap.objs.size = some { cls := .type "list", data := .seq #[] } := Heap.get?_push_size _ rfl
  refine ⟨⟨_, hS, rfl⟩, PySem.F.args_list_init_2 _ _, ?_⟩
  have kp : ∀ b o, s.heap.get? b = some o → (s.heap.push { cls := .type "list", data := .seq #[] }).get? b = some o := fun b o e => Heap.get?_push_of_some _ e
  show wpAny _ _ (do let old ← Builtin.List.listItems (.ref s.heap.objs.size); Builtin.List.listUpdate (.ref s.heap.objs.size) (fun _ => #[]); letGo old.toList.reverse; Builtin.List.listExtendWith (.ref s.heap.objs.size) (.ref z) .none) _ _ _
  refine wpAny_bind ?_
  unfold Builtin.List.listItems
  refine wpAny_bind (wpAny_seqItems hS rfl (wpAny_pure ?_))
  show wpAny _ _ (updateSeq s.heap.objs.size (fun _ => #[]) >>= fun _ => letGo (#[] : Array Value).toList.reverse >>= fun _ => Builtin.List.listExtendWith (.ref s.heap.objs.size) (.ref z) .none) _ _ _
  refine wpAny_bind (wpAny_updateSeq hS rfl ?_)
  have hS₀ := Heap.get?_update_self (Obj.mapSeq (fun _ => (#[] : Array Value))) hS rfl
  have kp0 : ∀ b o, s.heap.get? b = some o → ((s.heap.push { cls := .type "list", data := .seq #[] }).update s.heap.objs.size (Obj.mapSeq (fun _ => (#[] : Array Value)))).get? b = some o :=
    fun b o e => (Heap.get?_update_other _ _ (Nat.ne_of_gt (Heap.lt_size e))).trans (kp b o e)
  refine wpAny_bind (wpAny_letGo ?_)
  generalize hG : (s.heap.push { cls := .type "list", data := .seq #[] }).update s.heap.objs.size (Obj.mapSeq (fun _ => (#[] : Array Value))) = G at *
  have hTy : ({ s with heap := G } : Shared).TypeIs (.ref z) "zip" := ⟨_, kp0 _ _ hz.1, rfl⟩
  unfold Builtin.List.listExtendWith
  refine wpAny_bind (wpAny_typeOf hTy ?_)
  have hne : s.heap.objs.size ≠ z := Nat.ne_of_gt lz
  have h1' : Builtin.List.listSameRef (.ref s.heap.objs.size) (.ref z) = false := by simp [Builtin.List.listSameRef, hne]
  have t2 : (Value.type "zip" == Value.type "list") = false := by decide +kernel
  have t3 : (Value.type "zip" == Value.type "tuple") = false := by decide +kernel
  simp only [h1', t2, t3, Bool.or_false, Bool.false_eq_true, if_false]
  refine wpAny_bind (wpAny_pyIter_zip (s := { s with heap := G }) (kp0 _ _ hz.1) ?_)
  refine wpAny_bind (wpAny_holding ?_)
  unfold Builtin.List.listLengthHint
  refine wpAny_bind (wpAny_specialOf hTy nolen_zip ?_)
  show wpAny _ _ (specialOf (Value.ref z) (Str.ofString "__length_hint__") >>= _) _ _ _
  refine wpAny_bind (wpAny_specialOf hTy nohint_zip ?_)
  refine wpAny_pure ?_
  show wpAny _ _ (rule "list.extend.makes-room" >>= fun _ => Builtin.List.listTouch (.ref s.heap.objs.size) >>= fun _ =>
    again (.builtin "list.extend.loop" ⟨[.ref s.heap.objs.size, .ref z, .none], []⟩)) _ _ _
  refine wpAny_bind (wpAny_rule ?_)
  refine wpAny_bind ?_
  show wpAny _ _ (updateSeq s.heap.objs.size (·.push .none) >>= fun _ => updateSeq s.heap.objs.size (·.pop)) _ _ _
  refine wpAny_bind (wpAny_updateSeq hS₀ rfl ?_)
  have hS₂ := Heap.get?_update_self (Obj.mapSeq (·.push Value.none)) hS₀ rfl
  refine wpAny_updateSeq hS₂ rfl ?_
  have hS₃ := Heap.get?_update_self (Obj.mapSeq (·.pop)) hS₂ rfl
  have oth : ∀ b o, s.heap.get? b = some o → ((G.update s.heap.objs.size (Obj.mapSeq (·.push Value.none))).update s.heap.objs.size (Obj.mapSeq (·.pop))).get? b = some o :=
    fun b o e => (Heap.get?_update_other _ _ (Nat.ne_of_gt (Heap.lt_size e))).trans ((Heap.get?_update_other _ _ (Nat.ne_of_gt (Heap.lt_size e))).trans (kp0 b o e))
  have hL : LstAt ((G.update s.heap.objs.size (Obj.mapSeq (·.push Value.none))).update s.heap.objs.size (Obj.mapSeq (·.pop))) s.heap.objs.size [] := ⟨_, hS₃⟩
  have I2 : Inv X pins σ (upd H1 s.heap.objs.size (.lst [])) { s with heap := (G.update s.heap.objs.size (Obj.mapSeq (·.push Value.none))).update s.heap.objs.size (Obj.mapSeq (·.pop)) } := I.laid (t' := s.toks) oth (Nat.le_refl _) (lst_ok (Ts := []) (Nat.zero_le _) hL)
  refine wpAny_pure ⟨plainId_quiet F.plain_extend_loop _, zip_loop (X := X) (pins := pins) (σ := σ) (H1 := H1) (show A.in1.in1.handled = none from hh) D lz lTI lTO li1 li2 hlen hn hl1 hl2 hS1 xs.length 0 _ (upd H1 s.heap.objs.size (.lst [])) [] (by omega) (Nat.zero_le _) I2 (fun b o e => by rw [upd_ne (ne_of_none e hS1)]; exact e) (fun b hb => ?_)
    (.inl ⟨rfl, h0, oth _ _ hz.1, ?_⟩) (oth _ _ hTI) (h1.at fun o e => oth _ _ e) (h2.at fun o e => oth _ _ e) upd_same hL rfl (fun j T q => by simp at q) fun s' H' Ts' I' km' hS' hl' ht' => ?_⟩
  · obtain ⟨⟨f0, f1⟩, l⟩ := hf b hb
    exact ⟨by rw [upd_ne (Nat.ne_of_lt l)]; exact f0, f1⟩
  · obtain ⟨a, b, q⟩ := hz.2
    exact ⟨a, b, oth _ _ q⟩
  · exact ⟨rfl, hQ s' H' Ts' I' km' hS' hl' ht'⟩
theorem pe_listZip {X : Cx} {e e2 : Expr} {ta : TA} {p p2 pos pos2 : Pos} (hc : X.calm = true) (hg : Gl X "list") (hm : X.mg "list" = none) (hg2 : Gl X "zip") (hm2 : X.mg "zip" = none) (ha : PA X [e, e2] ta)
    (hs : starEach [e, e2] X.env = (false, eval e X.env) :: starEach [e2] X.env := by rfl) (hpl : (backTo pos2 (starEach [e2] X.env)).any (·.1) = false := by rfl)
    (hs2 : starEach [.Call (.Name "zip" p2) [e, e2] [] pos2] X.env = (false, eval (.Call (.Name "zip" p2) [e, e2] [] pos2) X.env) :: starEach [] X.env := by rfl) :
    PE X (.Call (.Name "list" p) [.Call (.Name "zip" p2) [e, e2] [] pos2] [] pos) (tListZip X.K ta) := by
  refine ⟨fun pins s σ H Q I h => ?_⟩
  refine Call_ (ld_blt I hg hm boot_list (PyProof.Rows.callWith_type1 (args_cons (Call_ (ld_blt I hg2 hm2 PyProof.Rows.boot_zip (PyProof.Rows.callWith_type1 (thn (ha.run pos2 pins s σ H _ I h) fun us s1 ⟨vs, H1, I1, r1, q1⟩ => ?_) hs hpl))) hs2) hs2 rfl))
  obtain ⟨a, b, xs, ys, ex, hqx, hqy, hlen, h0, q⟩ := q1
  subst ex
  cases r1 with
  | cons r rr =>
    cases rr with
    | cons r' rr =>
      cases rr
      cases r
      cases r'
      have fresh5 : ∀ c, c ∈ [s1.heap.objs.size + 4, s1.heap.objs.size + 2, s1.heap.objs.size + 3, s1.heap.objs.size, s1.heap.objs.size + 1] → FpOk X pins H1 c ∧ c < s1.heap.objs.size + 5 := fun c hcm => by
        have e' : c = s1.heap.objs.size + 4 ∨ c = s1.heap.objs.size + 2 ∨ c = s1.heap.objs.size + 3 ∨ c = s1.heap.objs.size ∨ c = s1.heap.objs.size + 1 := by simpa using hcm
        have hle : s1.heap.objs.size ≤ c ∧ c < s1.heap.objs.size + 5 := by
          rcases e' with z | z | z | z | z
          · rw [z]; exact ⟨Nat.le_add_right _ _, Nat.add_lt_add_left (by decide) _⟩
          · rw [z]; exact ⟨Nat.le_add_right _ _, Nat.add_lt_add_left (by decide) _⟩
          · rw [z]; exact ⟨Nat.le_add_right _ _, Nat.add_lt_add_left (by decide) _⟩
          · rw [z]; exact ⟨Nat.le_refl _, Nat.lt_add_of_pos_right (by decide)⟩
          · rw [z]; exact ⟨Nat.le_add_right _ _, Nat.add_lt_add_left (by decide) _⟩
        exact ⟨I1.fpOk hle.1 (I1.hok.fresh hle.1), hle.2⟩
      obtain ⟨its, rv, p1, hz1⟩ := I1.list hqx
      obtain ⟨its2, rv2, p2', _⟩ := I1.list hqy
      obtain ⟨o1, ho1, _⟩ := id p1.isList
      obtain ⟨o2, ho2, _⟩ := id p2'.isList
      refine call_zip_2 (show s1.heap.IsList a its.toArray from p1.isList) (show s1.heap.IsList b its2.toArray from p2'.isList) fun h' hz hTI hTO h1 h2 hsz hk => ?_
      have I2 : Inv X pins σ H1 { s1 with heap := h' } := I1.kept (t' := s1.toks) hk
      refine args_nil (call_list_zip (X := X) (I1.ok.hd hc) (PySem.W.ktu_apart s1.heap.objs.size a b (Heap.lt_size ho1) (Heap.lt_size ho2)) hlen h0 hz1 hqx hqy I2 (fun c hcm => ?_) ⟨hz, _, _, hTO⟩ hTI h1 h2 fun s' H' Ts I' km hS' hl ht => ?_)
      · obtain ⟨f0, f1⟩ := fresh5 c hcm
        exact ⟨f0, by show c < h'.objs.size; rw [hsz]; exact f1⟩
      · exact ⟨.ref h'.objs.size, H', I', rfl, q _ _ Ts (I2.hok.fresh (Nat.le_refl _)) km hS' hl ht⟩
end OZl
/-! == and != by an own __eq__ of the left one, with any answer; the right one an instance, a tuple or an int -/
namespace PySem.W
open PySem PySem.Calls PyProof.Rows
theorem one_plain : builtinKind "object.__ne__" = some .slot := by decide +kernel
theorem one_split : splitId "object.__ne__" = some ("object", "__ne__") := by decide +kernel
theorem one_args (a b : Value) : argsOk "object.__ne__" ⟨[a, b], []⟩ := by unfold argsOk; kernel_rfl
theorem one_slot : Slot "object" "__ne__" "object.__ne__" := Slot.of (T := "object") (name := "__ne__") (owner := "object") (n := "__ne__") (by rw [typeLookup_type, builtinLookup_eq_fast]; kernel_rfl) (by decide +kernel) (by decide +kernel) (by decide +kernel)
    (.inl (by decide +kernel)) (by rw [isSubtype_type]; kernel_rfl)
theorem one_entry : entryFor table "object.__ne__" = some Builtin.«object.__ne__» := F.cmpEntry_ne
section
variable {prog : Program} {w : World} {A : Around} {E : Value → Shared → Prop} {s : Shared} {K : Frag} {x C L f : Addr} {h₀ : Heap} {m : Str → Option Value} {ox : Obj} {od : Option Obj} {name : Str} {b tb : Value}
theorem ifBound_bi {M : Model} {id : String} {args : List Value} {Q : Option Value → Shared → Prop} (X : K.In s.heap) (I : InstAt s.heap x ox C od) (hs : findIn K (.ref C) name = some (some (.builtin id))) (hb : bindSpecial (.builtin id) (.ref x) = pure (.builtin id, [.ref x]))
    (h : wpAny M A (call (.builtin id) (.ref x :: args)) (fun v => Q (some v)) E s) : wpAny M A (callSpecialIfBound? (.ref x) name args) Q E s := by
  simp only [callSpecialIfBound?, bindSpecialIfBound?]
  refine wpAny_holding (wpAny_bind (wpAny_bind (wpAny_bind (I.type.here ((looks_findIn X hs).here ?_)))))
  simp only [hb]
  refine wpAny_bind (wpAny_askSetting (wpAny_ite ?_))
  have fin : wpAny M A (call (.builtin id) ([.ref x] ++ args) >>= fun v => pure (some v)) Q E s := wpAny_bind (wpAny_mono h (fun v s' h' => wpAny_pure h') fun _ _ h' => h')
  split
  · exact wpAny_bind (wpAny_pure (wpAny_pure fin))
  · exact wpAny_tryCatch (wpAny_bind (wpAny_pure (wpAny_pure fin)))
theorem ne_K {Q : Value → Shared → Prop} (hu : A.units + 1 < cLine) (F : Fr h₀ L s.heap m) (X₀ : K.In h₀) (I : InstAt s.heap x ox C od) (hb : Looks (model prog w) s.heap (typeOf b) tb) (hn : notFirst K C tb = true)
    (hne : findIn K (.ref C) "__ne__" = some (some (.builtin "object.__ne__"))) (hs : findIn K (.ref C) "__eq__" = some (some (.ref f))) (hf : isFn K (.ref f) = true) (hm : mroIn K C (.type "object") = some true)
    (h : wpAny (model prog w) A.in1 (call (.ref f) [.ref x, b]) (fun v s' => ∃ t, v = .bool t ∧ Q (.bool (!t)) s') E s) : wpAny (model prog w) A (richCompare .NotEq (.ref x) b) Q E s := by
  have X := X₀.keeps F.keep
  have one : wpAny (model prog w) A (tryCompare (.ref x) "__ne__" b) (fun r s' => ∃ v, r = some v ∧ Q v s') E s := by
    unfold tryCompare
    refine wpAny_bind (ifBound_bi X I hne (one_slot.bind (.ref x)) (wpAny_call ?_))
    have t2 : Looks (model prog w) s.heap (isInstance (.ref x) (.type "object")) true := I.type.andThen (looks_mroIn X hm)
    refine codeAny_call_builtin one_slot.plain one_entry (check_slot (i := "object.__ne__") (owner := "object") (n := "__ne__") one_plain one_split t2 (one_args _ _) ?_)
    unfold Builtin.«object.__ne__»
    refine wpAny_bind (wpAny_pure ?_)
    refine wpAny_bind (wpAny_cRoomFor hu ?_)
    refine wpAny_bind (ifBound_K X I hs hf (wpAny_mono h (fun v s' hv => ?_) fun _ _ e => e))
    obtain ⟨t, rfl, hq⟩ := hv
    refine wpAny_bind (wpAny_truthy_bool ?_)
    exact wpAny_pure (wpAny_pure ⟨_, rfl, hq⟩)
  unfold richCompare
  simp only [oneThing_ref]
  refine wpAny_holding (wpAny_bind (wpAny_cRoomFor (Nat.lt_of_succ_lt hu) ?_))
  rw [cmpInfo_NotEq]
  dsimp only
  refine wpAny_bind (I.type.here (wpAny_bind (hb.here ?_)))
  split
  · rename_i q
    have e : subIn K tb (.ref C) = some false := by
      rcases Bool.or_eq_true_iff.mp hn with e | e
      · rw [beq_iff_eq.mp e] at q; simp at q
      · exact beq_iff_eq.mp e
    refine wpAny_bind ((looks_subIn X e).here ?_)
    simp only [Bool.false_eq_true, if_false]
    refine wpAny_bind (wpAny_mono one (fun r s' z => ?_) fun _ _ e => e)
    obtain ⟨v, rfl, hq⟩ := z
    exact wpAny_pure hq
  · refine wpAny_bind (wpAny_pure ?_)
    simp only [Bool.false_eq_true, if_false]
    refine wpAny_bind (wpAny_mono one (fun r s' z => ?_) fun _ _ e => e)
    obtain ⟨v, rfl, hq⟩ := z
    exact wpAny_pure hq
theorem nf_tuple (K : Frag) (C : Addr) : notFirst K C (.type "tuple") = true := by
  unfold notFirst subIn
  kernel_rfl
theorem nf_int (K : Frag) (C : Addr) : notFirst K C (.type "int") = true := by
  unfold notFirst subIn
  kernel_rfl
end
end PySem.W
namespace L2
open PySem PySem.Spec PyProof.Rows
/-- what the right one is -/
def KindY (K : PySem.W.Frag) (C : Addr) (H : Hp) (y : V) (tb : Value) : Prop := (∃ b d fs, y = .ref b ∧ H b = some (.ins C d fs) ∧ tb = .ref C) ∨ (∃ b ws, y = .ref b ∧ SqT K H b ws ∧ tb = .type "tuple") ∨ ∃ n, y = .int n ∧ tb = .type "int"
section
variable {X : Cx} {CX : CXT} {pins : List (Addr × Obj)} {σ : L2.St} {H : Hp} {s : Shared}
theorem KindY.looks {C : Addr} {y : V} {tb u : Value} (I : Inv X pins σ H s) (h : KindY X.K C H y tb) (r : RelV y u) : PySem.W.Looks (model X.prog X.w) s.heap (typeOf u) tb := by
  rcases h with ⟨b, d, fs, rfl, hb, rfl⟩ | ⟨b, ws, rfl, hb, rfl⟩ | ⟨n, rfl, rfl⟩
  · obtain rfl : u = Value.ref b := r
    obtain ⟨_, J, _⟩ := ins_get I.hok hb
    obtain ⟨_, J, _⟩ := J.look
    exact J.type
  · obtain rfl : u = Value.ref b := r
    obtain ⟨its, _, ⟨o, ho, hc, _⟩, _⟩ := I.tuple hb
    rw [← hc]
    exact (PySem.W.Looks.ld (M := model X.prog X.w) (part := none) ho).andThen PySem.W.Looks.now
  · obtain ⟨t, rfl⟩ := (show ∃ t, u = Value.int n t from r)
    exact PySem.W.Looks.of_pure rfl

theorem KindY.first {y : V} {tb : Value} {C : Addr} (h : KindY X.K C H y tb) : PySem.W.notFirst X.K C tb = true := by
  rcases h with ⟨b, d, fs, rfl, hb, rfl⟩ | ⟨b, ws, rfl, hb, rfl⟩ | ⟨n, rfl, rfl⟩
  · unfold PySem.W.notFirst
    rw [beq_self_eq_true, Bool.true_or]
  · exact PySem.W.nf_tuple _ _
  · exact PySem.W.nf_int _ _
/-- x == y, x of the class at C -/
def rEqO (K : PySem.W.Frag) (C : Addr) (sp : Sp) (E : XK) : R2 := fun x y H Q => ∃ a dx fs tb, x = .ref a ∧ H a = some (.ins C dx fs) ∧ KindY K C H y tb ∧ sp [x, y] H Q E
theorem op_eqO {C f : Addr} {fd : FuncData} {ps : List Str} {sp : Sp} {n : Nat} {E : XK} (hs : PySem.W.findIn X.K (.ref C) "__eq__" = some (some (.ref f))) (hf : PySem.W.isFn X.K (.ref f) = true) (F : FnOk X.prog X.w X.K X.mg X.base CX n f fd ps sp) (hb : Binds X.K fd ps []) (hr : Room n X.A) (hx : Passes CX X E) : OpR X (compareOp .Eq) (rEqO X.K C sp E) := by
  intro pins s σ H x y v u Q I rx ry h
  obtain ⟨a, dx, fs, tb, rfl, ha, hk, hsp⟩ := h
  obtain rfl : v = Value.ref a := rx
  obtain ⟨mA, J, _⟩ := ins_get I.hok ha
  obtain ⟨od, J, _⟩ := J.look
  obtain ⟨m, hF⟩ := I.fr
  show wpAny (model X.prog X.w) X.A (richCompare .Eq (.ref a) u) (EP X pins σ Q) X.xe s
  refine PySem.W.cmp_K (op := .Eq) (tb := tb) hr.units0 hF I.ok.mod.kin J (hk.looks I ry) hk.first hs hf ?_
  have hl := F.len _ _ _ _ hsp
  have r2 : Vals [V.ref a, y] [Value.ref a, u] := .cons rfl (.cons ry .nil)
  refine wpAny_call (codeAny_mono (F.run X.A X.stack s H ⟨[.ref a, u], []⟩ [.ref a, u] [.ref a, y] _ E hr I.env0 (by
    have := hb s [.ref a, u] I.kIn (by simpa using hl)
    simpa using this) r2 hsp) fun r s' hq => ?_)
  cases r with
  | error e => exact hx pins σ H s e s' I hq
  | ok fl =>
    cases fl with
    | ret w =>
      obtain ⟨z, H', I', rz, q⟩ := I.after hq
      exact SlX.cmpback rz ⟨z, H', I', rz, q⟩
    | next => exact False.elim hq
    | brk => exact False.elim hq
    | cont => exact False.elim hq
/-- x != y, x of the class at C, which has no own __ne__ -/
def rNeO (K : PySem.W.Frag) (C : Addr) (sp : Sp) (E : XK) : R2 := fun x y H Q => ∃ a dx fs tb, x = .ref a ∧ H a = some (.ins C dx fs) ∧ KindY K C H y tb ∧ sp [x, y] H (fun v H' => ∃ t, v = .bl t ∧ Q (.bl (!t)) H') E
theorem op_neO {C f : Addr} {fd : FuncData} {ps : List Str} {sp : Sp} {n : Nat} {E : XK} (hne : PySem.W.findIn X.K (.ref C) "__ne__" = some (some (.builtin "object.__ne__"))) (hm : PySem.W.mroIn X.K C (.type "object") = some true) (hs : PySem.W.findIn X.K (.ref C) "__eq__" = some (some (.ref f))) (hf : PySem.W.isFn X.K (.ref f) = true)
    (F : FnOk X.prog X.w X.K X.mg X.base CX n f fd ps sp) (hb : Binds X.K fd ps []) (hr : Room (n + 1) X.A) (hx : Passes CX X E) : OpR X (compareOp .NotEq) (rNeO X.K C sp E) := by
  intro pins s σ H x y v u Q I rx ry h
  obtain ⟨a, dx, fs, tb, rfl, ha, hk, hsp⟩ := h
  obtain rfl : v = Value.ref a := rx
  obtain ⟨mA, J, _⟩ := ins_get I.hok ha
  obtain ⟨od, J, _⟩ := J.look
  obtain ⟨m, hF⟩ := I.fr
  have hr1 : Room n X.A.in1 := Room.in1 hr
  show wpAny (model X.prog X.w) X.A (richCompare .NotEq (.ref a) u) (EP X pins σ Q) X.xe s
  refine PySem.W.ne_K (tb := tb) (by have := hr1.units0; simpa using this) hF I.ok.mod.kin J (hk.looks I ry) hk.first hne hs hf hm ?_
  have hl := F.len _ _ _ _ hsp
  have r2 : Vals [V.ref a, y] [Value.ref a, u] := .cons rfl (.cons ry .nil)
  refine wpAny_call (codeAny_mono (F.run X.A.in1 X.stack s H ⟨[.ref a, u], []⟩ [.ref a, u] [.ref a, y] _ E hr1 I.env0.in1 (by
    have := hb s [.ref a, u] I.kIn (by simpa using hl)
    simpa using this) r2 hsp) fun r s' hq => ?_)
  cases r with
  | error e => exact hx pins σ H s e s' I hq
  | ok fl =>
    cases fl with
    | ret w =>
      obtain ⟨z, H', I', rz, t, ez, q⟩ := I.after hq
      subst ez
      cases rz
      exact ⟨t, rfl, .bl (!t), H', I', rfl, q⟩
    | next => exact False.elim hq
    | brk => exact False.elim hq
    | cont => exact False.elim hq
end
end L2
/-! in by an own __contains__; a method called with keywords -/
namespace L2
open PySem PySem.Spec PyProof.Rows
section
variable {X : Cx} {CX : CXT} {pins : List (Addr × Obj)} {σ : L2.St} {H : Hp} {s : Shared}
/-- x in y, y of the class at C -/
def rInO (C : Addr) (sp : Sp) (E : XK) : R2 := fun x y H Q => ∃ a dx fs, y = .ref a ∧ H a = some (.ins C dx fs) ∧ sp [y, x] H (fun v H' => ∃ t, v = .bl t ∧ Q (.bl t) H') E
theorem op_inO {C f : Addr} {fd : FuncData} {ps : List Str} {sp : Sp} {n : Nat} {E : XK} (hs : PySem.W.findIn X.K (.ref C) "__contains__" = some (some (.ref f))) (hf : PySem.W.isFn X.K (.ref f) = true) (F : FnOk X.prog X.w X.K X.mg X.base CX n f fd ps sp) (hb : Binds X.K fd ps []) (hr : Room n X.A) (hx : Passes CX X E) : OpR X (compareOp .In) (rInO C sp E) := by
  intro pins s σ H x y v u Q I rx ry h
  obtain ⟨a, dx, fs, rfl, ha, hsp⟩ := h
  obtain rfl : u = Value.ref a := ry
  obtain ⟨mA, J, _⟩ := ins_get I.hok ha
  obtain ⟨od, J, _⟩ := J.look
  obtain ⟨m, hF⟩ := I.fr
  refine PySem.W.in_K hF I.ok.mod.kin J hs hf ?_
  have hl := F.len _ _ _ _ hsp
  have r2 : Vals [V.ref a, x] [Value.ref a, v] := .cons rfl (.cons rx .nil)
  refine wpAny_call (codeAny_mono (F.run X.A X.stack s H ⟨[.ref a, v], []⟩ [.ref a, v] [.ref a, x] _ E hr I.env0 (by
    have := hb s [.ref a, v] I.kIn (by simpa using hl)
    simpa using this) r2 hsp) fun r s' hq => ?_)
  cases r with
  | error e => exact hx pins σ H s e s' I hq
  | ok fl =>
    cases fl with
    | ret w =>
      obtain ⟨z, H', I', rz, t, ez, q⟩ := I.after hq
      subst ez
      cases rz
      exact wpAny_truthy_bool ⟨.bl t, H', I', rfl, q⟩
    | next => exact False.elim hq
    | brk => exact False.elim hq
    | cont => exact False.elim hq
end
/-- o.m(k = v, ..) -/
def tMethK (C : Addr) (m : Str) (n : Nat) (sp : Sp) (gV : List V → List V → List V) (E : XK) (ta : TE) (tk : TA) : TE := fun σ H Q => ta σ H fun x H1 => ∃ a dx fs, x = .ref a ∧ H1 a = some (.ins C dx fs) ∧ fs.lookup m = none ∧ tk σ H1 fun zs H2 => zs.length = n ∧ sp (gV [x] zs) H2 Q E
section
variable {X : Cx} {CX : CXT} {k : Nat} {f C : Addr} {fd : FuncData} {ps ks : List Str} {sp : Sp} {E : XK} {m : Str} {pos apos : Pos} {o : Expr} {kws : List Keyword} {ta : TE} {tk : TA} {g : List Value → List Value → List Value} {gV : List V → List V → List V}
theorem run_fnN7 {pins : List (Addr × Obj)} {σ : St} {H : Hp} {s : Shared} {Q : VK} {n : Nat} {us ws : List Value} {vs zs : List V} (F : FnOk X.prog X.w X.K X.mg X.base CX k f fd ps sp) (hr : Room k X.A) (hb : KBn X.K fd ps n ks g gV) (hx : Passes CX X E)
    (I : Inv X pins σ H s) (r : Vals vs us) (rz : Vals zs ws) (l1 : vs.length = n) (l2 : zs.length = ks.length) (h : sp (gV vs zs) H Q E) : wpAny (model X.prog X.w) X.A (call (.ref f) us (ks.zip ws)) (EP X pins σ Q) X.xe s := by
  have r2 := hb.rel r rz
  refine wpAny_call (codeAny_mono (F.run X.A X.stack s H ⟨us, ks.zip ws⟩ (g us ws) (gV vs zs) Q E hr I.env0 (hb.to s us ws I.kIn (r.length.symm.trans l1) (rz.length.symm.trans l2)) r2 h) fun r s' hq => ?_)
  cases r with
  | error e => exact hx pins σ H s e s' I hq
  | ok fl =>
    cases fl with
    | ret w => exact I.after hq
    | next => exact False.elim hq
    | brk => exact False.elim hq
    | cont => exact False.elim hq
theorem pe_methK0 {pl : Sem Bool} (he : PE X o ta) (c : Cls X.K C) (hm : Meth X.K C m f) (F : FnOk X.prog X.w X.K X.mg X.base CX k f fd ps sp) (hr : Room k X.A) (hb : KBn X.K fd ps 1 ks g gV) (hx : Passes CX X E) (hkw : PK X kws tk)
    (hall : (backToKw pos (keywordEach kws X.env)).all (·.1.isSome) = true := by rfl) (hks : (backToKw pos (keywordEach kws X.env)).filterMap (·.1) = ks := by rfl)
    (hpl : ((backTo pos (starEach [] X.env)).any (·.1) || (backToKw pos (keywordEach kws X.env)).any (·.1.isNone)) = false := by rfl)
    (ht : eval (.Call (.Attribute o m apos) [] kws pos) X.env = (do
      let ov ← eval o X.env
      standAt apos.atName
      let (f, first) ← holding [ov] (getMethod ov m pl)
      callWith pos f first (backTo pos (starEach [] X.env)) (backToKw pos (keywordEach kws X.env))) := by rfl) :
    PE X (.Call (.Attribute o m apos) [] kws pos) (tMethK C m ks.length sp gV E ta tk) := by
  refine ⟨fun pins s σ H Q I h => ?_⟩
  refine PySem.W.methodCall_KW (pl := pl) (thn (he.run pins s σ H _ I h) fun u s1 ⟨x, H1, I1, rx, a, dx, fs, ex, ea, l, q⟩ => ?_) ht
  subst ex
  obtain rfl : u = Value.ref a := rx
  refine getmeth_ok I1 ea c hm l ?_
  refine PySem.W.callWith_KW0 (h₀ := X.base) (first := [.ref a]) I1.ok.mod.kin hm.kp hall ?_ hpl
  refine thn (hkw.run pos pins s1 σ H1 _ I1 q) fun ws s2 ⟨zs, H2, I2, rz, l2, q2⟩ => ⟨I2.kIn, ?_⟩
  rw [hks]
  exact run_fnN7 (n := 1) (us := [.ref a]) (vs := [.ref a]) F hr hb hx I2 (.cons rfl .nil) rz rfl l2 q2
end
end L2
namespace Odd
open PySem PySem.Spec PyProof.Rows L2
def topS (i : Nat) : Stmt := PySem.Challenge.pw_oddsquares_k10_whole_gaps_of_lots.main.body.getD i (.Pass ⟨0, 0, 0, 0⟩)
abbrev s_lowest : Stmt := topS 4
theorem sc_lowest : FnScope ["top", "under", "part"] ["top", "under"] (defScope s_lowest) := ⟨rfl, rfl, rfl, by decide +kernel, rfl, by decide +kernel, by decide +kernel⟩
abbrev s_pair_of : Stmt := topS 5
theorem sc_pair_of : FnScope ["value"] ["value"] (defScope s_pair_of) := ⟨rfl, rfl, rfl, by decide +kernel, rfl, by decide +kernel, by decide +kernel⟩
abbrev s_sum_of : Stmt := topS 6
theorem sc_sum_of : FnScope ["one", "other"] ["one", "other"] (defScope s_sum_of) := ⟨rfl, rfl, rfl, by decide +kernel, rfl, by decide +kernel, by decide +kernel⟩
abbrev s_difference : Stmt := topS 7
theorem sc_difference : FnScope ["one", "other"] ["one", "other"] (defScope s_difference) := ⟨rfl, rfl, rfl, by decide +kernel, rfl, by decide +kernel, by decide +kernel⟩
abbrev s_product_of : Stmt := topS 8
theorem sc_product_of : FnScope ["one", "other"] ["one", "other"] (defScope s_product_of) := ⟨rfl, rfl, rfl, by decide +kernel, rfl, by decide +kernel, by decide +kernel⟩
abbrev s_quotient : Stmt := topS 9
theorem sc_quotient : FnScope ["one", "other"] ["one", "other"] (defScope s_quotient) := ⟨rfl, rfl, rfl, by decide +kernel, rfl, by decide +kernel, by decide +kernel⟩
abbrev s_is_below : Stmt := topS 10
theorem sc_is_below : FnScope ["one", "other"] ["one", "other"] (defScope s_is_below) := ⟨rfl, rfl, rfl, by decide +kernel, rfl, by decide +kernel, by decide +kernel⟩
abbrev s_sign : Stmt := topS 11
theorem sc_sign : FnScope ["top"] ["top"] (defScope s_sign) := ⟨rfl, rfl, rfl, by decide +kernel, rfl, by decide +kernel, by decide +kernel⟩
abbrev s_is_integer : Stmt := topS 13
theorem sc_is_integer : FnScope ["value"] ["value"] (defScope s_is_integer) := ⟨rfl, rfl, rfl, by decide +kernel, rfl, by decide +kernel, by decide +kernel⟩
abbrev s_is_within : Stmt := topS 14
theorem sc_is_within : FnScope ["value", "least", "most"] ["value", "least", "most"] (defScope s_is_within) := ⟨rfl, rfl, rfl, by decide +kernel, rfl, by decide +kernel, by decide +kernel⟩
abbrev s_is_row : Stmt := topS 15
theorem sc_is_row : FnScope ["value"] ["value"] (defScope s_is_row) := ⟨rfl, rfl, rfl, by decide +kernel, rfl, by decide +kernel, by decide +kernel⟩
abbrev s_is_pair : Stmt := topS 16
theorem sc_is_pair : FnScope ["value"] ["value"] (defScope s_is_pair) := ⟨rfl, rfl, rfl, by decide +kernel, rfl, by decide +kernel, by decide +kernel⟩
abbrev s_is_number : Stmt := topS 17
theorem sc_is_number : FnScope ["value", "top", "under"] ["value"] (defScope s_is_number) := ⟨rfl, rfl, rfl, by decide +kernel, rfl, by decide +kernel, by decide +kernel⟩
abbrev s_is_point : Stmt := topS 18
theorem sc_is_point : FnScope ["value"] ["value"] (defScope s_is_point) := ⟨rfl, rfl, rfl, by decide +kernel, rfl, by decide +kernel, by decide +kernel⟩
abbrev s_are_points : Stmt := topS 19
theorem sc_are_points : FnScope ["value", "least", "most", "item"] ["value", "least", "most"] (defScope s_are_points) := ⟨rfl, rfl, rfl, by decide +kernel, rfl, by decide +kernel, by decide +kernel⟩
abbrev s_point_of : Stmt := topS 30
theorem sc_point_of : FnScope ["value"] ["value"] (defScope s_point_of) := ⟨rfl, rfl, rfl, by decide +kernel, rfl, by decide +kernel, by decide +kernel⟩
abbrev s_joined : Stmt := topS 31
theorem sc_joined : FnScope ["one", "other"] ["one", "other"] (defScope s_joined) := ⟨rfl, rfl, rfl, by decide +kernel, rfl, by decide +kernel, by decide +kernel⟩
abbrev s_way_between : Stmt := topS 32
theorem sc_way_between : FnScope ["start", "end"] ["start", "end"] (defScope s_way_between) := ⟨rfl, rfl, rfl, by decide +kernel, rfl, by decide +kernel, by decide +kernel⟩
abbrev s_stretched : Stmt := topS 33
theorem sc_stretched : FnScope ["way", "factor"] ["way", "factor"] (defScope s_stretched) := ⟨rfl, rfl, rfl, by decide +kernel, rfl, by decide +kernel, by decide +kernel⟩
abbrev s_cross_of : Stmt := topS 34
theorem sc_cross_of : FnScope ["one", "other"] ["one", "other"] (defScope s_cross_of) := ⟨rfl, rfl, rfl, by decide +kernel, rfl, by decide +kernel, by decide +kernel⟩
abbrev s_dot_of : Stmt := topS 35
theorem sc_dot_of : FnScope ["one", "other"] ["one", "other"] (defScope s_dot_of) := ⟨rfl, rfl, rfl, by decide +kernel, rfl, by decide +kernel, by decide +kernel⟩
abbrev s_moved : Stmt := topS 36
theorem sc_moved : FnScope ["start", "way", "share"] ["start", "way", "share"] (defScope s_moved) := ⟨rfl, rfl, rfl, by decide +kernel, rfl, by decide +kernel, by decide +kernel⟩
abbrev s_comes_before : Stmt := topS 37
theorem sc_comes_before : FnScope ["one", "other"] ["one", "other"] (defScope s_comes_before) := ⟨rfl, rfl, rfl, by decide +kernel, rfl, by decide +kernel, by decide +kernel⟩
abbrev s_fixed : Stmt := topS 41
theorem sc_fixed : FnScope ["value", "item"] ["value"] (defScope s_fixed) := ⟨rfl, rfl, rfl, by decide +kernel, rfl, by decide +kernel, by decide +kernel⟩
abbrev s__are_equal : Stmt := topS 42
theorem sc__are_equal : FnScope ["one", "other"] ["one", "other"] (defScope s__are_equal) := ⟨rfl, rfl, rfl, by decide +kernel, rfl, by decide +kernel, by decide +kernel⟩
abbrev s_sides_of : Stmt := topS 46
theorem sc_sides_of : FnScope ["corners"] ["corners"] (defScope s_sides_of) := ⟨rfl, rfl, rfl, by decide +kernel, rfl, by decide +kernel, by decide +kernel⟩
abbrev s__loose : Stmt := topS 47
theorem sc__loose : FnScope ["one", "other"] ["one", "other"] (defScope s__loose) := ⟨rfl, rfl, rfl, by decide +kernel, rfl, by decide +kernel, by decide +kernel⟩
abbrev s_bend : Stmt := topS 48
theorem sc_bend : FnScope ["start", "middle", "end", "across", "across_under", "rise", "rise_under", "along", "along_under", "up", "up_under"] ["start", "middle", "end"] (defScope s_bend) := ⟨rfl, rfl, rfl, by decide +kernel, rfl, by decide +kernel, by decide +kernel⟩
abbrev s_ordered_segments : Stmt := topS 49
theorem sc_ordered_segments : FnScope ["side"] ["side"] (defScope s_ordered_segments) := ⟨rfl, rfl, rfl, by decide +kernel, rfl, by decide +kernel, by decide +kernel⟩
abbrev s__shared_stretch : Stmt := topS 52
theorem sc__shared_stretch : FnScope ["one", "other", "low", "high", "first", "last"] ["one", "other"] (defScope s__shared_stretch) := ⟨rfl, rfl, rfl, by decide +kernel, rfl, by decide +kernel, by decide +kernel⟩
abbrev s_common_point : Stmt := topS 53
theorem sc_common_point : FnScope ["one", "other", "start", "end", "way", "other_way", "over"] ["one", "other"] (defScope s_common_point) := ⟨rfl, rfl, rfl, by decide +kernel, rfl, by decide +kernel, by decide +kernel⟩
abbrev s__corners_in : Stmt := topS 63
theorem sc__corners_in : FnScope ["corners", "corner"] ["corners"] (defScope s__corners_in) := ⟨rfl, rfl, rfl, by decide +kernel, rfl, by decide +kernel, by decide +kernel⟩
abbrev s__goes_back : Stmt := topS 64
theorem sc__goes_back : FnScope ["coming", "leaving", "way", "other"] ["coming", "leaving"] (defScope s__goes_back) := ⟨rfl, rfl, rfl, by decide +kernel, rfl, by decide +kernel, by decide +kernel⟩
abbrev s_are_next : Stmt := topS 65
theorem sc_are_next : FnScope ["one", "other", "many"] ["one", "other", "many"] (defScope s_are_next) := ⟨rfl, rfl, rfl, by decide +kernel, rfl, by decide +kernel, by decide +kernel⟩
abbrev s__meeting : Stmt := topS 66
theorem sc__meeting : FnScope ["sides", "many", "one", "other", "point"] ["sides"] (defScope s__meeting) := ⟨rfl, rfl, rfl, by decide +kernel, rfl, by decide +kernel, by decide +kernel⟩
abbrev s__doubled_area : Stmt := topS 67
theorem sc__doubled_area : FnScope ["corners", "total", "start", "end"] ["corners"] (defScope s__doubled_area) := ⟨rfl, rfl, rfl, by decide +kernel, rfl, by decide +kernel, by decide +kernel⟩
abbrev s__judged : Stmt := topS 68
theorem sc__judged : FnScope ["corners", "sides", "number", "side", "meeting"] ["corners"] (defScope s__judged) := ⟨rfl, rfl, rfl, by decide +kernel, rfl, by decide +kernel, by decide +kernel⟩
abbrev s__bends_of : Stmt := topS 69
theorem sc__bends_of : FnScope ["corners", "number", "start", "end"] ["corners"] (defScope s__bends_of) := ⟨rfl, rfl, rfl, by decide +kernel, rfl, by decide +kernel, by decide +kernel⟩
abbrev s__fences_in : Stmt := topS 76
theorem sc__fences_in : FnScope ["fences", "fence"] ["fences"] (defScope s__fences_in) := ⟨rfl, rfl, rfl, by decide +kernel, rfl, by decide +kernel, by decide +kernel⟩
abbrev s__numbered_sides : Stmt := topS 77
theorem sc__numbered_sides : FnScope ["fences", "number", "fence", "side"] ["fences"] (defScope s__numbered_sides) := ⟨rfl, rfl, rfl, by decide +kernel, rfl, by decide +kernel, by decide +kernel⟩
abbrev s_judged_fences : Stmt := topS 78
theorem sc_judged_fences : FnScope ["fences", "told", "numbered", "one", "side", "other", "point"] ["fences"] (defScope s_judged_fences) := ⟨rfl, rfl, rfl, by decide +kernel, rfl, by decide +kernel, by decide +kernel⟩
abbrev s_is_side : Stmt := topS 80
theorem sc_is_side : FnScope ["lot", "at"] ["lot", "at"] (defScope s_is_side) := ⟨rfl, rfl, rfl, by decide +kernel, rfl, by decide +kernel, by decide +kernel⟩
abbrev s_are_neighbours : Stmt := topS 81
theorem sc_are_neighbours : FnScope ["lot", "one", "other"] ["lot", "one", "other"] (defScope s_are_neighbours) := ⟨rfl, rfl, rfl, by decide +kernel, rfl, by decide +kernel, by decide +kernel⟩
abbrev s_check_lot : Stmt := topS 83
theorem sc_check_lot : FnScope ["lot"] ["lot"] (defScope s_check_lot) := ⟨rfl, rfl, rfl, by decide +kernel, rfl, by decide +kernel, by decide +kernel⟩
abbrev s__squared : Stmt := topS 86
theorem sc__squared : FnScope ["way"] ["way"] (defScope s__squared) := ⟨rfl, rfl, rfl, by decide +kernel, rfl, by decide +kernel, by decide +kernel⟩
abbrev s__nearest : Stmt := topS 87
theorem sc__nearest : FnScope ["point", "side", "way", "told", "along", "whole", "apart"] ["point", "side"] (defScope s__nearest) := ⟨rfl, rfl, rfl, by decide +kernel, rfl, by decide +kernel, by decide +kernel⟩
abbrev s__side_of_corner : Stmt := topS 88
theorem sc__side_of_corner : FnScope ["lot", "fence", "corner", "at", "side"] ["lot", "fence", "corner", "at"] (defScope s__side_of_corner) := ⟨rfl, rfl, rfl, by decide +kernel, rfl, by decide +kernel, by decide +kernel⟩
abbrev s_ordered_gaps : Stmt := topS 89
theorem sc_ordered_gaps : FnScope ["found", "square", "one", "here", "other", "there"] ["found"] (defScope s_ordered_gaps) := ⟨rfl, rfl, rfl, by decide +kernel, rfl, by decide +kernel, by decide +kernel⟩
abbrev s_gap : Stmt := topS 91
theorem sc_gap : FnScope ["lot", "found", "at", "side", "fence", "corner", "one", "here", "square", "there"] ["lot"] (defScope s_gap) := ⟨rfl, rfl, rfl, by decide +kernel, rfl, by decide +kernel, by decide +kernel⟩
abbrev s__law_ditch : Stmt := topS 93
theorem sc__law_ditch : FnScope ["script", "cell"] ["script"] (defScope s__law_ditch) := ⟨rfl, rfl, rfl, by decide +kernel, rfl, by decide +kernel, by decide +kernel⟩
abbrev s__law_dig : Stmt := topS 94
theorem sc__law_dig : FnScope ["ditch", "many", "rest", "at", "cell", "mixed"] ["ditch", "many"] (defScope s__law_dig) := ⟨rfl, rfl, rfl, by decide +kernel, rfl, by decide +kernel, by decide +kernel⟩
abbrev s__law_pick : Stmt := topS 95
theorem sc__law_pick : FnScope ["ditch", "some"] ["ditch", "some"] (defScope s__law_pick) := ⟨rfl, rfl, rfl, by decide +kernel, rfl, by decide +kernel, by decide +kernel⟩
abbrev s__law_turn : Stmt := topS 96
theorem sc__law_turn : FnScope ["a", "b", "c"] ["a", "b", "c"] (defScope s__law_turn) := ⟨rfl, rfl, rfl, by decide +kernel, rfl, by decide +kernel, by decide +kernel⟩
abbrev s__law_on : Stmt := topS 97
theorem sc__law_on : FnScope ["a", "b", "c"] ["a", "b", "c"] (defScope s__law_on) := ⟨rfl, rfl, rfl, by decide +kernel, rfl, by decide +kernel, by decide +kernel⟩
abbrev s__law_ring : Stmt := topS 98
theorem sc__law_ring : FnScope ["points"] ["points"] (defScope s__law_ring) := ⟨rfl, rfl, rfl, by decide +kernel, rfl, by decide +kernel, by decide +kernel⟩
abbrev s__law_low : Stmt := topS 99
theorem sc__law_low : FnScope ["top", "under", "one", "other"] ["top", "under"] (defScope s__law_low) := ⟨rfl, rfl, rfl, by decide +kernel, rfl, by decide +kernel, by decide +kernel⟩
abbrev s__law_star : Stmt := topS 100
theorem sc__law_star : FnScope ["ditch", "many", "size", "x", "y", "rays", "chosen", "turn", "at", "step", "found", "length"] ["ditch", "many", "size"] (defScope s__law_star) := ⟨rfl, rfl, rfl, by decide +kernel, rfl, by decide +kernel, by decide +kernel⟩
abbrev s__law_strip : Stmt := topS 101
theorem sc__law_strip : FnScope ["ditch", "many", "low", "high", "place", "turn", "height"] ["ditch", "many"] (defScope s__law_strip) := ⟨rfl, rfl, rfl, by decide +kernel, rfl, by decide +kernel, by decide +kernel⟩
abbrev s__law_lot : Stmt := topS 102
theorem sc__law_lot : FnScope ["ditch", "x", "y", "way", "found", "far", "at", "first", "wide", "high", "low", "left", "rows", "second"] ["ditch"] (defScope s__law_lot) := ⟨rfl, rfl, rfl, by decide +kernel, rfl, by decide +kernel, by decide +kernel⟩
abbrev s__law_foot : Stmt := topS 103
theorem sc__law_foot : FnScope ["point", "side", "a", "b", "length", "along", "end"] ["point", "side"] (defScope s__law_foot) := ⟨rfl, rfl, rfl, by decide +kernel, rfl, by decide +kernel, by decide +kernel⟩
abbrev s__law_between : Stmt := topS 104
theorem sc__law_between : FnScope ["one", "other", "point", "some", "best", "each"] ["one", "other"] (defScope s__law_between) := ⟨rfl, rfl, rfl, by decide +kernel, rfl, by decide +kernel, by decide +kernel⟩
abbrev s__law_pairs : Stmt := topS 105
theorem sc__law_pairs : FnScope ["rows", "at", "some", "fence", "found", "one", "first", "other", "second", "step"] ["rows"] (defScope s__law_pairs) := ⟨rfl, rfl, rfl, by decide +kernel, rfl, by decide +kernel, by decide +kernel⟩
abbrev s__law_lies : Stmt := topS 106
theorem sc__law_lies : FnScope ["point", "side", "under", "at", "x", "z", "y", "w", "a", "b"] ["point", "side", "under"] (defScope s__law_lies) := ⟨rfl, rfl, rfl, by decide +kernel, rfl, by decide +kernel, by decide +kernel⟩
abbrev s__law_apart : Stmt := topS 107
theorem sc__law_apart : FnScope ["one", "other", "x", "z", "y", "w", "p", "r", "q", "s", "wide", "high"] ["one", "other"] (defScope s__law_apart) := ⟨rfl, rfl, rfl, by decide +kernel, rfl, by decide +kernel, by decide +kernel⟩
abbrev s_law : Stmt := topS 108
theorem sc_law : FnScope ["script", "x", "y", "row", "ditch", "turn", "rows", "under", "lean", "by", "lot", "told", "again", "pairs", "best", "one", "first", "other", "second", "each", "due", "fits", "at", "tent"] ["script"] (defScope s_law) := ⟨rfl, rfl, rfl, by decide +kernel, rfl, by decide +kernel, by decide +kernel⟩
def bendS (k : Int) : Str := if k = 1 then "left" else if k = 0 then "straight" else "right"
structure DefOkN (K : PySem.W.Frag) (mg : Str → Option Value) (x y : Str) (st : Stmt) (f : Addr) (fd : FuncData) (ps : List Str) : Prop where
  g : mg x = some (.ref f)
  F : Fun K y y st f fd
  b : Binds K fd ps []
abbrev s_Paper_init : Stmt := inClass (topS 43) 0
theorem sc_Paper_init : FnScope ["self", "word", "parts"] ["self", "word", "parts"] (defScope s_Paper_init) := ⟨rfl, rfl, rfl, by decide +kernel, rfl, by decide +kernel, by decide +kernel⟩
abbrev s_Paper_bool : Stmt := inClass (topS 43) 1
theorem sc_Paper_bool : FnScope ["self"] ["self"] (defScope s_Paper_bool) := ⟨rfl, rfl, rfl, by decide +kernel, rfl, by decide +kernel, by decide +kernel⟩
abbrev s_Paper_eq : Stmt := inClass (topS 43) 2
theorem sc_Paper_eq : FnScope ["self", "other"] ["self", "other"] (defScope s_Paper_eq) := ⟨rfl, rfl, rfl, by decide +kernel, rfl, by decide +kernel, by decide +kernel⟩
abbrev s_Fence_init : Stmt := inClass (topS 70) 0
theorem sc_Fence_init : FnScope ["self", "corners", "points", "why"] ["self", "corners"] (defScope s_Fence_init) := ⟨rfl, rfl, rfl, by decide +kernel, rfl, by decide +kernel, by decide +kernel⟩
abbrev s_Fence_len : Stmt := inClass (topS 70) 3
theorem sc_Fence_len : FnScope ["self"] ["self"] (defScope s_Fence_len) := ⟨rfl, rfl, rfl, by decide +kernel, rfl, by decide +kernel, by decide +kernel⟩
abbrev s_Lot_init : Stmt := inClass (topS 79) 0
theorem sc_Lot_init : FnScope ["self", "fences", "why"] ["self", "fences"] (defScope s_Lot_init) := ⟨rfl, rfl, rfl, by decide +kernel, rfl, by decide +kernel, by decide +kernel⟩
abbrev s_Lot_side : Stmt := inClass (topS 79) 1
theorem sc_Lot_side : FnScope ["self", "at"] ["self", "at"] (defScope s_Lot_side) := ⟨rfl, rfl, rfl, by decide +kernel, rfl, by decide +kernel, by decide +kernel⟩
abbrev s_Closed_init : Stmt := inClass (topS 59) 0
theorem sc_Closed_init : NdefX.NScope ["self", "is_left", "__class__"] ["self", "is_left"] ["__class__"] (defScope s_Closed_init) := NdefX.nscope_by (by decide +kernel)
abbrev s_Apart_init : Stmt := inClass (topS 74) 0
theorem sc_Apart_init : NdefX.NScope ["self", "__class__"] ["self"] ["__class__"] (defScope s_Apart_init) := NdefX.nscope_by (by decide +kernel)
abbrev s_Gap_init : Stmt := inClass (topS 85) 0
theorem sc_Gap_init : NdefX.NScope ["self", "squared", "one", "other", "here", "there", "__class__"] ["self", "squared", "one", "other", "here", "there"] ["__class__"] (defScope s_Gap_init) := NdefX.nscope_by (by decide +kernel)
structure Ads where
  (f_lowest : Addr) (d_lowest : FuncData)
  (f_pair_of : Addr) (d_pair_of : FuncData)
  (f_sum_of : Addr) (d_sum_of : FuncData)
  (f_difference : Addr) (d_difference : FuncData)
  (f_product_of : Addr) (d_product_of : FuncData)
  (f_quotient : Addr) (d_quotient : FuncData)
  (f_is_below : Addr) (d_is_below : FuncData)
  (f_sign : Addr) (d_sign : FuncData)
  (f_is_integer : Addr) (d_is_integer : FuncData)
  (f_is_within : Addr) (d_is_within : FuncData)
  (f_is_row : Addr) (d_is_row : FuncData)
  (f_is_pair : Addr) (d_is_pair : FuncData)
  (f_is_number : Addr) (d_is_number : FuncData)
  (f_is_point : Addr) (d_is_point : FuncData)
  (f_are_points : Addr) (d_are_points : FuncData)
  (f_point_of : Addr) (d_point_of : FuncData)
  (f_joined : Addr) (d_joined : FuncData)
  (f_way_between : Addr) (d_way_between : FuncData)
  (f_stretched : Addr) (d_stretched : FuncData)
  (f_cross_of : Addr) (d_cross_of : FuncData)
  (f_dot_of : Addr) (d_dot_of : FuncData)
  (f_moved : Addr) (d_moved : FuncData)
  (f_comes_before : Addr) (d_comes_before : FuncData)
  (f_fixed : Addr) (d_fixed : FuncData)
  (f__are_equal : Addr) (d__are_equal : FuncData)
  (f_sides_of : Addr) (d_sides_of : FuncData)
  (f__loose : Addr) (d__loose : FuncData)
  (f_bend : Addr) (d_bend : FuncData)
  (f_ordered_segments : Addr) (d_ordered_segments : FuncData)
  (f__shared_stretch : Addr) (d__shared_stretch : FuncData)
  (f_common_point : Addr) (d_common_point : FuncData)
  (f__corners_in : Addr) (d__corners_in : FuncData)
  (f__goes_back : Addr) (d__goes_back : FuncData)
  (f_are_next : Addr) (d_are_next : FuncData)
  (f__meeting : Addr) (d__meeting : FuncData)
  (f__doubled_area : Addr) (d__doubled_area : FuncData)
  (f__judged : Addr) (d__judged : FuncData)
  (f__bends_of : Addr) (d__bends_of : FuncData)
  (f__fences_in : Addr) (d__fences_in : FuncData)
  (f__numbered_sides : Addr) (d__numbered_sides : FuncData)
  (f_judged_fences : Addr) (d_judged_fences : FuncData)
  (f_is_side : Addr) (d_is_side : FuncData)
  (f_are_neighbours : Addr) (d_are_neighbours : FuncData)
  (f_check_lot : Addr) (d_check_lot : FuncData)
  (f__squared : Addr) (d__squared : FuncData)
  (f__nearest : Addr) (d__nearest : FuncData)
  (f__side_of_corner : Addr) (d__side_of_corner : FuncData)
  (f_ordered_gaps : Addr) (d_ordered_gaps : FuncData)
  (f_gap : Addr) (d_gap : FuncData)
  (f__law_ditch : Addr) (d__law_ditch : FuncData)
  (f__law_dig : Addr) (d__law_dig : FuncData)
  (f__law_pick : Addr) (d__law_pick : FuncData)
  (f__law_turn : Addr) (d__law_turn : FuncData)
  (f__law_on : Addr) (d__law_on : FuncData)
  (f__law_ring : Addr) (d__law_ring : FuncData)
  (f__law_low : Addr) (d__law_low : FuncData)
  (f__law_star : Addr) (d__law_star : FuncData)
  (f__law_strip : Addr) (d__law_strip : FuncData)
  (f__law_lot : Addr) (d__law_lot : FuncData)
  (f__law_foot : Addr) (d__law_foot : FuncData)
  (f__law_between : Addr) (d__law_between : FuncData)
  (f__law_pairs : Addr) (d__law_pairs : FuncData)
  (f__law_lies : Addr) (d__law_lies : FuncData)
  (f__law_apart : Addr) (d__law_apart : FuncData)
  (f_law : Addr) (d_law : FuncData)
  (a_ZERO a_BENDS : Addr)
  (C_Paper C_Closed C_Fence C_Apart C_Lot C_Gap : Addr)
  (f_Paper_init : Addr) (d_Paper_init : FuncData)
  (f_Paper_bool : Addr) (d_Paper_bool : FuncData)
  (f_Paper_eq : Addr) (d_Paper_eq : FuncData)
  (f_Fence_init : Addr) (d_Fence_init : FuncData)
  (f_Fence_len : Addr) (d_Fence_len : FuncData)
  (f_Lot_init : Addr) (d_Lot_init : FuncData)
  (f_Lot_side : Addr) (d_Lot_side : FuncData)
  (f_Closed_init : Addr) (d_Closed_init : FuncData)
  (f_Apart_init : Addr) (d_Apart_init : FuncData)
  (f_Gap_init : Addr) (d_Gap_init : FuncData)
  (cda_Closed cc_Closed cda_Apart cc_Apart cda_Gap cc_Gap : Addr)
structure DefOk (K : PySem.W.Frag) (mg : Str → Option Value) (x : Str) (st : Stmt) (f : Addr) (fd : FuncData) (ps : List Str) : Prop where
  g : mg x = some (.ref f)
  F : Fun K x x st f fd
  b : Binds K fd ps []
structure Txt (K : PySem.W.Frag) (mg : Str → Option Value) (A : Ads) : Prop where
  lowest : DefOk K mg "lowest" s_lowest A.f_lowest A.d_lowest ["top", "under"]
  pair_of : DefOk K mg "pair_of" s_pair_of A.f_pair_of A.d_pair_of ["value"]
  sum_of : DefOk K mg "sum_of" s_sum_of A.f_sum_of A.d_sum_of ["one", "other"]
  difference : DefOk K mg "difference" s_difference A.f_difference A.d_difference ["one", "other"]
  product_of : DefOk K mg "product_of" s_product_of A.f_product_of A.d_product_of ["one", "other"]
  quotient : DefOk K mg "quotient" s_quotient A.f_quotient A.d_quotient ["one", "other"]
  is_below : DefOk K mg "is_below" s_is_below A.f_is_below A.d_is_below ["one", "other"]
  sign : DefOk K mg "sign" s_sign A.f_sign A.d_sign ["top"]
  is_integer : DefOk K mg "is_integer" s_is_integer A.f_is_integer A.d_is_integer ["value"]
  is_within : DefOk K mg "is_within" s_is_within A.f_is_within A.d_is_within ["value", "least", "most"]
  is_row : DefOk K mg "is_row" s_is_row A.f_is_row A.d_is_row ["value"]
  is_pair : DefOk K mg "is_pair" s_is_pair A.f_is_pair A.d_is_pair ["value"]
  is_number : DefOk K mg "is_number" s_is_number A.f_is_number A.d_is_number ["value"]
  is_point : DefOk K mg "is_point" s_is_point A.f_is_point A.d_is_point ["value"]
  are_points : DefOk K mg "are_points" s_are_points A.f_are_points A.d_are_points ["value", "least", "most"]
  point_of : DefOk K mg "point_of" s_point_of A.f_point_of A.d_point_of ["value"]
  joined : DefOk K mg "joined" s_joined A.f_joined A.d_joined ["one", "other"]
  way_between : DefOk K mg "way_between" s_way_between A.f_way_between A.d_way_between ["start", "end"]
  stretched : DefOk K mg "stretched" s_stretched A.f_stretched A.d_stretched ["way", "factor"]
  cross_of : DefOk K mg "cross_of" s_cross_of A.f_cross_of A.d_cross_of ["one", "other"]
  dot_of : DefOk K mg "dot_of" s_dot_of A.f_dot_of A.d_dot_of ["one", "other"]
  moved : DefOk K mg "moved" s_moved A.f_moved A.d_moved ["start", "way", "share"]
  comes_before : DefOk K mg "comes_before" s_comes_before A.f_comes_before A.d_comes_before ["one", "other"]
  fixed : DefOk K mg "fixed" s_fixed A.f_fixed A.d_fixed ["value"]
  _are_equal : DefOk K mg "_are_equal" s__are_equal A.f__are_equal A.d__are_equal ["one", "other"]
  sides_of : DefOk K mg "sides_of" s_sides_of A.f_sides_of A.d_sides_of ["corners"]
  _loose : DefOk K mg "_loose" s__loose A.f__loose A.d__loose ["one", "other"]
  bend : DefOk K mg "bend" s_bend A.f_bend A.d_bend ["start", "middle", "end"]
  _shared_stretch : DefOk K mg "_shared_stretch" s__shared_stretch A.f__shared_stretch A.d__shared_stretch ["one", "other"]
  common_point : DefOk K mg "common_point" s_common_point A.f_common_point A.d_common_point ["one", "other"]
  _corners_in : DefOk K mg "_corners_in" s__corners_in A.f__corners_in A.d__corners_in ["corners"]
  _goes_back : DefOk K mg "_goes_back" s__goes_back A.f__goes_back A.d__goes_back ["coming", "leaving"]
  are_next : DefOk K mg "are_next" s_are_next A.f_are_next A.d_are_next ["one", "other", "many"]
  _meeting : DefOk K mg "_meeting" s__meeting A.f__meeting A.d__meeting ["sides"]
  _doubled_area : DefOk K mg "_doubled_area" s__doubled_area A.f__doubled_area A.d__doubled_area ["corners"]
  _judged : DefOk K mg "_judged" s__judged A.f__judged A.d__judged ["corners"]
  _bends_of : DefOk K mg "_bends_of" s__bends_of A.f__bends_of A.d__bends_of ["corners"]
  _fences_in : DefOk K mg "_fences_in" s__fences_in A.f__fences_in A.d__fences_in ["fences"]
  _numbered_sides : DefOk K mg "_numbered_sides" s__numbered_sides A.f__numbered_sides A.d__numbered_sides ["fences"]
  judged_fences : DefOk K mg "judged_fences" s_judged_fences A.f_judged_fences A.d_judged_fences ["fences"]
  is_side : DefOk K mg "is_side" s_is_side A.f_is_side A.d_is_side ["lot", "at"]
  are_neighbours : DefOk K mg "are_neighbours" s_are_neighbours A.f_are_neighbours A.d_are_neighbours ["lot", "one", "other"]
  check_lot : DefOk K mg "check_lot" s_check_lot A.f_check_lot A.d_check_lot ["lot"]
  _squared : DefOk K mg "_squared" s__squared A.f__squared A.d__squared ["way"]
  _nearest : DefOk K mg "_nearest" s__nearest A.f__nearest A.d__nearest ["point", "side"]
  _side_of_corner : DefOk K mg "_side_of_corner" s__side_of_corner A.f__side_of_corner A.d__side_of_corner ["lot", "fence", "corner", "at"]
  gap : DefOk K mg "gap" s_gap A.f_gap A.d_gap ["lot"]
  _law_ditch : DefOk K mg "_law_ditch" s__law_ditch A.f__law_ditch A.d__law_ditch ["script"]
  _law_dig : DefOk K mg "_law_dig" s__law_dig A.f__law_dig A.d__law_dig ["ditch", "many"]
  _law_pick : DefOk K mg "_law_pick" s__law_pick A.f__law_pick A.d__law_pick ["ditch", "some"]
  _law_turn : DefOk K mg "_law_turn" s__law_turn A.f__law_turn A.d__law_turn ["a", "b", "c"]
  _law_on : DefOk K mg "_law_on" s__law_on A.f__law_on A.d__law_on ["a", "b", "c"]
  _law_ring : DefOk K mg "_law_ring" s__law_ring A.f__law_ring A.d__law_ring ["points"]
  _law_low : DefOk K mg "_law_low" s__law_low A.f__law_low A.d__law_low ["top", "under"]
  _law_star : DefOk K mg "_law_star" s__law_star A.f__law_star A.d__law_star ["ditch", "many", "size"]
  _law_strip : DefOk K mg "_law_strip" s__law_strip A.f__law_strip A.d__law_strip ["ditch", "many"]
  _law_lot : DefOk K mg "_law_lot" s__law_lot A.f__law_lot A.d__law_lot ["ditch"]
  _law_foot : DefOk K mg "_law_foot" s__law_foot A.f__law_foot A.d__law_foot ["point", "side"]
  _law_between : DefOk K mg "_law_between" s__law_between A.f__law_between A.d__law_between ["one", "other"]
  _law_pairs : DefOk K mg "_law_pairs" s__law_pairs A.f__law_pairs A.d__law_pairs ["rows"]
  _law_lies : DefOk K mg "_law_lies" s__law_lies A.f__law_lies A.d__law_lies ["point", "side", "under"]
  _law_apart : DefOk K mg "_law_apart" s__law_apart A.f__law_apart A.d__law_apart ["one", "other"]
  law : DefOk K mg "law" s_law A.f_law A.d_law ["script"]
  ordered_segments : DefOkN K mg "ordered_segments" "_ordered" s_ordered_segments A.f_ordered_segments A.d_ordered_segments ["side"]
  ordered_gaps : DefOkN K mg "ordered_gaps" "_ordered" s_ordered_gaps A.f_ordered_gaps A.d_ordered_gaps ["found"]
  n_len : mg "len" = none
  n_abs : mg "abs" = none
  n_isinstance : mg "isinstance" = none
  n_int : mg "int" = none
  n_bool : mg "bool" = none
  n_list : mg "list" = none
  n_tuple : mg "tuple" = none
  n_range : mg "range" = none
  n_all : mg "all" = none
  n_zip : mg "zip" = none
  n_enumerate : mg "enumerate" = none
  n_super : mg "super" = none
  n_type : mg "type" = none
  n_sum : mg "sum" = none
  n_sorted : mg "sorted" = none
  n_repr : mg "repr" = none
  n_min : mg "min" = none
  n_max : mg "max" = none
  g_gcd : mg "gcd" = some (.builtin "math.gcd")
  g_ZERO : mg "ZERO" = some (.ref A.a_ZERO)
  v_ZERO : ∀ H, SqT K H A.a_ZERO [.int 0, .int 1]
  g_BENDS : mg "BENDS" = some (.ref A.a_BENDS)
  v_BENDS : ∀ k : Int, (k = -1 ∨ k = 0 ∨ k = 1) → OZ.KInt K A.a_BENDS k (.str (bendS k))
  g_FEWEST_CORNERS : ∃ t, mg "FEWEST_CORNERS" = some (.int 3 t)
  g_MOST_CORNERS : ∃ t, mg "MOST_CORNERS" = some (.int 40 t)
  g_MOST_FENCES : ∃ t, mg "MOST_FENCES" = some (.int 6 t)
  g_MOST_SIDES : ∃ t, mg "MOST_SIDES" = some (.int 60 t)
  Paper_bool : MDef K "__bool__" "Paper.__bool__" s_Paper_bool A.f_Paper_bool A.d_Paper_bool ["self"]
  Paper_eq : MDef K "__eq__" "Paper.__eq__" s_Paper_eq A.f_Paper_eq A.d_Paper_eq ["self", "other"]
  Fence_init : MDef K "__init__" "Fence.__init__" s_Fence_init A.f_Fence_init A.d_Fence_init ["self", "corners"]
  Fence_len : MDef K "__len__" "Fence.__len__" s_Fence_len A.f_Fence_len A.d_Fence_len ["self"]
  Lot_init : MDef K "__init__" "Lot.__init__" s_Lot_init A.f_Lot_init A.d_Lot_init ["self", "fences"]
  Lot_side : MDef K "side" "Lot.side" s_Lot_side A.f_Lot_side A.d_Lot_side ["self", "at"]
  Paper_init : Fun K "__init__" "Paper.__init__" s_Paper_init A.f_Paper_init A.d_Paper_init
  sup_Closed : SupF K "Closed.__init__" s_Closed_init A.C_Closed A.f_Closed_init A.cda_Closed A.cc_Closed A.f_Paper_init A.d_Closed_init
  sup_Apart : SupF K "Apart.__init__" s_Apart_init A.C_Apart A.f_Apart_init A.cda_Apart A.cc_Apart A.f_Paper_init A.d_Apart_init
  sup_Gap : SupF K "Gap.__init__" s_Gap_init A.C_Gap A.f_Gap_init A.cda_Gap A.cc_Gap A.f_Paper_init A.d_Gap_init
  b_Closed : Binds K A.d_Closed_init ["self", "is_left"] []
  b_Apart : Binds K A.d_Apart_init ["self"] []
  b_Gap : Binds K A.d_Gap_init ["self", "squared", "one", "other", "here", "there"] []
  cl_Closed : Cls K A.C_Closed
  cl_Fence : Cls K A.C_Fence
  cl_Apart : Cls K A.C_Apart
  cl_Lot : Cls K A.C_Lot
  cl_Gap : Cls K A.C_Gap
  no_Closed_word : NoAttr K A.C_Closed "word"
  no_Closed_parts : NoAttr K A.C_Closed "parts"
  no_Closed_is_left : NoAttr K A.C_Closed "is_left"
  no_Apart_word : NoAttr K A.C_Apart "word"
  no_Apart_parts : NoAttr K A.C_Apart "parts"
  no_Fence_corners : NoAttr K A.C_Fence "corners"
  no_Fence_sides : NoAttr K A.C_Fence "sides"
  no_Fence_area : NoAttr K A.C_Fence "area"
  no_Fence_bends : NoAttr K A.C_Fence "bends"
  no_Lot_fences : NoAttr K A.C_Lot "fences"
  no_Lot_sides : NoAttr K A.C_Lot "sides"
  no_Gap_word : NoAttr K A.C_Gap "word"
  no_Gap_parts : NoAttr K A.C_Gap "parts"
  no_Gap_squared : NoAttr K A.C_Gap "squared"
  no_Gap_one : NoAttr K A.C_Gap "one"
  no_Gap_other : NoAttr K A.C_Gap "other"
  no_Gap_here : NoAttr K A.C_Gap "here"
  no_Gap_there : NoAttr K A.C_Gap "there"
  mk_Closed : Mk K A.C_Closed A.f_Closed_init
  mk_Fence : Mk K A.C_Fence A.f_Fence_init
  mk_Apart : Mk K A.C_Apart A.f_Apart_init
  mk_Lot : Mk K A.C_Lot A.f_Lot_init
  mk_Gap : Mk K A.C_Gap A.f_Gap_init
  m_Closed : mg "Closed" = some (.ref A.C_Closed)
  m_Fence : mg "Fence" = some (.ref A.C_Fence)
  m_Apart : mg "Apart" = some (.ref A.C_Apart)
  m_Lot : mg "Lot" = some (.ref A.C_Lot)
  m_Gap : mg "Gap" = some (.ref A.C_Gap)
  bool_Closed : PySem.W.findIn K (.ref A.C_Closed) "__bool__" = some (some (.ref A.f_Paper_bool))
  bool_Apart : PySem.W.findIn K (.ref A.C_Apart) "__bool__" = some (some (.ref A.f_Paper_bool))
  bool_Gap : PySem.W.findIn K (.ref A.C_Gap) "__bool__" = some (some (.ref A.f_Paper_bool))
  boolT : PySem.W.typeIn K (.ref A.f_Paper_bool) = some (.type "function")
  len_Fence : PySem.W.findIn K (.ref A.C_Fence) "__len__" = some (some (.ref A.f_Fence_len))
  lenT : PySem.W.typeIn K (.ref A.f_Fence_len) = some (.type "function")
  eq_Gap : PySem.W.findIn K (.ref A.C_Gap) "__eq__" = some (some (.ref A.f_Paper_eq))
  eqT : PySem.W.isFn K (.ref A.f_Paper_eq) = true
  ne_Gap : PySem.W.findIn K (.ref A.C_Gap) "__ne__" = some (some (.builtin "object.__ne__"))
  me_side : Meth K A.C_Lot "side" A.f_Lot_side
  is_Fence : C8.InsC K A.C_Fence
  is_Lot : C8.InsC K A.C_Lot
  is_Gap : C8.InsC K A.C_Gap
  ki_Fence_Fence : PySem.W.kitOne K (.ref A.C_Fence) (.ref A.C_Fence) = some true
  ki_Lot_Lot : PySem.W.kitOne K (.ref A.C_Lot) (.ref A.C_Lot) = some true
  ki_Gap_Gap : PySem.W.kitOne K (.ref A.C_Gap) (.ref A.C_Gap) = some true
end Odd
namespace Odd
open PySem PySem.Spec PyProof.Rows L2
/-! ### repr of lists and tuples: it asks that no such text is being made around; so what is known of the guards goes along -/
def rRepr (K : PySem.W.Frag) : List V → Hp → VK → Prop := fun xs H Q => ∃ a d, xs = [.ref a] ∧ Dp K H (.ref a) d ∧ d.showable = true ∧ d.hasDict = false ∧ d.depth ≤ 60 ∧ d.shown.length ≤ sizeLine ∧ Q (.str d.shown) H
theorem call_reprD {X : Cx} (hg : X.A.guards = some []) (hu : X.A.units + 64 < cLine) : CallR X (.builtin "repr") (rRepr X.K) := by
  intro pins s σ H xs us Q I r h
  obtain ⟨a, d, rfl, hd, h1, h2, h3, h4, q⟩ := h
  obtain ⟨u, rfl, e⟩ := vals1 r
  obtain rfl : u = Value.ref a := e
  obtain ⟨as, hr⟩ := Dp.reads I d _ _ hd rfl
  exact repr_of_reads' hr h1 (PyData.noDict_hsm h2) hg (by omega) (fun _ _ z => z) (fun h' t tk k => ⟨.str d.shown, H, I.kept (h' := h') (t' := tk) k, ⟨t, rfl⟩, q⟩) h4
/-- a def's promise where the guards are known to be none -/
structure GOk (P : Program) (w : World) (K : PySem.W.Frag) (mg : Str → Option Value) (base : Heap) (CX : CXT) (k : Nat) (f : Addr) (fd : FuncData) (ps : List Str) (sp : Sp) : Prop where
  size : ∀ vs H Q E, sp vs H Q E → vs.length = ps.length
  go : ∀ {A : Around} {outer : List Env} {s : Shared} {H : Hp} {args : Args} {us : List Value} {vs : List V} {Q : VK} {E : XK}, A.guards = some [] → Room k A → Env0 P w K mg base A outer s H →
    BindsTo s fd args (ps.zip us) → Vals vs us → sp vs H Q E → codeAny (model P w) A (.call (.ref f) args) (CR CX outer P w H s Q E) s
section
variable {P : Program} {w : World} {K : PySem.W.Frag} {mg : Str → Option Value} {base : Heap}
/-- from a def's text and its body -/
theorem gok {x qual : Str} {st : Stmt} {f : Addr} {fd : FuncData} {N ps : List Str} {k : Nat} {sp : Sp} (F : Fun K x qual st f fd) (S : FnScope N ps (defScope st)) (size : ∀ vs H Q E, sp vs H Q E → vs.length = ps.length)
    (body : ∀ (cdv : Value) (A : Around) (outer : List Env) (s : Shared) (H : Hp) (vs : List V) (Q : VK) (E : XK), A.guards = some [] → Room k (A.deeper (envOfC qual (defScope st) s.heap.objs.size f cdv)) → sp vs H Q E →
      ∃ t, PSs (cxOf CX0 P w K mg base N qual (defScope st) f cdv A outer s H E).nox (defBody st) t ∧ t { nx := fun _ H' => Q .non H', rt := Q } (start N vs) H) : GOk P w K mg base CX0 (k + 1) f fd ps sp := by
  obtain ⟨oc, od, kV, doc, pm, an, cdv, ct, osl, rfl, lk, hcd⟩ := F.ex
  constructor
  · exact size
  intro A outer s H args us vs Q E hg hr e0 hb r hsp
  have up := fun b o (e : base.get? b = some o) => (e0.bs b o e).1
  have In := e0.mod.kin.keeps up
  have free := e0.mod.nolimit.keeps up
  have kinds : ∀ y ∈ ps.zip us, (defScope st).names.lookup y.1 = some .local ∨ ((defScope st).names.lookup y.1 = some .cell ∧ ((cellsFrom (s.heap.objs.size + 1) (defScope st).names []).lookup y.1).isSome = true) := by
    rintro ⟨n, v⟩ hy
    cases S.par n (List.of_mem_zip hy).1 with
    | inl q => exact Or.inl q
    | inr q => exact Or.inr ⟨q, PySem.W.cellsFrom_some _ _ _ (Or.inl q)⟩
  apply codeAny_call_function hr.depth (In _ _ lk) rfl S.co S.gen rfl (PySem.W.codeRec_of In hcd)
  apply hb
  apply wpAny_newFunctionEnv_cells S.kind kinds
  rintro env rfl s1 x
  refine ⟨free.keeps x.toInCall.keep, codeAny_func ?_⟩
  obtain ⟨t, ht, hq⟩ := body cdv A outer s H vs Q E hg (hr.deeper _) hsp
  have I := inv_start (CX := CX0) (mg := mg) (base := base) (E := E) S hr.hd e0 (size _ _ _ _ hsp) r x
  apply wpAny_mono (ht.nox.run [] s1 (start N vs) H _ I hq) _ (fun e s' hs => hs)
  intro fl s' hs
  cases fl with
  | ret u =>
    obtain ⟨v, σ', H', J, rv, q⟩ := hs
    exact ⟨v, H', J.os, J.bare, J.base, J.hok, rv, q⟩
  | next =>
    obtain ⟨σ', H', J, q⟩ := hs
    exact ⟨.non, H', J.os, J.bare, J.base, J.hok, rfl, q⟩
  | brk => exact hs.elim fun _ z => z.elim fun _ z => z.2.elim
  | cont => exact hs.elim fun _ z => z.elim fun _ z => z.2.elim
end
section
variable {X : Cx} {k : Nat} {f : Addr} {fd : FuncData} {ps : List Str} {sp : Sp} {x : Str} {p pos : Pos} {e : Expr} {es : List Expr} {t : TA}
theorem pe_callG (F : GOk X.prog X.w X.K X.mg X.base CX0 k f fd ps sp) (hgu : X.A.guards = some []) (hr : Room k X.A) (hg : Gl X x) (hm : X.mg x = some (.ref f)) (hk : PySem.W.keepIn X.K (.ref f) = true) (hb : Binds X.K fd ps [])
    (ha : PA X (e :: es) t) (hdb : (x == ("__debug__" : Str)) = false := by decide) (he : starEach (e :: es) X.env = (false, eval e X.env) :: starEach es X.env := by rfl) (hpl : (backTo pos (starEach es X.env)).any (·.1) = false := by rfl) :
    PE X (.Call (.Name x p) (e :: es) [] pos) (tCall sp [] E0 t) := by
  constructor
  intro pins s σ H Q I h
  apply wpAny_Call_Name_kw
  apply ld_glob I hg hm _ hdb
  apply PySem.W.callWith_K (h₀ := X.base) I.ok.mod.kin hk _ he hpl
  apply thn (ha.run pos pins s σ H _ I h)
  rintro us s1 ⟨vs, H1, I1, r, q⟩
  refine ⟨I1.kIn, wpAny_call (codeAny_mono (F.go hgu hr I1.env0 ?_ (vs := vs) (us := us) (Q := Q) (E := E0) r (by rw [List.append_nil] at q; exact q)) ?_)⟩
  · have b := hb s1 us I1.kIn (by rw [List.append_nil, ← r.length]; rw [List.append_nil] at q; exact F.size _ _ _ _ q)
    rwa [List.append_nil] at b
  · intro r' s' hq
    match r', hq with
    | .error e, hq => exact hq.elim
    | .ok (.ret u), hq => exact I1.after hq
end
end Odd
/-! a target that is a field of an object -/
namespace Odd
open PySem PySem.Spec PyProof.Rows L2
/-- o.f = .. among targets -/
def gFld (K : PySem.W.Frag) (to : TE) (f : Str) : TG := fun v σ H Q => to σ H fun x H1 => ∃ a C dx fs, x = .ref a ∧ H1 a = some (.ins C dx fs) ∧ Cls K C ∧ NoAttr K C f ∧ fs.length < 1000 ∧ Q σ (upd H1 a (.ins C dx (putF f v fs)))
theorem pg_fld {X : Cx} {o : Expr} {to : TE} {f : Str} {pos : Pos} (ho : PE X o to) : PG X (.Attribute o f pos) (gFld X.K to f) := by
  refine ⟨fun pins s σ H v u Q I r h => ?_⟩
  rw [assign_Attribute]
  refine wpAny_bind (wpAny_holding (thn (ho.run pins s σ H _ I h) fun ov s1 ⟨x, H1, I1, r1, a, C, dx, fs, ex, ea, c, n, l, q1⟩ => ?_))
  subst ex
  obtain rfl : ov = Value.ref a := r1
  refine wpAny_bind (wpAny_standAt (wpAny_bind (wpAny_holding (setattr_ok I1 ea c n l r fun s3 I3 => ?_))))
  exact wpAny_release ⟨σ, _, I3, q1⟩
end Odd
/-! the facts of a top, read by a Hook: errors, classes, functions with a cell -/
namespace Oh
open PySem PySem.Spec PyProof.Rows L2 He
theorem fun_of {K : PySem.W.Frag} {x q : Str} {st : Stmt} {f : Addr} {fd : FuncData} (F : FunD K x q (defArgs st) (defBody st) (defScope st) [] [] f fd) : Fun K x q st f fd := by
  obtain ⟨⟨oc, od, dV, kV, doc, pm, an, cdv, ct, osl, e, l, c, d, k⟩, kp⟩ := F
  rcases d with ⟨_, rfl⟩ | ⟨h, _⟩
  · exact ⟨⟨oc, od, kV, doc, pm, an, cdv, ct, osl, e, l, c⟩, kp⟩
  · exact absurd rfl h
/-! ### an error class -/
def excOwnB (K : PySem.W.Frag) (C : Addr) : Bool := match K.lookup C with
  | some ⟨.type c, _, .cls cd, sl⟩ => decide (c = "type") && (match cd.mro, sl.toList with
    | .ref C' :: bm, [_, _, _, _, some (.builtin n), _] => C' == C && (n == "ValueError.__new__" && (!cd.hasDel && (cd.hasDict && PySem.HandSPX.refsVE bm)))
    | _, _ => false)
  | _ => false
theorem excOwnB_ok {K : PySem.W.Frag} {C : Addr} (h : excOwnB K C = true) : ∃ nm q N bs bm sn sub ab col dd k0 k1 k2 k3 k5, K.lookup C = some (excClassObj nm q C N bs bm true sn sub ab col dd k0 k1 k2 k3 k5 "ValueError.__new__") ∧ PySem.HandSPX.refsVE bm = true := by
  unfold excOwnB at h
  split at h
  · rename_i c dd cd sl ho
    obtain ⟨hc, h9⟩ := ba h
    clear h
    obtain rfl := of_decide_eq_true hc
    clear hc
    split at h9
    · rename_i C' bm k0 k1 k2 k3 n k5 hm hs
      simp only [Bool.and_eq_true, beq_iff_eq, Bool.not_eq_true'] at h9
      obtain ⟨rfl, rfl, hdel, hd, ht⟩ := h9
      obtain ⟨nm, bs, mro, ns, qn, hdd, sn, sub, ab, col, del⟩ := cd
      dsimp only at hm hdel hd
      subst hm hdel hd
      have hsl : sl = #[k0, k1, k2, k3, some (.builtin "ValueError.__new__"), k5] := by
        obtain ⟨l⟩ := sl
        simp only at hs
        rw [hs]
      subst hsl
      exact ⟨nm, qn, ns, bs, bm, sn, sub, ab, col, dd, k0, k1, k2, k3, k5, ho, ht⟩
    · cases h9
  · cases h
def noKwB (K : PySem.W.Frag) (f : Addr) : Bool := match K.lookup f with
  | some ⟨_, _, .func fd, _⟩ => decide (fd.kwdefaults = .none)
  | _ => false
def lowL (K : PySem.W.Frag) (C fI : Addr) : List Bool := [excOwnB K C, eqO (PySem.W.findIn K (.ref C) "__setattr__") (some (some (.builtin "object.__setattr__"))), eqO (PySem.W.findIn K (.ref C) "__getattribute__") (some (some (.builtin "BaseException.__getattribute__"))),
  eqO (PySem.W.findIn K (.ref C) "__getattr__") (some none), eqO (PySem.W.findIn K (.ref C) "part") (some none), eqO (PySem.W.findIn K (.ref C) "__init__") (some (some (.ref fI))), decide (PySem.W.typeIn K (.ref fI) = some (.type "function")),
  PySem.W.keepIn K (.ref C), decide (PySem.W.subIn K (.ref C) (.type "BaseException") = some true), decide (PySem.W.typeIn K (.ref C) = some (.type "type")), PySem.W.hasDictIn K C, decide (PySem.W.exmOne K (.ref C) (.ref C) = some true), noKwB K fI]
def lowB (K : PySem.W.Frag) (x : Str) : Bool := (lowL K (ga K x) (ma K (ga K x) "__init__")).all id
theorem all_at {l : List Bool} (h : l.all id = true) (i : Nat) {b : Bool} (e : l[i]? = some b) : b = true := List.all_eq_true.mp h b (List.mem_of_getElem? e)
theorem low_ok {K : PySem.W.Frag} {h : Heap} {mg : Str → Option Value} {x qn : Str} {fd : FuncData} {p1 p2 q1 q2 q3 q4 : Pos} (X : K.In h) (G : h.Ns mainGlobals mg) (c0 : (Fa.glo x).ok K = true) (c : lowB K x = true)
    (F : FunD K "__init__" qn (PySem.LowX.iA p1 p2) (PySem.LowX.iB q1 q2 q3 q4) PySem.LowX.iS [] [] (ma K (ga K x) "__init__") fd) : PySem.LowX.LowTxt x qn K mg (ga K x) (ma K (ga K x) "__init__") := by
  have a := fun i b e => all_at (b := b) c i e
  obtain ⟨⟨oc, od, dV, kV, doc, pm, an, cdv, ct, osl, e, l, cc, d, k⟩, kp⟩ := F
  subst e
  refine ⟨glo_ok X G c0, excOwnB_ok (a 0 _ rfl), eqO_ok (a 1 _ rfl), eqO_ok (a 2 _ rfl), eqO_ok (a 3 _ rfl), eqO_ok (a 4 _ rfl), eqO_ok (a 5 _ rfl), of_decide_eq_true (a 6 _ rfl), a 7 _ rfl, of_decide_eq_true (a 8 _ rfl), of_decide_eq_true (a 9 _ rfl), a 10 _ rfl, of_decide_eq_true (a 11 _ rfl), ?_⟩
  have kw : kV = .none := by
    have q : noKwB K (ma K (ga K x) "__init__") = true := a 12 _ rfl
    unfold noKwB at q
    rw [l] at q
    exact of_decide_eq_true q
  subst kw
  rcases d with ⟨_, rfl⟩ | ⟨h, _⟩
  · exact ⟨oc, od, doc, pm, an, cdv, ct, osl, p1, p2, q1, q2, q3, q4, l, cc⟩
  · exact absurd rfl h
/-! ### a class for isinstance -/
def insB (K : PySem.W.Frag) (x : Str) : Bool := (Fa.cls x).ok K && (eqO (PySem.W.findIn K (.ref (ga K x)) "__class__") (some (some (.builtin "object.__class__"))) && (eqO (PySem.W.specialIn K (.builtin "object.__class__") "__get__") (some (some (.builtin "getset_descriptor.__get__"))) &&
  (decide (PySem.W.takesIn K (.builtin "object.__class__") = some true) && (decide (PySem.W.mroIn K (ga K x) (.type "object") = some true) && decide (PySem.W.kitOne K (.ref (ga K x)) (.ref (ga K x)) = some true)))))
theorem ins_ok {K : PySem.W.Frag} {x : Str} (c : insB K x = true) : C8.InsC K (ga K x) := by
  obtain ⟨c1, c⟩ := ba c
  obtain ⟨c2, c⟩ := ba c
  obtain ⟨c3, c⟩ := ba c
  obtain ⟨c4, c⟩ := ba c
  obtain ⟨c5, c6⟩ := ba c
  exact ⟨cls_ok c1, eqO_ok c2, eqO_ok c3, of_decide_eq_true c4, of_decide_eq_true c5, of_decide_eq_true c6⟩
/-! ### a dict with int keys and texts -/
def kintB (K : PySem.W.Frag) (a : Addr) (k : Int) : Bool := match K.lookup a with
  | some ⟨.type c, none, .dict es _, sl⟩ => decide (c = "dict") && (sl.isEmpty && (es.all (fun e => match e.key with
    | .int k _ => e.hash == hashInt k
    | _ => false) && (match findBy Value.isInt es k with
    | some (.str _ _) => true
    | _ => false)))
  | _ => false
theorem kint_ok {K : PySem.W.Frag} {a : Addr} {k : Int} (h : kintB K a k = true) : ∃ z, OZ.KInt K a k (.str z) := by
  unfold kintB at h
  split at h
  · rename_i c es n sl ho
    obtain ⟨h1, h⟩ := ba h
    obtain ⟨h2, h⟩ := ba h
    obtain ⟨h3, h4⟩ := ba h
    obtain rfl := of_decide_eq_true h1
    have e2 : sl = #[] := Array.isEmpty_iff.mp h2
    subst e2
    split at h4
    · rename_i z t hf
      refine ⟨z, es, n, _, ho, fun e he => ?_, hf, ⟨t, rfl⟩⟩
      have := Array.all_eq_true'.mp h3 e he
      split at this
      · rename_i k t hk
        exact ⟨k, t, hk, by simpa using this⟩
      · cases this
    · cases h4
  · cases h
def kintT (K : PySem.W.Frag) (a : Addr) (k : Int) (w : Str) : Bool := match K.lookup a with
  | some ⟨.type c, none, .dict es _, sl⟩ => decide (c = "dict") && (sl.isEmpty && (es.all (fun e => match e.key with
    | .int k _ => e.hash == hashInt k
    | _ => false) && (match findBy Value.isInt es k with
    | some (.str z _) => decide (z = w)
    | _ => false)))
  | _ => false
theorem kintT_ok {K : PySem.W.Frag} {a : Addr} {k : Int} {w : Str} (h : kintT K a k w = true) : OZ.KInt K a k (.str w) := by
  unfold kintT at h
  split at h
  · rename_i c es n sl ho
    obtain ⟨h1, h⟩ := ba h
    obtain ⟨h2, h⟩ := ba h
    obtain ⟨h3, h4⟩ := ba h
    obtain rfl := of_decide_eq_true h1
    have e2 : sl = #[] := Array.isEmpty_iff.mp h2
    subst e2
    split at h4
    · rename_i z t hf
      obtain rfl := of_decide_eq_true h4
      refine ⟨es, n, _, ho, fun e he => ?_, hf, ⟨t, rfl⟩⟩
      have := Array.all_eq_true'.mp h3 e he
      split at this
      · rename_i k t hk
        exact ⟨k, t, hk, by simpa using this⟩
      · cases this
    · cases h4
  · cases h
/-! ### an __init__ with the cell __class__ -/
abbrev FnZ : Type := Option (Str × Str × Arguments × FuncBody × Scope × Addr × Addr)
def fnZ (K : PySem.W.Frag) (x : Str) : FnZ := match K.lookup (ma K (ga K x) "__init__") with
  | some ⟨_, _, .func fd, _⟩ => some (fd.name, fd.qualname, fd.params, fd.body, fd.scope, fd.globals, fd.builtins)
  | _ => none
/-- such a class's __init__: the class's name, the function's qualified name, its statement -/
structure SupD where
  x : Str
  qual : Str
  st : Stmt
def SupD.val (d : SupD) : FnZ := some ("__init__", d.qual, defArgs d.st, .stmts (defBody d.st), defScope d.st, mainGlobals, builtinsNs)
def supB (K : PySem.W.Frag) (x qual px : Str) : Bool := match K.lookup (ma K (ga K x) "__init__") with
  | some ⟨_, _, .func fd, _⟩ => (match fd.closure, fd.code, fd.defaults with
    | [(n, cc)], .ref cda, .none => decide (n = "__class__") && ((match K.lookup cc with
      | some ⟨_, _, .cell (some (.ref C')), _⟩ => C' == ga K x
      | _ => false) && (PySem.W.codeIn K (.ref cda) qual && ((match K.lookup cda with
      | some ⟨_, _, .fields vs, _⟩ => (match vs[2]? with
        | some (Value.str file _) => decide (file = "/claim/cut.py")
        | _ => false)
      | _ => false) && ([(PySem.W.clsIn K (ga K x)).isSome, decide (PySem.W.mroIn K (ga K x) (.ref (ga K x)) = some true), eqO (PySem.W.ks_superIn K (ga K x) (ga K x) "__init__") (some (some (.ref (ma K (ga K px) "__init__")))),
        decide (PySem.W.typeIn K (.ref (ma K (ga K px) "__init__")) = some (.type "function")), PySem.W.fnIn K (ma K (ga K px) "__init__"), eqO (PySem.W.nsIn K cStatics "thirdparty.any") (some none)].all id))))
    | _, _, _ => false)
  | _ => false
theorem sup_ok {K : PySem.W.Frag} {d : SupD} {px : Str} (e : fnZ K d.x = d.val) (h : supB K d.x d.qual px = true) {ps : List Str}
    (hb : ∀ (cl : List (Str × Addr)) (kV doc pm : Value) (an : Option Addr) (cdv ct : Value) (us : List Value), us.length = ps.length → bindArgs (PySem.W.fnX "__init__" d.qual (defArgs d.st) (defBody d.st) (defScope d.st) cl .none kV doc pm an cdv ct) ⟨us, []⟩ = pure (ps.zip us)) :
    ∃ cda cc fd, SupF K d.qual d.st (ga K d.x) (ma K (ga K d.x) "__init__") cda cc (ma K (ga K px) "__init__") fd ∧ Binds K fd ps [] := by
  unfold supB at h
  split at h
  · rename_i oc od fd osl lk
    split at h
    · rename_i n cc cda hcl hcd hdf
      obtain ⟨h1, h⟩ := ba h
      obtain ⟨h2, h⟩ := ba h
      obtain ⟨h3, h⟩ := ba h
      obtain ⟨h4, h5⟩ := ba h
      obtain rfl := of_decide_eq_true h1
      have a := fun i b e => all_at (b := b) h5 i e
      unfold fnZ at e
      rw [lk] at e
      obtain ⟨n1, n2, n3, n4, n5, n6, n7, n8, n9, n10, n11, n12, n13, n14, n15⟩ := fd
      dsimp only at hcl hcd hdf
      subst hcl hcd hdf
      have e2 : (some (n1, n2, n3, n4, n5, n6, n15) : FnZ) = some (("__init__" : Str), d.qual, defArgs d.st, FuncBody.stmts (defBody d.st), defScope d.st, mainGlobals, builtinsNs) := e
      simp only [Option.some.injEq, Prod.mk.injEq] at e2
      obtain ⟨rfl, rfl, rfl, rfl, rfl, rfl, rfl⟩ := e2
      refine ⟨cda, cc, _, ⟨?_, h3, ?_, Option.isSome_iff_exists.mp (a 0 _ rfl), of_decide_eq_true (a 1 _ rfl), eqO_ok (a 2 _ rfl), of_decide_eq_true (a 3 _ rfl), a 4 _ rfl, eqO_ok (a 5 _ rfl)⟩, .all (hb [("__class__", cc)] n9 n10 n11 n12 (.ref cda) n14)⟩
      · split at h2
        · rename_i cl cld C' csl lc
          obtain rfl := (beq_iff_eq.mp h2 : C' = ga K d.x)
          exact ⟨oc, n9, n10, n11, n14, cl, od, n12, cld, osl, csl, rfl, lk, lc⟩
        · cases h2
      · split at h4
        · rename_i ccl cdd vs ccs lv
          split at h4
          · rename_i file tf hv
            exact ⟨ccl, cdd, vs, ccs, file, tf, lv, hv, of_decide_eq_true h4⟩
          · cases h4
        · cases h4
    · cases h
  · cases h
/-! ### the Hook -/
abbrev AlZ : Type := AlD × Bool × List FnZ
def obsZ (fa : List Fa) (fn : List DefD) (ez : PySem.W.Frag → Bool) (su : List SupD) (K : PySem.W.Frag) : AlZ := (obsD fa fn K, ez K, su.map fun d => fnZ K d.x)
def valZ (fn : List DefD) (su : List SupD) : AlZ := (valD fn, true, su.map SupD.val)
/-- what is looked at: the module's names' objects, their code, the classes' namespaces and orders, the methods, their code and cells -/
def dictRefs (o : Obj) : List Addr := match o.data with
  | .dict es _ => es.toList.flatMap fun e => refV e.val
  | _ => []
def partRefs (o : Obj) : List Addr := match o.data with
  | .func fd => refV fd.code ++ fd.closure.map (·.2)
  | .cls cd => cd.ns :: cd.mro.flatMap refV
  | _ => []
def overG (g : Addr → Option Obj) (f : Obj → List Addr) (as : List Addr) : List Addr := as.flatMap fun a => match g a with
  | some o => f o
  | none => []
def asZ (g : Addr → Option Obj) (n : Nat) : List Addr :=
  (fun l1 => (fun l2 => (fun l3 => mainGlobals :: cStatics :: (l1 ++ (l2 ++ (l3 ++ overG g partRefs l3)))) (overG g dictRefs l2)) (overG g partRefs l1)) (overG g dictRefs [mainGlobals])
def obsZG (n : Nat) (fa : List Fa) (fn : List DefD) (ez : PySem.W.Frag → Bool) (su : List SupD) (g : Addr → Option Obj) : AlZ := obsZ fa fn ez su (frG g (asZ g n))
def SaysZ (fa : List Fa) (fn : List DefD) (ez : PySem.W.Frag → Bool) (su : List SupD) (K : PySem.W.Frag) : Prop := obsZ fa fn ez su K = valZ fn su
def hookZ (n : Nat) (fa : List Fa) (fn : List DefD) (ez : PySem.W.Frag → Bool) (su : List SupD) : PySem.W.Hook where
  α := AlZ
  obs := fun s => obsZG n fa fn ez su s.heap.get?
  val := fun _ => valZ fn su
  says := fun _ h => ∃ K : PySem.W.Frag, K.In h ∧ SaysZ fa fn ez su K
  of := fun _ _ e => ⟨_, frG_in, e⟩
  keeps := fun _ _ _ ⟨K, hK, c⟩ k => ⟨K, PySem.W.Frag.In.keeps hK k, c⟩
theorem obsZG_eq {n : Nat} {fa : List Fa} {fn : List DefD} {ez : PySem.W.Frag → Bool} {su : List SupD} {g : Addr → Option Obj} {s : Shared} (h : ∀ a, g a = s.heap.get? a) : obsZG n fa fn ez su g = (hookZ n fa fn ez su).obs s := by
  have e : g = s.heap.get? := funext h
  rw [e] <;> rfl
section
variable {fa : List Fa} {fn : List DefD} {ez : PySem.W.Frag → Bool} {su : List SupD} {K : PySem.W.Frag}
theorem SaysZ.d (c : SaysZ fa fn ez su K) : SaysD fa fn K := congrArg (fun z : AlZ => z.1) c
theorem SaysZ.more (c : SaysZ fa fn ez su K) : ez K = true := congrArg (fun z : AlZ => z.2.1) c
theorem SaysZ.sup (c : SaysZ fa fn ez su K) (i : Nat) {d : SupD} (h : su[i]? = some d := by rfl) : fnZ K d.x = d.val := by
  have e : su.map (fun d => fnZ K d.x) = su.map SupD.val := congrArg (fun z : AlZ => z.2.2) c
  have e2 : (su.map fun d => fnZ K d.x)[i]? = (su.map SupD.val)[i]? := by rw [e]
  rw [List.getElem?_map, List.getElem?_map, h] at e2
  exact Option.some.inj e2
end
theorem gcd_ok {K : PySem.W.Frag} {h : Heap} {mg : Str → Option Value} {x : Str} {v : Value} (X : K.In h) (G : h.Ns mainGlobals mg) (c : eqO (PySem.W.nsIn K mainGlobals x) (some (some v)) = true) : mg x = some v := PySem.W.mg_of X G (eqO_ok c)
end Oh
namespace Odd
open PySem PySem.Spec PyProof.Rows L2 He Oh
def dG (x : Str) (st : Stmt) : DefD := ⟨(x, none), x, x, defArgs st, defBody st, defScope st, [], []⟩
def dA (x y : Str) (st : Stmt) : DefD := ⟨(x, none), y, y, defArgs st, defBody st, defScope st, [], []⟩
def dM (c m qn : Str) (st : Stmt) : DefD := ⟨(c, some m), m, qn, defArgs st, defBody st, defScope st, [], []⟩
def fnL0 : List DefD := [dA "lowest" "lowest" s_lowest, dA "pair_of" "pair_of" s_pair_of, dA "sum_of" "sum_of" s_sum_of, dA "difference" "difference" s_difference, dA "product_of" "product_of" s_product_of, dA "quotient" "quotient" s_quotient, dA "is_below" "is_below" s_is_below, dA "sign" "sign" s_sign, dA "is_integer" "is_integer" s_is_integer, dA "is_within" "is_within" s_is_within, dA "is_row" "is_row" s_is_row, dA "is_pair" "is_pair" s_is_pair, dA "is_number" "is_number" s_is_number, dA "is_point" "is_point" s_is_point, dA "are_points" "are_points" s_are_points, dA "point_of" "point_of" s_point_of, dA "joined" "joined" s_joined, dA "way_between" "way_between" s_way_between, dA "stretched" "stretched" s_stretched, dA "cross_of" "cross_of" s_cross_of]
def fnL1 : List DefD := [dA "dot_of" "dot_of" s_dot_of, dA "moved" "moved" s_moved, dA "comes_before" "comes_before" s_comes_before, dA "fixed" "fixed" s_fixed, dA "_are_equal" "_are_equal" s__are_equal, dA "sides_of" "sides_of" s_sides_of, dA "_loose" "_loose" s__loose, dA "bend" "bend" s_bend, dA "ordered_segments" "_ordered" s_ordered_segments, dA "_shared_stretch" "_shared_stretch" s__shared_stretch, dA "common_point" "common_point" s_common_point, dA "_corners_in" "_corners_in" s__corners_in, dA "_goes_back" "_goes_back" s__goes_back, dA "are_next" "are_next" s_are_next, dA "_meeting" "_meeting" s__meeting, dA "_doubled_area" "_doubled_area" s__doubled_area, dA "_judged" "_judged" s__judged, dA "_bends_of" "_bends_of" s__bends_of, dA "_fences_in" "_fences_in" s__fences_in, dA "_numbered_sides" "_numbered_sides" s__numbered_sides]
def fnL2 : List DefD := [dA "judged_fences" "judged_fences" s_judged_fences, dA "is_side" "is_side" s_is_side, dA "are_neighbours" "are_neighbours" s_are_neighbours, dA "check_lot" "check_lot" s_check_lot, dA "_squared" "_squared" s__squared, dA "_nearest" "_nearest" s__nearest, dA "_side_of_corner" "_side_of_corner" s__side_of_corner, dA "ordered_gaps" "_ordered" s_ordered_gaps, dA "gap" "gap" s_gap, dA "_law_ditch" "_law_ditch" s__law_ditch, dA "_law_dig" "_law_dig" s__law_dig, dA "_law_pick" "_law_pick" s__law_pick, dA "_law_turn" "_law_turn" s__law_turn, dA "_law_on" "_law_on" s__law_on, dA "_law_ring" "_law_ring" s__law_ring, dA "_law_low" "_law_low" s__law_low, dA "_law_star" "_law_star" s__law_star, dA "_law_strip" "_law_strip" s__law_strip, dA "_law_lot" "_law_lot" s__law_lot, dA "_law_foot" "_law_foot" s__law_foot]
def fnL3 : List DefD := [dA "_law_between" "_law_between" s__law_between, dA "_law_pairs" "_law_pairs" s__law_pairs, dA "_law_lies" "_law_lies" s__law_lies, dA "_law_apart" "_law_apart" s__law_apart, dA "law" "law" s_law, dM "Paper" "__init__" "Paper.__init__" s_Paper_init, dM "Paper" "__bool__" "Paper.__bool__" s_Paper_bool, dM "Paper" "__eq__" "Paper.__eq__" s_Paper_eq, dM "Fence" "__init__" "Fence.__init__" s_Fence_init, dM "Fence" "__len__" "Fence.__len__" s_Fence_len, dM "Lot" "__init__" "Lot.__init__" s_Lot_init, dM "Lot" "side" "Lot.side" s_Lot_side]
def fnL : List DefD := fnL0 ++ fnL1 ++ fnL2 ++ fnL3
def faL0 : List Fa := [.glo "lowest", .glo "pair_of", .glo "sum_of", .glo "difference", .glo "product_of", .glo "quotient", .glo "is_below", .glo "sign", .glo "is_integer", .glo "is_within", .glo "is_row", .glo "is_pair", .glo "is_number", .glo "is_point", .glo "are_points", .glo "point_of", .glo "joined", .glo "way_between", .glo "stretched", .glo "cross_of"]
def faL1 : List Fa := [.glo "dot_of", .glo "moved", .glo "comes_before", .glo "fixed", .glo "_are_equal", .glo "sides_of", .glo "_loose", .glo "bend", .glo "ordered_segments", .glo "_shared_stretch", .glo "common_point", .glo "_corners_in", .glo "_goes_back", .glo "are_next", .glo "_meeting", .glo "_doubled_area", .glo "_judged", .glo "_bends_of", .glo "_fences_in", .glo "_numbered_sides"]
def faL2 : List Fa := [.glo "judged_fences", .glo "is_side", .glo "are_neighbours", .glo "check_lot", .glo "_squared", .glo "_nearest", .glo "_side_of_corner", .glo "ordered_gaps", .glo "gap", .glo "_law_ditch", .glo "_law_dig", .glo "_law_pick", .glo "_law_turn", .glo "_law_on", .glo "_law_ring", .glo "_law_low", .glo "_law_star", .glo "_law_strip", .glo "_law_lot", .glo "_law_foot"]
def faL3 : List Fa := [.glo "_law_between", .glo "_law_pairs", .glo "_law_lies", .glo "_law_apart", .glo "law", .free "len", .free "abs", .free "isinstance", .free "int", .free "bool", .free "list", .free "tuple", .free "range", .free "all", .free "zip", .free "enumerate", .free "super", .free "type", .free "sum", .free "sorted"]
def faL4 : List Fa := [.free "repr", .free "min", .free "max", .glo "ZERO", .glo "BENDS", .int "FEWEST_CORNERS" 3, .int "MOST_CORNERS" 40, .int "MOST_FENCES" 6, .int "MOST_SIDES" 60, .cls "Closed", .cls "Fence", .cls "Apart", .cls "Lot", .cls "Gap", .noat "Closed" "word", .noat "Closed" "parts", .noat "Closed" "is_left", .noat "Apart" "word", .noat "Apart" "parts", .noat "Fence" "corners"]
def faL5 : List Fa := [.noat "Fence" "sides", .noat "Fence" "area", .noat "Fence" "bends", .noat "Lot" "fences", .noat "Lot" "sides", .noat "Gap" "word", .noat "Gap" "parts", .noat "Gap" "squared", .noat "Gap" "one", .noat "Gap" "other", .noat "Gap" "here", .noat "Gap" "there", .mkr "Closed", .mkr "Fence", .mkr "Apart", .mkr "Lot", .mkr "Gap", .glo "Closed", .glo "Fence", .glo "Apart"]
def faL6 : List Fa := [.glo "Lot", .glo "Gap", .meth "Lot" "side"]
def faL : List Fa := faL0 ++ faL1 ++ faL2 ++ faL3 ++ faL4 ++ faL5 ++ faL6
def ezL (K : PySem.W.Frag) : List Bool := [eqO (PySem.W.nsIn K mainGlobals "gcd") (some (some (.builtin "math.gcd"))),
  tupB K "ZERO" [.int 0, .int 1],
  kintT K (ga K "BENDS") (-1) "right",
  kintT K (ga K "BENDS") (0) "straight",
  kintT K (ga K "BENDS") (1) "left",
  supB K "Closed" "Closed.__init__" "Paper",
  supB K "Apart" "Apart.__init__" "Paper",
  supB K "Gap" "Gap.__init__" "Paper",
  eqO (PySem.W.findIn K (.ref (ga K "Closed")) "__bool__") (some (some (.ref (ma K (ga K "Paper") "__bool__")))),
  eqO (PySem.W.findIn K (.ref (ga K "Apart")) "__bool__") (some (some (.ref (ma K (ga K "Paper") "__bool__")))),
  eqO (PySem.W.findIn K (.ref (ga K "Gap")) "__bool__") (some (some (.ref (ma K (ga K "Paper") "__bool__")))),
  decide (PySem.W.typeIn K (.ref (ma K (ga K "Paper") "__bool__")) = some (.type "function")),
  eqO (PySem.W.findIn K (.ref (ga K "Fence")) "__len__") (some (some (.ref (ma K (ga K "Fence") "__len__")))),
  decide (PySem.W.typeIn K (.ref (ma K (ga K "Fence") "__len__")) = some (.type "function")),
  eqO (PySem.W.findIn K (.ref (ga K "Gap")) "__eq__") (some (some (.ref (ma K (ga K "Paper") "__eq__")))),
  PySem.W.isFn K (.ref (ma K (ga K "Paper") "__eq__")),
  eqO (PySem.W.findIn K (.ref (ga K "Gap")) "__ne__") (some (some (.builtin "object.__ne__"))),
  insB K "Fence",
  insB K "Lot",
  insB K "Gap",
  decide (PySem.W.kitOne K (.ref (ga K "Fence")) (.ref (ga K "Fence")) = some true),
  decide (PySem.W.kitOne K (.ref (ga K "Lot")) (.ref (ga K "Lot")) = some true),
  decide (PySem.W.kitOne K (.ref (ga K "Gap")) (.ref (ga K "Gap")) = some true)]
def ez (K : PySem.W.Frag) : Bool := (ezL K).all id
def suL : List SupD := [⟨"Closed", "Closed.__init__", s_Closed_init⟩, ⟨"Apart", "Apart.__init__", s_Apart_init⟩, ⟨"Gap", "Gap.__init__", s_Gap_init⟩]
def names0 : List Str := ["_wall", "ZERO", "lowest", "pair_of", "sum_of", "difference", "product_of", "quotient", "is_below", "sign", "is_integer", "is_within", "is_row", "is_pair", "is_number", "is_point", "are_points", "OddError", "BadPoint", "BadFence", "BadLot", "BadSides", "NoFence", "NoLot", "TooMany"]
def names1 : List Str := ["point_of", "joined", "way_between", "stretched", "cross_of", "dot_of", "moved", "comes_before", "point_in", "fixed", "_are_equal", "Paper", "Denial", "sides_of", "_loose", "bend", "_ordered", "ordered_segments", "lies_on", "_shared_stretch", "common_point", "is_around", "FEWEST_CORNERS", "MOST_CORNERS", "BENDS"]
def names2 : List Str := ["Closed", "Short", "Back", "Meets", "_corners_in", "_goes_back", "are_next", "_meeting", "_doubled_area", "_judged", "_bends_of", "Fence", "MOST_FENCES", "MOST_SIDES", "Apart", "Cross", "_fences_in", "_numbered_sides", "judged_fences", "Lot", "is_side", "are_neighbours", "check_lot", "Gap", "_squared"]
def names3 : List Str := ["_nearest", "_side_of_corner", "ordered_gaps", "gap", "_law_ditch", "_law_dig", "_law_pick", "_law_turn", "_law_on", "_law_ring", "_law_low", "_law_star", "_law_strip", "_law_lot", "_law_foot", "_law_between", "_law_pairs", "_law_lies", "_law_apart"]
def names : List Str := names0 ++ names1 ++ names2 ++ names3
abbrev RR : PySem.W.OpenRow := PySem.W.OpenLaw.row PySem.Challenge.rw_oddsquares_k10_whole_gaps_of_lots
abbrev hk : PySem.W.Hook := hookZ 4 faL fnL ez suL
def obH (s : PySem.W.SharedT) : AlZ := obsZG 4 faL fnL ez suL (HandSHeadRun.getT s)
theorem obH_eq (s : PySem.W.SharedT) : obH s = hk.obs s.abs := obsZG_eq (HandSHeadRun.getT_eq s)
end Odd
set_option maxHeartbeats 0
namespace Odd
open PySem PySem.Spec PyProof.Rows L2 He Oh
theorem runF (w : World) : HandSHeadRun.RunEqI RR (PySem.W.view RR.prog [0, 108]) hk obH 30000 names (w.withFollow "special-get-raises" false) := by
  show _ = _
  kernel_rfl
theorem runT (w : World) : HandSHeadRun.RunEqI RR (PySem.W.view RR.prog [0, 108]) hk obH 30000 names (w.withFollow "special-get-raises" true) := by
  show _ = _
  kernel_rfl
theorem run (w : World) : HandSHeadRun.RunEqI RR (PySem.W.view RR.prog [0, 108]) hk obH 30000 names w :=
  PySem.W.byRow2 "special-get-raises" (P := fun w => HandSHeadRun.RunEqI RR (PySem.W.view RR.prog [0, 108]) hk obH 30000 names w) runF runT w
end Odd
namespace Odd
open PySem PySem.Spec PyProof.Rows L2
local macro_rules | `(tactic| walk_at "vc") => `(tactic| simp only [tSeq, tAsg, gName, tCB, tCons, tNil, tVar, tC, tOp, tUn, rI0, rI, rU, tTup, tLst, tIfS, tTest, tB, tRet, tNext, rGcd, L2.start, List.map, List.set, List.replicate, List.cons_append, List.nil_append, List.length_cons, List.length_nil, List.getElem?_cons_succ, List.getElem?_cons_zero, Option.some.injEq, exists_eq_left', exists_eq_left, List.append_nil, List.cons.injEq, V.int.injEq, exists_and_left, and_true, true_and, and_assoc, exists_const, V.bl.injEq, V.ref.injEq, Nat.sub_self, Nat.reduceAdd, Nat.reduceSub, List.replicate_succ, List.replicate_zero, tAnd, tOr, tNot, tAndV, tOrV, tNotV, tIf, tCall, tCallK, tDrop, rEq, rNe, decide_eq_true_eq, Bool.not_eq_true', decide_eq_false_iff_not, Bool.false_eq_true, if_true, if_false, reduceIte, reduceCtorEq, tMkLow, tRaiseLow, rIsB, rNotB, tBreak, tPar, gSub, rSetL, tChain, gTup, gCons, gNil, gSeq, cx_K, cx_Kn, optV, V.str.injEq, Bool.not_true, Bool.not_false, false_and, and_false, or_false, false_or, exists_false, tCallN, tCallS, tPairs])
section
variable {P : Program} {w : World} {K : PySem.W.Frag} {mg : Str → Option Value} {base : Heap} {A : Ads}


theorem iteN {A B : Prop} (h : A) : if false = false then A else B := by
  rw [if_pos rfl]
  exact h
theorem iteF' {A B : Prop} {b : Bool} (hb : b = true) (h : B) : if b = false then A else B := by
  subst hb
  rw [if_neg (by decide)]
  exact h
def spLowest (K : PySem.W.Frag) : Sp := fun vs H Q _ => ∃ t u : Int, vs = [.int t, .int u] ∧ u ≠ 0 ∧ u.natAbs < 2 ^ 8000 ∧ RetP K H (low t u) Q
theorem ok_lowest (T : Txt K mg A) : FnOk P w K mg base CX0 1 A.f_lowest A.d_lowest ["top", "under"] (spLowest K) := by
  refine T.lowest.F.ok sc_lowest (fun vs H Q E h => ?_) (fun cdv A' outer s H vs Q E hr h => ?_)
  · obtain ⟨t, u, rfl, _⟩ := h; rfl
  · obtain ⟨t, u, rfl, hu, hb, q⟩ := h
    refine ⟨_, (pss_cons (ps_set (i := 2) sc_lowest.nd rfl (.inl rfl) (pe_callBfun cr_gcd (by rfl) T.g_gcd (pa_cons (pv 0) (pa_cons (pv 1) pa_nil))))
      (pss_cons (ps_if (pt_cmpR op_lt (pv 1) pe_int (nomark _)) (pss_one (ps_set (i := 2) sc_lowest.nd rfl (.inl rfl) (pe_un un_neg (pv 2)))) pss_nil)
      (pss_one (ps_ret (pe_tup (pa_cons (pe_op op_fdivX (pv 0) (pv 2)) (pa_cons (pe_op op_fdivX (pv 1) (pv 2)) pa_nil))))))), ?_⟩
    walk_at "vc"
    have hg : 0 < Nat.gcd t.natAbs u.natAbs := Nat.gcd_pos_of_pos_right _ (by omega)
    have hl : Nat.gcd t.natAbs u.natAbs ≤ u.natAbs := Nat.le_of_dvd (by omega) (Nat.gcd_dvd_right _ _)
    have hd : Nat.gcd t.natAbs u.natAbs < 2 ^ 8000 := Nat.lt_of_le_of_lt hl hb
    split
    · rename_i hn
      have d : ∀ x, CDivX x (-((Nat.gcd t.natAbs u.natAbs : Nat) : Int)) := fun x => divx (by omega) (b := 8000) (by rw [Int.natAbs_neg]; exact hd) (by decide) (by decide)
      refine ⟨d _, d _, by decide, fun p hp => q _ p (same_upd hp) (st_of ?_)⟩
      unfold low
      rw [if_pos hn, upd_same]
    · rename_i hn
      have d : ∀ x, CDivX x ((Nat.gcd t.natAbs u.natAbs : Nat) : Int) := fun x => divx (by omega) (b := 8000) hd (by decide) (by decide)
      refine ⟨d _, d _, by decide, fun p hp => q _ p (same_upd hp) (st_of ?_)⟩
      unfold low
      rw [if_neg hn, upd_same]
def spPairOf (K : PySem.W.Frag) : Sp := fun vs H Q _ => ∃ v a, vs = [v] ∧ Num K H v a ∧ RetP K H a Q
theorem ok_pair_of (T : Txt K mg A) : FnOk P w K mg base CX0 1 A.f_pair_of A.d_pair_of ["value"] (spPairOf K) := by
  refine T.pair_of.F.ok sc_pair_of (fun vs H Q E h => ?_) (fun cdv A' outer s H vs Q E hr h => ?_)
  · obtain ⟨t, u, rfl, _⟩ := h; rfl
  · obtain ⟨v, a, rfl, hn, q⟩ := h
    refine ⟨_, (pss_cons (ps_if (pt_val (pe_callB call_isiT (by rfl) T.n_isinstance bt_isinstance (pa_cons (pv 0) (pa_cons (pe_tup (pa_cons (pe_bltn (v := .ty "list") (by rfl) T.n_list bt_list rfl) (pa_cons (pe_bltn (v := .ty "tuple") (by rfl) T.n_tuple bt_tuple rfl) pa_nil))) pa_nil)))) (pss_one (ps_ret (pe_callTy call_tuple_of (by rfl) T.n_tuple bt_tuple (pa_cons (pv 0) pa_nil)))) pss_nil)
      (pss_one (ps_ret (pe_tup (pa_cons (pv 0) (pa_cons pe_int pa_nil)))))), ?_⟩
    walk_at "vc"
    refine ⟨by decide, fun p hp => ?_⟩
    have sp := same_upd (o := .tup [.ty "list", .ty "tuple"]) hp
    cases hn with
    | int n =>
      refine ty_row (.int n) upd_same ⟨_, rfl, iteF ⟨by decide, fun p2 hp2 => q _ _ (sp.trans (same_upd hp2)) (st_of upd_same)⟩⟩
    | sq h c =>
      obtain ⟨U, hU, e⟩ := (h.same sp).ty
      refine ty_row hU upd_same ⟨_, rfl, ?_⟩
      rw [e]
      refine iteT ⟨_, rfl, ?_⟩
      rcases h with h | h
      · exact ⟨_, .inl ⟨sp.seq h, fun l hl => q _ _ (sp.trans (same_upd hl)) (st_of upd_same)⟩⟩
      · exact ⟨_, .inr ⟨same_tup sp h, q _ _ sp (same_tup sp h)⟩⟩
def spPP (K : PySem.W.Frag) (f : Int × Int → Int × Int → Int × Int) (ok : Int × Int → Int × Int → Prop) : Sp := fun vs H Q _ => ∃ v u a b, vs = [v, u] ∧ Pr K H v a ∧ Pr K H u b ∧ Sm 4000 a ∧ Sm 4000 b ∧ ok a b ∧ RetP K H (f a b) Q
def fAdd (a b : Int × Int) : Int × Int := low (a.1 * b.2 + b.1 * a.2) (a.2 * b.2)
def fSub (a b : Int × Int) : Int × Int := low (a.1 * b.2 - b.1 * a.2) (a.2 * b.2)
def fMul (a b : Int × Int) : Int × Int := low (a.1 * b.1) (a.2 * b.2)
def fDiv (a b : Int × Int) : Int × Int := low (a.1 * b.2) (a.2 * b.1)
def okU (a b : Int × Int) : Prop := a.2 ≠ 0 ∧ b.2 ≠ 0
def okD (a b : Int × Int) : Prop := a.2 ≠ 0 ∧ b.1 ≠ 0
theorem mul4 {i j : Int} (ha : i.natAbs < 2 ^ 4000) (hb : j.natAbs < 2 ^ 4000) : CMulW i j := wide_mul ha hb (by decide) (by decide) (by decide)
theorem mul8 {i j : Int} (ha : i.natAbs < 2 ^ 4000) (hb : j.natAbs < 2 ^ 4000) : (i * j).natAbs < 2 ^ 8000 := wide_lt ha hb
theorem ok_sum_of (T : Txt K mg A) : FnOk P w K mg base CX0 2 A.f_sum_of A.d_sum_of ["one", "other"] (spPP K fAdd okU) := by
  refine T.sum_of.F.ok sc_sum_of (fun vs H Q E h => ?_) (fun cdv A' outer s H vs Q E hr h => ?_)
  · obtain ⟨t, u, _, _, rfl, _⟩ := h; rfl
  · obtain ⟨v, u, a, b, rfl, ⟨p, rfl, hp⟩, ⟨r, rfl, hq⟩, ⟨a1, a2⟩, ⟨b1, b2⟩, ⟨h3, h4⟩, q⟩ := h
    refine ⟨_, (pss_one (ps_ret (pe_call (ok_lowest T) (hr.mono (by decide)) (by rfl) T.lowest.g T.lowest.F.kp T.lowest.b .nil pass0 (pa_cons (pe_op op_add (pe_op op_mulW (pe_ix ix_tup (pv 0) pe_int (fun _ _ => rfl)) (pe_ix ix_tup (pv 1) pe_int (fun _ _ => rfl))) (pe_op op_mulW (pe_ix ix_tup (pv 1) pe_int (fun _ _ => rfl)) (pe_ix ix_tup (pv 0) pe_int (fun _ _ => rfl)))) (pa_cons (pe_op op_mulW (pe_ix ix_tup (pv 0) pe_int (fun _ _ => rfl)) (pe_ix ix_tup (pv 1) pe_int (fun _ _ => rfl))) pa_nil))))), ?_⟩
    walk_at "vc"
    refine ixT hp rfl (ixT hq rfl ⟨_, rfl, _, rfl, mul4 a1 b2, ixT hq rfl (ixT hp rfl ⟨_, rfl, _, rfl, mul4 b1 a2, ixT hp rfl (ixT hq rfl ⟨_, rfl, _, rfl, mul4 a2 b2, ?_⟩)⟩)⟩)
    exact ⟨_, _, rfl, Int.mul_ne_zero h3 h4, mul8 a2 b2, q⟩
theorem ok_difference (T : Txt K mg A) : FnOk P w K mg base CX0 2 A.f_difference A.d_difference ["one", "other"] (spPP K fSub okU) := by
  refine T.difference.F.ok sc_difference (fun vs H Q E h => ?_) (fun cdv A' outer s H vs Q E hr h => ?_)
  · obtain ⟨t, u, _, _, rfl, _⟩ := h; rfl
  · obtain ⟨v, u, a, b, rfl, ⟨p, rfl, hp⟩, ⟨r, rfl, hq⟩, ⟨a1, a2⟩, ⟨b1, b2⟩, ⟨h3, h4⟩, q⟩ := h
    refine ⟨_, (pss_one (ps_ret (pe_call (ok_lowest T) (hr.mono (by decide)) (by rfl) T.lowest.g T.lowest.F.kp T.lowest.b .nil pass0 (pa_cons (pe_op op_sub (pe_op op_mulW (pe_ix ix_tup (pv 0) pe_int (fun _ _ => rfl)) (pe_ix ix_tup (pv 1) pe_int (fun _ _ => rfl))) (pe_op op_mulW (pe_ix ix_tup (pv 1) pe_int (fun _ _ => rfl)) (pe_ix ix_tup (pv 0) pe_int (fun _ _ => rfl)))) (pa_cons (pe_op op_mulW (pe_ix ix_tup (pv 0) pe_int (fun _ _ => rfl)) (pe_ix ix_tup (pv 1) pe_int (fun _ _ => rfl))) pa_nil))))), ?_⟩
    walk_at "vc"
    refine ixT hp rfl (ixT hq rfl ⟨_, rfl, _, rfl, mul4 a1 b2, ixT hq rfl (ixT hp rfl ⟨_, rfl, _, rfl, mul4 b1 a2, ixT hp rfl (ixT hq rfl ⟨_, rfl, _, rfl, mul4 a2 b2, ?_⟩)⟩)⟩)
    exact ⟨_, _, rfl, Int.mul_ne_zero h3 h4, mul8 a2 b2, q⟩
theorem ok_product_of (T : Txt K mg A) : FnOk P w K mg base CX0 2 A.f_product_of A.d_product_of ["one", "other"] (spPP K fMul okU) := by
  refine T.product_of.F.ok sc_product_of (fun vs H Q E h => ?_) (fun cdv A' outer s H vs Q E hr h => ?_)
  · obtain ⟨t, u, _, _, rfl, _⟩ := h; rfl
  · obtain ⟨v, u, a, b, rfl, ⟨p, rfl, hp⟩, ⟨r, rfl, hq⟩, ⟨a1, a2⟩, ⟨b1, b2⟩, ⟨h3, h4⟩, q⟩ := h
    refine ⟨_, (pss_one (ps_ret (pe_call (ok_lowest T) (hr.mono (by decide)) (by rfl) T.lowest.g T.lowest.F.kp T.lowest.b .nil pass0 (pa_cons (pe_op op_mulW (pe_ix ix_tup (pv 0) pe_int (fun _ _ => rfl)) (pe_ix ix_tup (pv 1) pe_int (fun _ _ => rfl))) (pa_cons (pe_op op_mulW (pe_ix ix_tup (pv 0) pe_int (fun _ _ => rfl)) (pe_ix ix_tup (pv 1) pe_int (fun _ _ => rfl))) pa_nil))))), ?_⟩
    walk_at "vc"
    refine ixT hp rfl (ixT hq rfl ⟨_, rfl, _, rfl, mul4 a1 b1, ixT hp rfl (ixT hq rfl ⟨_, rfl, _, rfl, mul4 a2 b2, ?_⟩)⟩)
    exact ⟨_, _, rfl, Int.mul_ne_zero h3 h4, mul8 a2 b2, q⟩
def spIsInteger (K : PySem.W.Frag) : Sp := fun vs H Q _ => ∃ v U, vs = [v] ∧ TyN K H v U ∧ RetV H (.bl (U == "int")) Q
theorem ok_is_integer (T : Txt K mg A) : FnOk P w K mg base CX0 1 A.f_is_integer A.d_is_integer ["value"] (spIsInteger K) := by
  refine T.is_integer.F.ok sc_is_integer (fun vs H Q E h => ?_) (fun cdv A' outer s H vs Q E hr h => ?_)
  · obtain ⟨_, _, rfl, _⟩ := h; rfl
  · obtain ⟨v, U, rfl, hv, q⟩ := h
    refine ⟨_, (pss_one (ps_ret (pe_and (pe_callB call_isi (by rfl) T.n_isinstance bt_isinstance (pa_cons (pv 0) (pa_cons (pe_bltn (v := .ty "int") (by rfl) T.n_int bt_int rfl) pa_nil))) (pe_one (pe_not (pe_callB call_isi (by rfl) T.n_isinstance bt_isinstance (pa_cons (pv 0) (pa_cons (pe_bltn (v := .ty "bool") (by rfl) T.n_bool bt_bool rfl) pa_nil)))))))), ?_⟩
    walk_at "vc"
    have q := q H (Same.refl H)
    refine ty_int hv ⟨_, rfl, ?_⟩
    cases e : (U == "int" || U == "bool") with
    | true =>
      refine iteT (ty_bool hv ⟨_, rfl, ?_⟩)
      rw [← is_int U hv, e] at q
      exact q
    | false =>
      refine iteF ?_
      rw [← is_int U hv, e] at q
      exact q
def spWithin (K : PySem.W.Frag) : Sp := fun vs H Q _ => ∃ v lo hi, vs = [v, optV lo, optV hi] ∧ ((∃ U, TyN K H v U ∧ U ≠ "int" ∧ RetV H (.bl false) Q) ∨ ∃ n, v = .int n ∧ RetV H (.bl (lo.all (fun l => decide (l ≤ n)) && hi.all (fun m => decide (n ≤ m)))) Q)
theorem ok_is_within (T : Txt K mg A) : FnOk P w K mg base CX0 2 A.f_is_within A.d_is_within ["value", "least", "most"] (spWithin K) := by
  refine T.is_within.F.ok sc_is_within (fun vs H Q E h => ?_) (fun cdv A' outer s H vs Q E hr h => ?_)
  · obtain ⟨_, _, _, rfl, _⟩ := h; rfl
  · obtain ⟨v, lo, hi, rfl, h⟩ := h
    refine ⟨_, (pss_cons (ps_if (pt_not (pt_val (pe_call (ok_is_integer T) (hr.mono (by decide)) (by rfl) T.is_integer.g T.is_integer.F.kp T.is_integer.b .nil pass0 (pa_cons (pv 0) pa_nil)))) (pss_one (ps_ret pe_bl)) pss_nil)
      (pss_cons (ps_if (PW.pt (pw_and (pt_cmpR op_notN (pv 1) pe_non (nomark _)) (pw_and1 (pt_cmpR op_lt (pv 0) (pv 1) (nomark _))))) (pss_one (ps_ret pe_bl)) pss_nil)
      (pss_one (ps_ret (pe_or (pe_cmpR op_isN (pv 2) pe_non (nomark _)) (pe_one (pe_cmpR op_le (pv 0) (pv 2) (nomark _)))))))), ?_⟩
    walk_at "vc"
    rcases h with ⟨U, hv, hU, q⟩ | ⟨n, rfl, q⟩
    · refine ⟨v, U, rfl, hv, fun H' sH => ⟨_, rfl, ?_⟩⟩
      rw [beq_false_of_ne hU]
      exact q H' sH
    · refine ⟨_, _, rfl, .int n, fun H' sH => ⟨_, rfl, ?_⟩⟩
      have q := q H' sH
      rw [if_neg (by decide)]
      cases lo with
      | none =>
        cases hi with
        | none => walk_at "vc"; exact q
        | some m => walk_at "vc"; simpa using q
      | some l =>
        by_cases hl : l ≤ n
        · cases hi with
          | none =>
            have hl' : ¬ n < l := by omega
            simp [hl, hl'] at q ⊢
            exact q
          | some m =>
            have hl' : ¬ n < l := by omega
            simp [hl, hl'] at q ⊢
            exact q
        · have hl' : n < l := by omega
          cases hi with
          | none =>
            simp [hl, hl'] at q ⊢
            exact q
          | some m =>
            simp [hl, hl'] at q ⊢
            exact q
def spIsRow (K : PySem.W.Frag) : Sp := fun vs H Q _ => ∃ v U, vs = [v] ∧ TyN K H v U ∧ RetV H (.bl (U == "list" || U == "tuple")) Q
theorem ok_is_row (T : Txt K mg A) : FnOk P w K mg base CX0 1 A.f_is_row A.d_is_row ["value"] (spIsRow K) := by
  refine T.is_row.F.ok sc_is_row (fun vs H Q E h => ?_) (fun cdv A' outer s H vs Q E hr h => ?_)
  · obtain ⟨_, _, rfl, _⟩ := h; rfl
  · obtain ⟨v, U, rfl, hv, q⟩ := h
    refine ⟨_, (pss_one (ps_ret (pe_callB call_isiT (by rfl) T.n_isinstance bt_isinstance (pa_cons (pv 0) (pa_cons (pe_tup (pa_cons (pe_bltn (v := .ty "list") (by rfl) T.n_list bt_list rfl) (pa_cons (pe_bltn (v := .ty "tuple") (by rfl) T.n_tuple bt_tuple rfl) pa_nil))) pa_nil))))), ?_⟩
    walk_at "vc"
    refine ⟨by decide, fun p hp => ?_⟩
    have sp := same_upd (o := .tup [.ty "list", .ty "tuple"]) hp
    exact ty_row (hv.same sp) upd_same (q _ sp)
/-- is_pair: a list or tuple of two | no list, no tuple | one of another length -/
def spIsPair (K : PySem.W.Frag) : Sp := fun vs H Q _ => ∃ v, vs = [v] ∧ ((∃ U, TyN K H v U ∧ U ≠ "list" ∧ U ≠ "tuple" ∧ RetV H (.bl false) Q) ∨ (∃ p xs, v = .ref p ∧ Sq K H p xs ∧ RetV H (.bl (decide (xs.length = 2))) Q))
theorem ok_is_pair (T : Txt K mg A) : FnOk P w K mg base CX0 2 A.f_is_pair A.d_is_pair ["value"] (spIsPair K) := by
  refine T.is_pair.F.ok sc_is_pair (fun vs H Q E h => ?_) (fun cdv A' outer s H vs Q E hr h => ?_)
  · obtain ⟨_, rfl, _⟩ := h; rfl
  · obtain ⟨v, rfl, h⟩ := h
    refine ⟨_, (pss_one (ps_ret (pe_and (pe_call (ok_is_row T) (hr.mono (by decide)) (by rfl) T.is_row.g T.is_row.F.kp T.is_row.b .nil pass0 (pa_cons (pv 0) pa_nil)) (pe_one (pe_cmpR op_eq (pe_callB call_len_seq (by rfl) T.n_len bt_len (pa_cons (pv 0) pa_nil)) pe_int (nomark _)))))), ?_⟩
    walk_at "vc"
    rcases h with ⟨U, hv, h1, h2, q⟩ | ⟨p, xs, rfl, hx, q⟩
    · refine ⟨v, U, rfl, hv, fun H' sH => ⟨_, rfl, ?_⟩⟩
      rw [beq_false_of_ne h1, beq_false_of_ne h2]
      exact iteF (q H' sH)
    · obtain ⟨U, hU, e⟩ := hx.ty
      refine ⟨_, U, rfl, hU, fun H' sH => ⟨_, rfl, ?_⟩⟩
      rw [e]
      refine iteT ?_
      walk_at "vc"
      have q := q H' sH
      have e2 : decide ((xs.length : Int) = 2) = decide (xs.length = 2) := by
        by_cases z : xs.length = 2
        · rw [decide_eq_true z, decide_eq_true (by omega)]
        · rw [decide_eq_false z, decide_eq_false (by omega)]
      refine ⟨xs, hx.same sH, rfl, ?_⟩
      rw [e2]
      exact q
def spIsNumber (K : PySem.W.Frag) : Sp := fun vs H Q _ => ∃ v, vs = [v] ∧ ((∃ q, Num K H v q ∧ RetV H (.bl true) Q) ∨ (Bad K H v ∧ RetV H (.bl false) Q))
theorem ok_is_number (T : Txt K mg A) : FnOk P w K mg base CX0 3 A.f_is_number A.d_is_number ["value"] (spIsNumber K) := by
  refine T.is_number.F.ok sc_is_number (fun vs H Q E h => ?_) (fun cdv A' outer s H vs Q E hr h => ?_)
  · obtain ⟨_, rfl, _⟩ := h; rfl
  · obtain ⟨v, rfl, h⟩ := h
    refine ⟨_, (pss_cons (ps_if (pt_not (pt_val (pe_call (ok_is_pair T) (hr.mono (by decide)) (by rfl) T.is_pair.g T.is_pair.F.kp T.is_pair.b .nil pass0 (pa_cons (pv 0) pa_nil)))) (pss_one (ps_ret (pe_call (ok_is_integer T) (hr.mono (by decide)) (by rfl) T.is_integer.g T.is_integer.F.kp T.is_integer.b .nil pass0 (pa_cons (pv 0) pa_nil)))) pss_nil)
      (pss_cons (ps_asg (pv 0) (pg_seq2 rfl (pgs_cons (pg_name (i := 1) sc_is_number.nd rfl (.inl rfl)) (pgs_cons (pg_name (i := 2) sc_is_number.nd rfl (.inl rfl)) pgs_nil))))
      (pss_one (ps_ret (pe_and (pe_call (ok_is_integer T) (hr.mono (by decide)) (by rfl) T.is_integer.g T.is_integer.F.kp T.is_integer.b .nil pass0 (pa_cons (pv 1) pa_nil)) (pe_and (pe_call (ok_is_within T) (hr.mono (by decide)) (by rfl) T.is_within.g T.is_within.F.kp T.is_within.b .nil pass0 (pa_cons (pv 2) (pa_cons pe_int (pa_cons pe_non pa_nil)))) (pe_one (pe_cmpR op_eq (pe_callBfun cr_gcd (by rfl) T.g_gcd (pa_cons (pv 1) (pa_cons (pv 2) pa_nil))) pe_int (nomark _))))))))), ?_⟩
    walk_at "vc"
    have ok : ∀ (p : Addr) (a b : Int) (c : Bool), (c = true ↔ Canon (a, b)) → RetV H (.bl c) Q → ∀ a' b' : Int, V.int a = .int a' → V.int b = .int b' → RetV H (.bl (decide (1 ≤ b') && decide (((Nat.gcd a'.natAbs b'.natAbs : Nat) : Int) = 1))) Q := fun p a b c hc q a' b' e1 e2 => by
      cases e1
      cases e2
      have : (decide (1 ≤ b) && decide (((Nat.gcd a.natAbs b.natAbs : Nat) : Int) = 1)) = c := by
        rw [Bool.eq_iff_iff, hc, Bool.and_eq_true, decide_eq_true_eq, decide_eq_true_eq]
        constructor
        · rintro ⟨z1, z2⟩; exact ⟨z1, by exact_mod_cast z2⟩
        · rintro ⟨z1, z2⟩; exact ⟨z1, by exact_mod_cast z2⟩
      rw [this]
      exact q
    have all : (∃ U : String, TyN K H v U ∧ U ≠ "list" ∧ U ≠ "tuple" ∧ RetV H (.bl (U == "int")) Q) ∨ (∃ p xs, v = .ref p ∧ Sq K H p xs ∧ xs.length ≠ 2 ∧ RetV H (.bl false) Q) ∨
        (∃ (p : Addr) (x y : V) (U W : String), v = .ref p ∧ Sq K H p [x, y] ∧ TyN K H x U ∧ TyN K H y W ∧
        (U ≠ "int" → RetV H (.bl false) Q) ∧ (∀ a : Int, x = .int a → W ≠ "int" → RetV H (.bl false) Q) ∧
        (∀ a b : Int, x = .int a → y = .int b → RetV H (.bl (decide (1 ≤ b) && decide (((Nat.gcd a.natAbs b.natAbs : Nat) : Int) = 1))) Q)) := by
      rcases h with ⟨q, hn, hq⟩ | ⟨hb, hq⟩
      · cases hn with
        | int n => exact .inl ⟨_, .int n, by decide, by decide, hq⟩
        | sq h c => exact .inr (.inr ⟨_, _, _, _, _, rfl, h, .int _, .int _, fun z => absurd rfl z, fun _ _ z => absurd rfl z, ok 0 _ _ true ⟨fun _ => c, fun _ => rfl⟩ hq⟩)
      · cases hb with
        | scal h h1 h2 h3 => exact .inl ⟨_, h, h2, h3, by rw [beq_false_of_ne h1]; exact hq⟩
        | len h l => exact .inr (.inl ⟨_, _, rfl, h, l, hq⟩)
        | top h hx hT hy => exact .inr (.inr ⟨_, _, _, _, _, rfl, h, hx, hy, fun _ => hq, fun a e _ => by subst e; cases hx; exact absurd rfl hT, fun a b e _ => by subst e; cases hx; exact absurd rfl hT⟩)
        | und h hy hU => exact .inr (.inr ⟨_, _, _, _, _, rfl, h, .int _, hy, fun z => absurd rfl z, fun _ _ _ => hq, fun a b _ e => by subst e; cases hy; exact absurd rfl hU⟩)
        | low h c => exact .inr (.inr ⟨_, _, _, _, _, rfl, h, .int _, .int _, fun z => absurd rfl z, fun _ _ z => absurd rfl z, ok 0 _ _ false ⟨fun z => Bool.noConfusion z, fun z => absurd z c⟩ hq⟩)
    rcases all with ⟨U, hU, h1, h2, q⟩ | ⟨p, xs, rfl, hx, l, q⟩ | ⟨p, x, y, U, W, rfl, hs, hx, hy, q1, q2, q3⟩
    · refine ⟨v, rfl, .inl ⟨U, hU, h1, h2, fun H1 s1 => ⟨_, rfl, ?_⟩⟩⟩
      exact iteN ⟨v, U, rfl, hU.same s1, q.same s1⟩
    · obtain ⟨U, hU, e⟩ := hx.ty
      have hi : (U == "int") = false := by cases hU <;> decide
      refine ⟨_, rfl, .inr ⟨p, xs, rfl, hx, fun H1 s1 => ⟨_, rfl, ?_⟩⟩⟩
      rw [decide_eq_false l]
      refine iteN ⟨_, U, rfl, hU.same s1, ?_⟩
      rw [hi]
      exact q.same s1
    · refine ⟨_, rfl, .inr ⟨p, [x, y], rfl, hs, fun H1 s1 => ⟨_, rfl, ?_⟩⟩⟩
      refine iteF' rfl ⟨p, rfl, _, hs.same s1, rfl, _, _, rfl, _, _, rfl, rfl, x, U, rfl, hx.same s1, fun H2 s2 => ⟨_, rfl, ?_⟩⟩
      by_cases hU : U = "int"
      · obtain ⟨a, rfl⟩ := hx.intI hU
        subst hU
        refine iteT ?_
        by_cases hW : W = "int"
        · obtain ⟨b, rfl⟩ := hy.intI hW
          subst hW
          refine ⟨_, some 1, none, rfl, .inr ⟨b, rfl, fun H3 s3 => ⟨_, rfl, ?_⟩⟩⟩
          have q := q3 a b rfl rfl H3 ((s1.trans s2).trans s3)
          by_cases hb : 1 ≤ b
          · simp only [Option.all_some, Option.all_none, hb, decide_true, Bool.and_true, Bool.true_and, if_true] at q ⊢
            exact ⟨a, rfl, b, rfl, rfl, q⟩
          · simp only [Option.all_some, Option.all_none, hb, decide_false, Bool.and_true, Bool.false_and, Bool.false_eq_true, if_false] at q ⊢
            exact q
        · exact ⟨_, some 1, none, rfl, .inl ⟨W, (hy.same s1).same s2, hW, fun H3 s3 => ⟨_, rfl, by rw [if_neg Bool.false_ne_true]; exact q2 a rfl hW H3 ((s1.trans s2).trans s3)⟩⟩⟩
      · rw [beq_false_of_ne hU]
        exact iteF (q1 hU H2 (s1.trans s2))
theorem canon_ne {a : Int × Int} (h : Canon a) : a.2 ≠ 0 := by have := h.1; omega
end
end Odd
namespace Odd
open PySem PySem.Spec PyProof.Rows L2
local macro_rules | `(tactic| walk_at "vc") => `(tactic| simp only [tSeq, tAsg, gName, tCB, tCons, tNil, tVar, tC, tOp, tUn, rI0, rI, rU, tTup, tLst, tIfS, tTest, tB, tRet, tNext, rGcd, L2.start, List.map, List.set, List.replicate, List.cons_append, List.nil_append, List.length_cons, List.length_nil, List.getElem?_cons_succ, List.getElem?_cons_zero, Option.some.injEq, exists_eq_left', exists_eq_left, List.append_nil, List.cons.injEq, V.int.injEq, exists_and_left, and_true, true_and, and_assoc, exists_const, V.bl.injEq, V.ref.injEq, Nat.sub_self, Nat.reduceAdd, Nat.reduceSub, List.replicate_succ, List.replicate_zero, tAnd, tOr, tNot, tAndV, tOrV, tNotV, tIf, tCall, tCallK, tDrop, rEq, rNe, decide_eq_true_eq, Bool.not_eq_true', decide_eq_false_iff_not, Bool.false_eq_true, if_true, if_false, reduceIte, reduceCtorEq, tMkLow, tRaiseLow, rIsB, rNotB, tBreak, tPar, gSub, rSetL, tChain, gTup, gCons, gNil, gSeq, cx_K, cx_Kn, optV, V.str.injEq, Bool.not_true, Bool.not_false, false_and, and_false, or_false, false_or, exists_false, tCallN, tCallS, tPairs])
section
variable {P : Program} {w : World} {K : PySem.W.Frag} {mg : Str → Option Value} {base : Heap} {A : Ads}

/-! ### points -/
abbrev P2 := (Int × Int) × (Int × Int)
/-- a value passed for a point -/
def Pt (K : PySem.W.Frag) (H : Hp) (v : V) (p : P2) : Prop := ∃ a x y, v = .ref a ∧ Sq K H a [x, y] ∧ Num K H x p.1 ∧ Num K H y p.2
/-- a point as it is returned -/
def PP (K : PySem.W.Frag) (H : Hp) (v : V) (p : P2) : Prop := ∃ a x y, v = .ref a ∧ SqT K H a [x, y] ∧ Pr K H x p.1 ∧ Pr K H y p.2
theorem Pt.same {K : PySem.W.Frag} {H H' : Hp} {v : V} {p : P2} (s : Same H H') (h : Pt K H v p) : Pt K H' v p := by
  obtain ⟨a, x, y, e, h, hx, hy⟩ := h
  exact ⟨a, x, y, e, h.same s, hx.same s, hy.same s⟩
theorem PP.same {K : PySem.W.Frag} {H H' : Hp} {v : V} {p : P2} (s : Same H H') (h : PP K H v p) : PP K H' v p := by
  obtain ⟨a, x, y, e, h, hx, hy⟩ := h
  exact ⟨a, x, y, e, same_tup s h, hx.same s, hy.same s⟩
/-- what is no point -/
inductive BadP (K : PySem.W.Frag) (H : Hp) : V → Prop
  | scal {v : V} {T : String} (h : TyN K H v T) (h2 : T ≠ "list") (h3 : T ≠ "tuple") : BadP K H v
  | len {p : Addr} {xs : List V} (h : Sq K H p xs) (l : xs.length ≠ 2) : BadP K H (.ref p)
  | fst {p : Addr} {x y : V} (h : Sq K H p [x, y]) (hx : Bad K H x) : BadP K H (.ref p)
  | snd {p : Addr} {x y : V} {a : Int × Int} (h : Sq K H p [x, y]) (hx : Num K H x a) (hy : Bad K H y) : BadP K H (.ref p)
theorem BadP.same {K : PySem.W.Frag} {H H' : Hp} {v : V} (s : Same H H') (h : BadP K H v) : BadP K H' v := by
  cases h with
  | scal h h2 h3 => exact .scal (h.same s) h2 h3
  | len h l => exact .len (h.same s) l
  | fst h hx => exact .fst (h.same s) (hx.same s)
  | snd h hx hy => exact .snd (h.same s) (hx.same s) (hy.same s)
def RetPP (K : PySem.W.Frag) (H : Hp) (p : P2) (Q : VK) : Prop := ∀ H' v, Same H H' → PP K H' v p → Q v H'
theorem RetPP.same {K : PySem.W.Frag} {H H' : Hp} {p : P2} {Q : VK} (s : Same H H') (h : RetPP K H p Q) : RetPP K H' p Q := fun H2 v s2 e => h H2 v (s.trans s2) e
/-- an item of a list or of a tuple -/
def rIxA (K : PySem.W.Frag) : R2 := fun x y H Q => ∃ p xs i v, x = .ref p ∧ y = .int i ∧ Sq K H p xs ∧ atI xs i = some v ∧ Q v H
theorem ix_any {X : Cx} : IxR X (rIxA X.K) := by
  intro vl sl pins s σ H x y v u Q I rx ry h hs
  obtain ⟨p, xs, i, z, e1, e2, hq, ha, q⟩ := h
  rcases hq with hq | hq
  · exact ix_list vl sl pins s σ H x y v u Q I rx ry ⟨p, xs, i, z, e1, e2, hq, ha, q⟩ hs
  · exact ix_tup vl sl pins s σ H x y v u Q I rx ry ⟨p, xs, i, z, e1, e2, hq, ha, q⟩ hs
theorem ixA {K : PySem.W.Frag} {H : Hp} {Q : VK} {p : Addr} {xs : List V} {v : V} {i : Int} (h : Sq K H p xs) (e : atI xs i = some v) (q : Q v H) : rIxA K (.ref p) (.int i) H Q := ⟨p, xs, i, v, rfl, rfl, h, e, q⟩
def CanonP (p : P2) : Prop := Canon p.1 ∧ Canon p.2
def SmP (N : Nat) (p : P2) : Prop := Sm N p.1 ∧ Sm N p.2
theorem Pt.canon {K : PySem.W.Frag} {H : Hp} {v : V} {p : P2} (h : Pt K H v p) : CanonP p := by
  obtain ⟨a, x, y, e, h, hx, hy⟩ := h
  exact ⟨hx.canon, hy.canon⟩
def fNeg (a : Int × Int) : Int × Int := (-a.1, a.2)
def vAdd (p q : P2) : P2 := (fAdd p.1 q.1, fAdd p.2 q.2)
def vSub (p q : P2) : P2 := (fSub p.1 q.1, fSub p.2 q.2)
def vMul (p : P2) (s : Int × Int) : P2 := (fMul p.1 s, fMul p.2 s)
def vTurn (p : P2) : P2 := (fNeg p.2, p.1)
def vCross (p q : P2) : Int × Int := fSub (fMul p.1 q.2) (fMul p.2 q.1)
def vDot (p q : P2) : Int × Int := fAdd (fMul p.1 q.1) (fMul p.2 q.2)
def spIsPoint (K : PySem.W.Frag) : Sp := fun vs H Q _ => ∃ v, vs = [v] ∧ ((∃ p, Pt K H v p ∧ RetV H (.bl true) Q) ∨ (BadP K H v ∧ RetV H (.bl false) Q))
theorem ok_is_point (T : Txt K mg A) : FnOk P w K mg base CX0 4 A.f_is_point A.d_is_point ["value"] (spIsPoint K) := by
  refine T.is_point.F.ok sc_is_point (fun vs H Q E h => ?_) (fun cdv A' outer s H vs Q E hr h => ?_)
  · obtain ⟨_, rfl, _⟩ := h; rfl
  · obtain ⟨v, rfl, h⟩ := h
    refine ⟨_, (pss_one (ps_ret (pe_and (pe_call (ok_is_pair T) (hr.mono (by decide)) (by rfl) T.is_pair.g T.is_pair.F.kp T.is_pair.b .nil pass0 (pa_cons (pv 0) pa_nil)) (pe_and (pe_call (ok_is_number T) (hr.mono (by decide)) (by rfl) T.is_number.g T.is_number.F.kp T.is_number.b .nil pass0 (pa_cons (pe_ix ix_any (pv 0) pe_int (fun _ _ => rfl)) pa_nil)) (pe_one (pe_call (ok_is_number T) (hr.mono (by decide)) (by rfl) T.is_number.g T.is_number.F.kp T.is_number.b .nil pass0 (pa_cons (pe_ix ix_any (pv 0) pe_int (fun _ _ => rfl)) pa_nil))))))), ?_⟩
    walk_at "vc"
    have all : (∃ U : String, TyN K H v U ∧ U ≠ "list" ∧ U ≠ "tuple" ∧ RetV H (.bl false) Q) ∨ (∃ p xs, v = .ref p ∧ Sq K H p xs ∧ xs.length ≠ 2 ∧ RetV H (.bl false) Q) ∨
        (∃ (p : Addr) (x y : V), v = .ref p ∧ Sq K H p [x, y] ∧ ((Bad K H x ∧ RetV H (.bl false) Q) ∨ (∃ a, Num K H x a ∧ ((Bad K H y ∧ RetV H (.bl false) Q) ∨ (∃ b, Num K H y b ∧ RetV H (.bl true) Q))))) := by
      rcases h with ⟨p, ⟨a, x, y, e, hs, hx, hy⟩, q⟩ | ⟨hb, q⟩
      · exact .inr (.inr ⟨a, x, y, e, hs, .inr ⟨_, hx, .inr ⟨_, hy, q⟩⟩⟩)
      · cases hb with
        | scal h h2 h3 => exact .inl ⟨_, h, h2, h3, q⟩
        | len h l => exact .inr (.inl ⟨_, _, rfl, h, l, q⟩)
        | fst h hx => exact .inr (.inr ⟨_, _, _, rfl, h, .inl ⟨hx, q⟩⟩)
        | snd h hx hy => exact .inr (.inr ⟨_, _, _, rfl, h, .inr ⟨_, hx, .inl ⟨hy, q⟩⟩⟩)
    rcases all with ⟨U, hU, h1, h2, q⟩ | ⟨p, xs, rfl, hx, l, q⟩ | ⟨p, x, y, rfl, hs, h⟩
    · refine ⟨v, rfl, .inl ⟨U, hU, h1, h2, fun H1 s1 => ⟨_, rfl, ?_⟩⟩⟩
      exact iteF (q H1 s1)
    · refine ⟨_, rfl, .inr ⟨p, xs, rfl, hx, fun H1 s1 => ⟨_, rfl, ?_⟩⟩⟩
      rw [decide_eq_false l]
      exact iteF (q H1 s1)
    · refine ⟨_, rfl, .inr ⟨p, _, rfl, hs, fun H1 s1 => ⟨_, rfl, ?_⟩⟩⟩
      refine iteT (ixA (hs.same s1) rfl ?_)
      rcases h with ⟨hx, q⟩ | ⟨a, hx, h⟩
      · exact ⟨x, rfl, .inr ⟨hx.same s1, fun H2 s2 => ⟨_, rfl, iteF (q H2 (s1.trans s2))⟩⟩⟩
      · refine ⟨x, rfl, .inl ⟨a, hx.same s1, fun H2 s2 => ⟨_, rfl, iteT (ixA (hs.same (s1.trans s2)) rfl ?_)⟩⟩⟩
        rcases h with ⟨hy, q⟩ | ⟨b, hy, q⟩
        · exact ⟨y, rfl, .inr ⟨hy.same (s1.trans s2), q.same (s1.trans s2)⟩⟩
        · exact ⟨y, rfl, .inl ⟨b, hy.same (s1.trans s2), q.same (s1.trans s2)⟩⟩
def spPointOf (K : PySem.W.Frag) : Sp := fun vs H Q _ => ∃ v p, vs = [v] ∧ Pt K H v p ∧ RetPP K H p Q
theorem ok_point_of (T : Txt K mg A) : FnOk P w K mg base CX0 2 A.f_point_of A.d_point_of ["value"] (spPointOf K) := by
  refine T.point_of.F.ok sc_point_of (fun vs H Q E h => ?_) (fun cdv A' outer s H vs Q E hr h => ?_)
  · obtain ⟨_, _, rfl, _⟩ := h; rfl
  · obtain ⟨v, ⟨a, b⟩, rfl, ⟨p, x, y, rfl, hs, hx, hy⟩, q⟩ := h
    refine ⟨_, (pss_one (ps_ret (pe_tup (pa_cons (pe_call (ok_pair_of T) (hr.mono (by decide)) (by rfl) T.pair_of.g T.pair_of.F.kp T.pair_of.b .nil pass0 (pa_cons (pe_ix ix_any (pv 0) pe_int (fun _ _ => rfl)) pa_nil)) (pa_cons (pe_call (ok_pair_of T) (hr.mono (by decide)) (by rfl) T.pair_of.g T.pair_of.F.kp T.pair_of.b .nil pass0 (pa_cons (pe_ix ix_any (pv 0) pe_int (fun _ _ => rfl)) pa_nil)) pa_nil))))), ?_⟩
    walk_at "vc"
    refine ixA hs rfl ⟨x, a, rfl, hx, fun H1 r1 s1 t1 => ?_⟩
    refine ixA (hs.same s1) rfl ⟨y, b, rfl, hy.same s1, fun H2 r2 s2 t2 => ⟨by decide, fun r hr => ?_⟩⟩
    have s3 := same_upd (o := .tup [.ref r1, .ref r2]) hr
    exact q _ _ ((s1.trans s2).trans s3) ⟨r, _, _, rfl, st_of upd_same, ⟨r1, rfl, same_tup (s2.trans s3) t1⟩, ⟨r2, rfl, same_tup s3 t2⟩⟩


theorem fSub_canon {a b : Int × Int} (ca : Canon a) (cb : Canon b) : Canon (fSub a b) := (low_is (Int.mul_ne_zero (canon_ne ca) (canon_ne cb))).1.1
theorem fAdd_canon {a b : Int × Int} (ca : Canon a) (cb : Canon b) : Canon (fAdd a b) := (low_is (Int.mul_ne_zero (canon_ne ca) (canon_ne cb))).1.1
theorem fMul_canon {a b : Int × Int} (ca : Canon a) (cb : Canon b) : Canon (fMul a b) := (low_is (Int.mul_ne_zero (canon_ne ca) (canon_ne cb))).1.1
theorem fNeg_canon {a : Int × Int} (ca : Canon a) : Canon (fNeg a) := ⟨ca.1, by show Nat.gcd (-a.1).natAbs a.2.natAbs = 1; rw [Int.natAbs_neg]; exact ca.2⟩
theorem pow_le {n m : Nat} (h : n ≤ m) : (2 : Nat) ^ n ≤ 2 ^ m := Nat.pow_le_pow_right (by decide) h
theorem Sm.up {n m : Nat} {q : Int × Int} (h : n ≤ m) (s : Sm n q) : Sm m q := ⟨Nat.lt_of_lt_of_le s.1 (pow_le h), Nat.lt_of_lt_of_le s.2 (pow_le h)⟩
theorem SmP.up {n m : Nat} {q : P2} (h : n ≤ m) (s : SmP n q) : SmP m q := ⟨s.1.up h, s.2.up h⟩
theorem two_pow (n : Nat) : (2 : Nat) ^ n + 2 ^ n = 2 ^ (n + 1) := by rw [Nat.pow_succ]; omega
theorem fMul_sm {n : Nat} {a b : Int × Int} (ca : Canon a) (cb : Canon b) (sa : Sm n a) (sb : Sm n b) : Sm (n + n) (fMul a b) := by
  obtain ⟨_, h2, h3⟩ := low_is (t := a.1 * b.1) (Int.mul_ne_zero (canon_ne ca) (canon_ne cb))
  exact ⟨Nat.lt_of_le_of_lt h2 (wide_lt sa.1 sb.1), Nat.lt_of_le_of_lt h3 (wide_lt sa.2 sb.2)⟩
theorem fSub_sm {n : Nat} {a b : Int × Int} (ca : Canon a) (cb : Canon b) (sa : Sm n a) (sb : Sm n b) : Sm (n + n + 1) (fSub a b) := by
  obtain ⟨_, h2, h3⟩ := low_is (t := a.1 * b.2 - b.1 * a.2) (Int.mul_ne_zero (canon_ne ca) (canon_ne cb))
  have m1 := wide_lt sa.1 sb.2
  have m2 := wide_lt sb.1 sa.2
  have e := two_pow (n + n)
  exact ⟨Nat.lt_of_le_of_lt h2 (by omega), Nat.lt_of_le_of_lt h3 (Nat.lt_of_lt_of_le (wide_lt sa.2 sb.2) (pow_le (by omega)))⟩
theorem fAdd_sm {n : Nat} {a b : Int × Int} (ca : Canon a) (cb : Canon b) (sa : Sm n a) (sb : Sm n b) : Sm (n + n + 1) (fAdd a b) := by
  obtain ⟨_, h2, h3⟩ := low_is (t := a.1 * b.2 + b.1 * a.2) (Int.mul_ne_zero (canon_ne ca) (canon_ne cb))
  have m1 := wide_lt sa.1 sb.2
  have m2 := wide_lt sb.1 sa.2
  have e := two_pow (n + n)
  exact ⟨Nat.lt_of_le_of_lt h2 (by omega), Nat.lt_of_le_of_lt h3 (Nat.lt_of_lt_of_le (wide_lt sa.2 sb.2) (pow_le (by omega)))⟩
theorem vSub_canon {p q : P2} (cp : CanonP p) (cq : CanonP q) : CanonP (vSub p q) := ⟨fSub_canon cp.1 cq.1, fSub_canon cp.2 cq.2⟩
theorem vMul_canon {p : P2} {s : Int × Int} (cp : CanonP p) (cs : Canon s) : CanonP (vMul p s) := ⟨fMul_canon cp.1 cs, fMul_canon cp.2 cs⟩
theorem vSub_sm {n : Nat} {p q : P2} (cp : CanonP p) (cq : CanonP q) (sp : SmP n p) (sq : SmP n q) : SmP (n + n + 1) (vSub p q) := ⟨fSub_sm cp.1 cq.1 sp.1 sq.1, fSub_sm cp.2 cq.2 sp.2 sq.2⟩
theorem vMul_sm {n : Nat} {p : P2} {s : Int × Int} (cp : CanonP p) (cs : Canon s) (sp : SmP n p) (ss : Sm n s) : SmP (n + n) (vMul p s) := ⟨fMul_sm cp.1 cs sp.1 ss, fMul_sm cp.2 cs sp.2 ss⟩
/-- a new point of two numbers -/
theorem pp_new {H : Hp} {r : Addr} {x y : V} {p : P2} (hr : H r = none) (hx : Pr K H x p.1) (hy : Pr K H y p.2) : PP K (upd H r (.tup [x, y])) (.ref r) p :=
  ⟨r, x, y, rfl, st_of upd_same, hx.same (same_upd hr), hy.same (same_upd hr)⟩
def spVV (K : PySem.W.Frag) (f : P2 → P2 → P2) : Sp := fun vs H Q _ => ∃ v u p q, vs = [v, u] ∧ PP K H v p ∧ PP K H u q ∧ CanonP p ∧ CanonP q ∧ SmP 4000 p ∧ SmP 4000 q ∧ RetPP K H (f p q) Q

theorem ok_way_between (T : Txt K mg A) : FnOk P w K mg base CX0 3 A.f_way_between A.d_way_between ["start", "end"] (spVV K (fun p q => vSub q p)) := by
  refine T.way_between.F.ok sc_way_between (fun vs H Q E h => ?_) (fun cdv A' outer s H vs Q E hr h => ?_)
  · obtain ⟨_, _, _, _, rfl, _⟩ := h; rfl
  · obtain ⟨v, u, p, q, rfl, ⟨a, x, y, rfl, ha, hx, hy⟩, ⟨b, z, t, rfl, hb, hz, ht⟩, cp, cq, sp, sq, ret⟩ := h
    refine ⟨_, (pss_one (ps_ret (pe_tup (pa_cons (pe_call (ok_difference T) (hr.mono (by decide)) (by rfl) T.difference.g T.difference.F.kp T.difference.b .nil pass0 (pa_cons (pe_ix ix_tup (pv 1) pe_int (fun _ _ => rfl)) (pa_cons (pe_ix ix_tup (pv 0) pe_int (fun _ _ => rfl)) pa_nil))) (pa_cons (pe_call (ok_difference T) (hr.mono (by decide)) (by rfl) T.difference.g T.difference.F.kp T.difference.b .nil pass0 (pa_cons (pe_ix ix_tup (pv 1) pe_int (fun _ _ => rfl)) (pa_cons (pe_ix ix_tup (pv 0) pe_int (fun _ _ => rfl)) pa_nil))) pa_nil))))), ?_⟩
    walk_at "vc"
    refine ixT hb rfl (ixT ha rfl ⟨z, x, _, _, rfl, hz, hx, sq.1, sp.1, ⟨canon_ne cq.1, canon_ne cp.1⟩, fun H1 r1 s1 t1 => ?_⟩)
    refine ixT (same_tup s1 hb) rfl (ixT (same_tup s1 ha) rfl ⟨t, y, _, _, rfl, ht.same s1, hy.same s1, sq.2, sp.2, ⟨canon_ne cq.2, canon_ne cp.2⟩, fun H2 r2 s2 t2 => ⟨by decide, fun r hr => ?_⟩⟩)
    exact ret _ _ ((s1.trans s2).trans (same_upd hr)) (pp_new hr ⟨r1, rfl, same_tup s2 t1⟩ ⟨r2, rfl, t2⟩)
def spVN (K : PySem.W.Frag) (f : P2 → P2 → Int × Int) : Sp := fun vs H Q _ => ∃ v u p q, vs = [v, u] ∧ PP K H v p ∧ PP K H u q ∧ CanonP p ∧ CanonP q ∧ SmP 2000 p ∧ SmP 2000 q ∧ RetP K H (f p q) Q
theorem ok_cross_of (T : Txt K mg A) : FnOk P w K mg base CX0 3 A.f_cross_of A.d_cross_of ["one", "other"] (spVN K vCross) := by
  refine T.cross_of.F.ok sc_cross_of (fun vs H Q E h => ?_) (fun cdv A' outer s H vs Q E hr h => ?_)
  · obtain ⟨_, _, _, _, rfl, _⟩ := h; rfl
  · obtain ⟨v, u, p, q, rfl, ⟨a, x, y, rfl, ha, hx, hy⟩, ⟨b, z, t, rfl, hb, hz, ht⟩, cp, cq, sp, sq, ret⟩ := h
    have sp4 := sp.up (m := 4000) (by decide)
    have sq4 := sq.up (m := 4000) (by decide)
    refine ⟨_, (pss_one (ps_ret (pe_call (ok_difference T) (hr.mono (by decide)) (by rfl) T.difference.g T.difference.F.kp T.difference.b .nil pass0 (pa_cons (pe_call (ok_product_of T) (hr.mono (by decide)) (by rfl) T.product_of.g T.product_of.F.kp T.product_of.b .nil pass0 (pa_cons (pe_ix ix_tup (pv 0) pe_int (fun _ _ => rfl)) (pa_cons (pe_ix ix_tup (pv 1) pe_int (fun _ _ => rfl)) pa_nil))) (pa_cons (pe_call (ok_product_of T) (hr.mono (by decide)) (by rfl) T.product_of.g T.product_of.F.kp T.product_of.b .nil pass0 (pa_cons (pe_ix ix_tup (pv 0) pe_int (fun _ _ => rfl)) (pa_cons (pe_ix ix_tup (pv 1) pe_int (fun _ _ => rfl)) pa_nil))) pa_nil))))), ?_⟩
    walk_at "vc"
    refine ixT ha rfl (ixT hb rfl ⟨x, t, _, _, rfl, hx, ht, sp4.1, sq4.2, ⟨canon_ne cp.1, canon_ne cq.2⟩, fun H1 r1 s1 t1 => ?_⟩)
    refine ixT (same_tup s1 ha) rfl (ixT (same_tup s1 hb) rfl ⟨y, z, _, _, rfl, hy.same s1, hz.same s1, sp4.2, sq4.1, ⟨canon_ne cp.2, canon_ne cq.1⟩, fun H2 r2 s2 t2 => ?_⟩)
    exact ⟨_, _, _, _, rfl, ⟨r1, rfl, same_tup s2 t1⟩, ⟨r2, rfl, t2⟩, fMul_sm cp.1 cq.2 sp.1 sq.2, fMul_sm cp.2 cq.1 sp.2 sq.1, ⟨canon_ne (fMul_canon cp.1 cq.2), canon_ne (fMul_canon cp.2 cq.1)⟩, ret.same (s1.trans s2)⟩
theorem ok_dot_of (T : Txt K mg A) : FnOk P w K mg base CX0 3 A.f_dot_of A.d_dot_of ["one", "other"] (spVN K vDot) := by
  refine T.dot_of.F.ok sc_dot_of (fun vs H Q E h => ?_) (fun cdv A' outer s H vs Q E hr h => ?_)
  · obtain ⟨_, _, _, _, rfl, _⟩ := h; rfl
  · obtain ⟨v, u, p, q, rfl, ⟨a, x, y, rfl, ha, hx, hy⟩, ⟨b, z, t, rfl, hb, hz, ht⟩, cp, cq, sp, sq, ret⟩ := h
    have sp4 := sp.up (m := 4000) (by decide)
    have sq4 := sq.up (m := 4000) (by decide)
    refine ⟨_, (pss_one (ps_ret (pe_call (ok_sum_of T) (hr.mono (by decide)) (by rfl) T.sum_of.g T.sum_of.F.kp T.sum_of.b .nil pass0 (pa_cons (pe_call (ok_product_of T) (hr.mono (by decide)) (by rfl) T.product_of.g T.product_of.F.kp T.product_of.b .nil pass0 (pa_cons (pe_ix ix_tup (pv 0) pe_int (fun _ _ => rfl)) (pa_cons (pe_ix ix_tup (pv 1) pe_int (fun _ _ => rfl)) pa_nil))) (pa_cons (pe_call (ok_product_of T) (hr.mono (by decide)) (by rfl) T.product_of.g T.product_of.F.kp T.product_of.b .nil pass0 (pa_cons (pe_ix ix_tup (pv 0) pe_int (fun _ _ => rfl)) (pa_cons (pe_ix ix_tup (pv 1) pe_int (fun _ _ => rfl)) pa_nil))) pa_nil))))), ?_⟩
    walk_at "vc"
    refine ixT ha rfl (ixT hb rfl ⟨x, z, _, _, rfl, hx, hz, sp4.1, sq4.1, ⟨canon_ne cp.1, canon_ne cq.1⟩, fun H1 r1 s1 t1 => ?_⟩)
    refine ixT (same_tup s1 ha) rfl (ixT (same_tup s1 hb) rfl ⟨y, t, _, _, rfl, hy.same s1, ht.same s1, sp4.2, sq4.2, ⟨canon_ne cp.2, canon_ne cq.2⟩, fun H2 r2 s2 t2 => ?_⟩)
    exact ⟨_, _, _, _, rfl, ⟨r1, rfl, same_tup s2 t1⟩, ⟨r2, rfl, t2⟩, fMul_sm cp.1 cq.1 sp.1 sq.1, fMul_sm cp.2 cq.2 sp.2 sq.2, ⟨canon_ne (fMul_canon cp.1 cq.1), canon_ne (fMul_canon cp.2 cq.2)⟩, ret.same (s1.trans s2)⟩


/-- what is walked is a list or a tuple -/
def iAny (K : PySem.W.Frag) (tl : TE) : TI := fun σ H R => tl σ H fun x H1 => ∃ a, x = .ref a ∧ (((∃ xs, SqL K H1 a xs) ∧ R (Itl K a) H1) ∨ ((∃ xs, SqT K H1 a xs) ∧ R (Itt K a) H1))
theorem pi_any {X : Cx} {tg l : Expr} {v : Nat} (hl : PE X l (tVar v)) : PI X tg l (iAny X.K (tVar v)) := by
  refine ⟨fun pins s σ H R I h => ?_⟩
  obtain ⟨x, hx, a, rfl, h⟩ := h
  rcases h with ⟨hs, q⟩ | ⟨hs, q⟩
  · exact (pi_list (tg := tg) hl).run pins s σ H R I ⟨_, hx, a, rfl, hs, q⟩
  · exact (pi_tup (tg := tg) hl).run pins s σ H R I ⟨_, hx, a, rfl, hs, q⟩
/-- each value is a point or none, as the truths tell -/
inductive Judg (K : PySem.W.Frag) (H : Hp) : List V → List Bool → Prop
  | nil : Judg K H [] []
  | yes {v : V} {vs : List V} {bs : List Bool} {p : P2} (h : Pt K H v p) (t : Judg K H vs bs) : Judg K H (v :: vs) (true :: bs)
  | no {v : V} {vs : List V} {bs : List Bool} (h : BadP K H v) (t : Judg K H vs bs) : Judg K H (v :: vs) (false :: bs)
theorem Judg.at {K : PySem.W.Frag} {H : Hp} {vs : List V} {bs : List Bool} (j : Judg K H vs bs) : ∀ {i : Nat} {x : V}, vs[i]? = some x → ∃ b, bs[i]? = some b ∧ ((b = true ∧ ∃ p, Pt K H x p) ∨ (b = false ∧ BadP K H x)) := by
  induction j with
  | nil => intro i x h; simp at h
  | @yes v vs bs p h t ih =>
    intro i x e
    cases i with
    | zero =>
      obtain rfl := Option.some.inj e
      exact ⟨true, rfl, .inl ⟨rfl, p, h⟩⟩
    | succ i => exact ih (i := i) e
  | @no v vs bs h t ih =>
    intro i x e
    cases i with
    | zero =>
      obtain rfl := Option.some.inj e
      exact ⟨false, rfl, .inr ⟨rfl, h⟩⟩
    | succ i => exact ih (i := i) e
theorem Judg.len {K : PySem.W.Frag} {H : Hp} : ∀ {vs : List V} {bs : List Bool}, Judg K H vs bs → bs.length = vs.length
  | _, _, .nil => rfl
  | _, _, .yes h t => congrArg Nat.succ t.len
  | _, _, .no h t => congrArg Nat.succ t.len
def spArePoints (K : PySem.W.Frag) : Sp := fun vs H Q _ => ∃ v lo hi, vs = [v, .int lo, .int hi] ∧
  ((∃ U, TyN K H v U ∧ U ≠ "list" ∧ U ≠ "tuple" ∧ RetV H (.bl false) Q) ∨
   (∃ p xs, v = .ref p ∧ Sq K H p xs ∧ ¬ (lo ≤ xs.length ∧ (xs.length : Int) ≤ hi) ∧ RetV H (.bl false) Q) ∨
   (∃ p xs bs, v = .ref p ∧ Sq K H p xs ∧ (lo ≤ xs.length ∧ (xs.length : Int) ≤ hi) ∧ xs.length ≤ 1000 ∧ Judg K H xs bs ∧ RetV H (.bl (bs.all id)) Q))
theorem ok_are_points (T : Txt K mg A) : FnOk P w K mg base CX0 5 A.f_are_points A.d_are_points ["value", "least", "most"] (spArePoints K) := by
  refine T.are_points.F.ok sc_are_points (fun vs H Q E h => ?_) (fun cdv A' outer s H vs Q E hr h => ?_)
  · obtain ⟨_, _, _, rfl, _⟩ := h; rfl
  · obtain ⟨v, lo, hi, rfl, h⟩ := h
    refine ⟨_, (pss_cons (ps_if (PW.pt (pw_or (pt_not (pt_val (pe_call (ok_is_row T) (hr.mono (by decide)) (by rfl) T.is_row.g T.is_row.F.kp T.is_row.b .nil pass0 (pa_cons (pv 0) pa_nil)))) (pw_or1 (pt_not (pt_val (pe_call (ok_is_within T) (hr.mono (by decide)) (by rfl) T.is_within.g T.is_within.F.kp T.is_within.b .nil pass0 (pa_cons (pe_callB call_len_seq (by rfl) T.n_len bt_len (pa_cons (pv 0) pa_nil)) (pa_cons (pv 1) (pa_cons (pv 2) pa_nil))))))))) (pss_one (ps_ret pe_bl)) pss_nil)
      (pss_one (ps_ret (pe_callB (cr_all rfl) (by rfl) T.n_all bt_all (pa_cons (pe_lc (own := [("item", 3)]) (g := gName 3) (tt := tYes) rfl sc_are_points.nd (pi_any (pv 0)) (blkOk_by (N := ["value", "least", "most", "item"]) (sc := defScope s_are_points) (by decide +kernel)) (fun _ _ _ _ _ => pg_name (i := 3) sc_are_points.nd rfl (Or.inl rfl)) (fun _ _ _ _ _ => pts_nil) (fun _ _ _ _ _ => pe_call (ok_is_point T) (hr.mono (by decide)) (by rfl) T.is_point.g T.is_point.F.kp T.is_point.b .nil pass0 (pa_cons (pv 3) pa_nil))) pa_nil))))), ?_⟩
    refine seq_by fun N hN => ?_
    walk_at "vc"
    rcases h with ⟨U, hU, h1, h2, q⟩ | ⟨p, xs, rfl, hx, hl, q⟩ | ⟨p, xs, bs, rfl, hx, hl, hm, hj, q⟩
    · refine ⟨v, U, rfl, hU, fun H1 s1 => ⟨_, rfl, ?_⟩⟩
      rw [beq_false_of_ne h1, beq_false_of_ne h2]
      exact iteN (q H1 s1)
    · obtain ⟨U, hU, e⟩ := hx.ty
      refine ⟨_, U, rfl, hU, fun H1 s1 => ⟨_, rfl, ?_⟩⟩
      rw [e]
      refine iteF' rfl ⟨p, rfl, xs, hx.same s1, _, some lo, some hi, rfl, .inr ⟨_, rfl, fun H2 s2 => ⟨_, rfl, ?_⟩⟩⟩
      have eb : ((some lo).all (fun l => decide (l ≤ (xs.length : Int))) && (some hi).all (fun m => decide ((xs.length : Int) ≤ m))) = false := by
        rw [Option.all_some, Option.all_some, ← Bool.decide_and]
        exact decide_eq_false hl
      rw [eb]
      exact iteN (q H2 (s1.trans s2))
    · obtain ⟨U, hU, e⟩ := hx.ty
      refine ⟨_, U, rfl, hU, fun H1 s1 => ⟨_, rfl, ?_⟩⟩
      rw [e]
      refine iteF' rfl ⟨p, rfl, xs, hx.same s1, _, some lo, some hi, rfl, .inr ⟨_, rfl, fun H2 s2 => ⟨_, rfl, ?_⟩⟩⟩
      have eb : ((some lo).all (fun l => decide (l ≤ (xs.length : Int))) && (some hi).all (fun m => decide ((xs.length : Int) ≤ m))) = true := by
        rw [Option.all_some, Option.all_some, ← Bool.decide_and]
        exact decide_eq_true hl
      rw [eb]
      refine iteF' rfl ?_
      have s02 := s1.trans s2
      subst hN
      have hlen := hj.len
      -- the truths, one by one
      have key : ∀ D : Addr, H2 D = none → ∀ i x H3, xs[i]? = some x → (Same H2 H3 ∧ H3 D = some (.lst ((bs.take i).map V.bl))) →
          gName 3 x (wipe [some (.ref p), some (.int lo), some (.int hi), none] [3]) H3 fun σ2 H4 => wipe σ2 [3] = wipe [some (.ref p), some (.int lo), some (.int hi), none] [3] ∧ tYes σ2 H4 fun b H5 =>
            if b = true then tCall (spIsPoint K) [] E0 (tCons (tVar 3) tNil) σ2 H5 fun y H6 => ∃ acc, H6 D = some (.lst acc) ∧ acc.length < sizeLine ∧ (fun i H => Same H2 H ∧ H D = some (.lst ((bs.take i).map V.bl))) (i + 1) (upd H6 D (.lst (acc ++ [y]))) else (fun i H => Same H2 H ∧ H D = some (.lst ((bs.take i).map V.bl))) (i + 1) H5 := by
        rintro D hD i x H3 hx ⟨s3, e3⟩
        obtain ⟨b, hb, hbx⟩ := hj.at hx
        refine ⟨rfl, ?_⟩
        simp only [tYes, if_true]
        have st := s02.trans s3
        have fin : ∀ H6, Same H3 H6 → ∃ acc, H6 D = some (.lst acc) ∧ acc.length < sizeLine ∧ Same H2 (upd H6 D (.lst (acc ++ [.bl b]))) ∧ upd H6 D (.lst (acc ++ [.bl b])) D = some (.lst ((bs.take (i + 1)).map V.bl)) := by
          intro H6 s6
          refine ⟨_, s6 _ _ e3, ?_, fun c o ec => ?_, ?_⟩
          · rw [List.length_map, List.length_take]
            exact small1000 (by omega)
          · rw [upd_ne (ne_of_none ec hD)]
            exact s6 _ _ (s3 _ _ ec)
          · rw [upd_same, List.take_add_one, hb, List.map_append]
            rfl
        rcases hbx with ⟨rfl, pt, hp⟩ | ⟨rfl, hp⟩
        · exact ⟨x, rfl, x, rfl, .inl ⟨pt, hp.same st, fun H6 s6 => fin H6 s6⟩⟩
        · exact ⟨x, rfl, x, rfl, .inr ⟨hp.same st, fun H6 s6 => fin H6 s6⟩⟩
      have last : ∀ D H', H2 D = none → (Same H2 H' ∧ H' D = some (.lst ((bs.take xs.length).map V.bl))) → ∃ (a : Addr) (bs' : List Bool), [V.ref D] = [V.ref a] ∧ SqL K H' a (bs'.map V.bl) ∧ Q (.bl (bs'.all id)) H' := by
        rintro D H' hD ⟨s3, e3⟩
        rw [← hlen, List.take_length] at e3
        exact ⟨D, bs, rfl, sl_of e3, q H' (s02.trans s3)⟩
      refine ⟨_, rfl, p, rfl, ?_⟩
      rcases hx.same s02 with hs | hs
      · refine .inl ⟨⟨_, hs⟩, fun D hD => ?_⟩
        exact lc_list (xs := xs) (fun i H3 => Same H2 H3 ∧ H3 D = some (.lst ((bs.take i).map V.bl))) ⟨same_upd hD, upd_same⟩ (fun i H3 _ h => h.1.seq hs) (key D hD) (fun H' h => last D H' hD h)
      · refine .inr ⟨⟨_, hs⟩, fun D hD => ?_⟩
        exact lc_tup (xs := xs) (fun i H3 => Same H2 H3 ∧ H3 D = some (.lst ((bs.take i).map V.bl))) ⟨same_upd hD, upd_same⟩ (fun i H3 _ h => same_tup h.1 hs) (key D hD) (fun H' h => last D H' hD h)

end
end Odd
set_option exponentiation.threshold 10000
namespace Odd
open PySem PySem.Spec PyProof.Rows L2
local macro_rules | `(tactic| walk_at "vc") => `(tactic| simp only [tSeq, tAsg, gName, tCB, tCons, tNil, tVar, tC, tOp, tUn, rI0, rI, rU, tTup, tLst, tIfS, tTest, tB, tRet, tNext, rGcd, L2.start, List.map, List.set, List.replicate, List.cons_append, List.nil_append, List.length_cons, List.length_nil, List.getElem?_cons_succ, List.getElem?_cons_zero, Option.some.injEq, exists_eq_left', exists_eq_left, List.append_nil, List.cons.injEq, V.int.injEq, exists_and_left, and_true, true_and, and_assoc, exists_const, V.bl.injEq, V.ref.injEq, Nat.sub_self, Nat.reduceAdd, Nat.reduceSub, List.replicate_succ, List.replicate_zero, tAnd, tOr, tNot, tAndV, tOrV, tNotV, tIf, tCall, tCallK, tDrop, rEq, rNe, decide_eq_true_eq, Bool.not_eq_true', decide_eq_false_iff_not, Bool.false_eq_true, if_true, if_false, reduceIte, reduceCtorEq, tMkLow, tRaiseLow, rIsB, rNotB, tBreak, tPar, gSub, rSetL, tChain, gTup, gCons, gNil, gSeq, cx_K, cx_Kn, optV, V.str.injEq, Bool.not_true, Bool.not_false, false_and, and_false, or_false, false_or, exists_false, tCallN, tCallS, tPairs])
def dPr (q : Int × Int) : PyData := .tuple [.int q.1, .int q.2]
def dPP (p : P2) : PyData := .tuple [dPr p.1, dPr p.2]
section
variable {P : Program} {w : World} {K : PySem.W.Frag} {mg : Str → Option Value} {base : Heap} {A : Ads}
theorem dp_pr {H : Hp} {v : V} {q : Int × Int} (h : Pr K H v q) : Dp K H v (dPr q) := by
  obtain ⟨p, rfl, h⟩ := h
  exact .tup h (.cons (.int _) (.cons (.int _) .nil))
theorem dp_pp {H : Hp} {v : V} {p : P2} (h : PP K H v p) : Dp K H v (dPP p) := by
  obtain ⟨a, x, y, rfl, h, hx, hy⟩ := h
  exact .tup h (.cons (dp_pr hx) (.cons (dp_pr hy) .nil))
theorem sh_pr (q : Int × Int) : SeqAt.shaped (dPr q) = true := by
  simp [dPr, SeqAt.shaped, PyData.canLay0, PyData.canLayAll0, PyData.depth, PyData.depthAll]
theorem sh_pp (p : P2) : SeqAt.shaped (dPP p) = true := by
  simp [dPP, dPr, SeqAt.shaped, PyData.canLay0, PyData.canLayAll0, PyData.depth, PyData.depthAll]
theorem eqv_pr (p q : Int × Int) : PyData.eqv (dPr p) (dPr q) = decide (p = q) := by
  obtain ⟨a, b⟩ := p
  obtain ⟨c, d⟩ := q
  rw [Bool.eq_iff_iff]
  simp [dPr, PyData.eqv, PyData.eqvAll]
theorem eqv_pp (p q : P2) : PyData.eqv (dPP p) (dPP q) = decide (p = q) := by
  obtain ⟨a, b⟩ := p
  obtain ⟨c, d⟩ := q
  have h1 := eqv_pr a c
  have h2 := eqv_pr b d
  rw [Bool.eq_iff_iff]
  simp [dPP, PyData.eqv, PyData.eqvAll, h1, h2]
/-- below, by products across -/
def fLt (a b : Int × Int) : Bool := decide (a.1 * b.2 < b.1 * a.2)
def spBelow (K : PySem.W.Frag) : Sp := fun vs H Q _ => ∃ v u a b, vs = [v, u] ∧ Pr K H v a ∧ Pr K H u b ∧ Sm 4000 a ∧ Sm 4000 b ∧ Q (.bl (fLt a b)) H
theorem ok_is_below (T : Txt K mg A) : FnOk P w K mg base CX0 1 A.f_is_below A.d_is_below ["one", "other"] (spBelow K) := by
  refine T.is_below.F.ok sc_is_below (fun vs H Q E h => ?_) (fun cdv A' outer s H vs Q E hr h => ?_)
  · obtain ⟨_, _, _, _, rfl, _⟩ := h; rfl
  · obtain ⟨v, u, a, b, rfl, ⟨p, rfl, hp⟩, ⟨r, rfl, hr'⟩, sa, sb, q⟩ := h
    refine ⟨_, (pss_one (ps_ret (pe_cmpR op_lt (pe_op op_mulW (pe_ix ix_tup (pv 0) pe_int (fun _ _ => rfl)) (pe_ix ix_tup (pv 1) pe_int (fun _ _ => rfl))) (pe_op op_mulW (pe_ix ix_tup (pv 1) pe_int (fun _ _ => rfl)) (pe_ix ix_tup (pv 0) pe_int (fun _ _ => rfl))) (nomark _)))), ?_⟩
    walk_at "vc"
    have sm : ∀ {i j : Int}, i.natAbs < 2 ^ 4000 → j.natAbs < 2 ^ 4000 → CMulW i j := fun h1 h2 => wide_mul h1 h2 (by decide) (by decide) (by decide)
    exact ixT hp rfl (ixT hr' rfl ⟨_, rfl, _, rfl, sm sa.1 sb.2, ixT hr' rfl (ixT hp rfl ⟨_, rfl, _, rfl, sm sb.1 sa.2, q⟩)⟩)
def spSign : Sp := fun vs H Q _ => ∃ a : Int, vs = [.int a] ∧ Q (.int a.sign) H
theorem ok_sign (T : Txt K mg A) : FnOk P w K mg base CX0 1 A.f_sign A.d_sign ["top"] spSign := by
  refine T.sign.F.ok sc_sign (fun vs H Q E h => ?_) (fun cdv A' outer s H vs Q E hr h => ?_)
  · obtain ⟨_, rfl, _⟩ := h; rfl
  · obtain ⟨a, rfl, q⟩ := h
    refine ⟨_, (pss_cons (ps_if (pt_cmpR op_gt (pv 0) pe_int (nomark _)) (pss_one (ps_ret pe_int)) pss_nil)
      (pss_cons (ps_if (pt_cmpR op_lt (pv 0) pe_int (nomark _)) (pss_one (ps_ret (pe_un un_neg pe_int))) pss_nil)
      (pss_one (ps_ret pe_int)))), ?_⟩
    walk_at "vc"
    split
    · rename_i h1
      rw [Int.sign_eq_one_of_pos h1] at q
      exact q
    · split
      · rename_i h1 h2
        rw [Int.sign_eq_neg_one_of_neg h2] at q
        exact q
      · rename_i h1 h2
        have : a = 0 := by omega
        subst this
        exact q
def lsA (a b : Int × Int) : Int := a.1 * b.2 - b.1 * a.2
def spLoose (K : PySem.W.Frag) : Sp := fun vs H Q _ => ∃ v u a b, vs = [v, u] ∧ Pr K H v a ∧ Pr K H u b ∧ Sm 900 a ∧ Sm 900 b ∧ RetP K H (lsA a b, a.2 * b.2) Q
theorem ok__loose (T : Txt K mg A) : FnOk P w K mg base CX0 1 A.f__loose A.d__loose ["one", "other"] (spLoose K) := by
  refine T._loose.F.ok sc__loose (fun vs H Q E h => ?_) (fun cdv A' outer s H vs Q E hr h => ?_)
  · obtain ⟨_, _, _, _, rfl, _⟩ := h; rfl
  · obtain ⟨v, u, a, b, rfl, ⟨p, rfl, hp⟩, ⟨r, rfl, hr'⟩, sa, sb, q⟩ := h
    refine ⟨_, (pss_one (ps_ret (pe_tup (pa_cons (pe_op op_sub (pe_op op_mulW (pe_ix ix_tup (pv 0) pe_int (fun _ _ => rfl)) (pe_ix ix_tup (pv 1) pe_int (fun _ _ => rfl))) (pe_op op_mulW (pe_ix ix_tup (pv 1) pe_int (fun _ _ => rfl)) (pe_ix ix_tup (pv 0) pe_int (fun _ _ => rfl)))) (pa_cons (pe_op op_mulW (pe_ix ix_tup (pv 0) pe_int (fun _ _ => rfl)) (pe_ix ix_tup (pv 1) pe_int (fun _ _ => rfl))) pa_nil))))), ?_⟩
    walk_at "vc"
    have sm : ∀ {i j : Int}, i.natAbs < 2 ^ 900 → j.natAbs < 2 ^ 900 → CMulW i j := fun h1 h2 => wide_mul h1 h2 (by decide) (by decide) (by decide)
    refine ixT hp rfl (ixT hr' rfl ⟨_, rfl, _, rfl, sm sa.1 sb.2, ixT hr' rfl (ixT hp rfl ⟨_, rfl, _, rfl, sm sb.1 sa.2, ixT hp rfl (ixT hr' rfl ⟨_, rfl, _, rfl, sm sa.2 sb.2, by decide, fun t ht => ?_⟩)⟩)⟩)
    exact q _ _ (same_upd ht) (st_of upd_same)
theorem lsA_sm {n : Nat} {a b : Int × Int} (sa : Sm n a) (sb : Sm n b) : (lsA a b).natAbs < 2 ^ (n + n + 1) ∧ (a.2 * b.2).natAbs < 2 ^ (n + n + 1) := by
  have m1 := wide_lt sa.1 sb.2
  have m2 := wide_lt sb.1 sa.2
  have m3 := wide_lt sa.2 sb.2
  have e := two_pow (n + n)
  unfold lsA
  exact ⟨by omega, Nat.lt_of_lt_of_le m3 (pow_le (by omega))⟩
/-- which way three points bend: what is judged by its sign -/
def bdN (p q r : P2) : Int := lsA q.1 p.1 * lsA r.2 p.2 * (q.2.2 * p.2.2) * (r.1.2 * p.1.2) - lsA q.2 p.2 * lsA r.1 p.1 * (q.1.2 * p.1.2) * (r.2.2 * p.2.2)
def spBend (K : PySem.W.Frag) : Sp := fun vs H Q _ => ∃ v u t p q r, vs = [v, u, t] ∧ PP K H v p ∧ PP K H u q ∧ PP K H t r ∧ SmP 900 p ∧ SmP 900 q ∧ SmP 900 r ∧ RetV H (.int (bdN p q r).sign) Q
theorem ok_bend (T : Txt K mg A) : FnOk P w K mg base CX0 2 A.f_bend A.d_bend ["start", "middle", "end"] (spBend K) := by
  refine T.bend.F.ok sc_bend (fun vs H Q E h => ?_) (fun cdv A' outer s H vs Q E hr h => ?_)
  · obtain ⟨_, _, _, _, _, _, rfl, _⟩ := h; rfl
  · obtain ⟨v, u, t, p, q, r, rfl, ⟨a, x, y, rfl, ha, hx, hy⟩, ⟨b, z, m, rfl, hb, hz, hm⟩, ⟨c, n, o, rfl, hc, hn, ho⟩, sp, sq, sr, ret⟩ := h
    refine ⟨_, (pss_cons (ps_asg (pe_call (ok__loose T) (hr.mono (by decide)) (by rfl) T._loose.g T._loose.F.kp T._loose.b .nil pass0 (pa_cons (pe_ix ix_tup (pv 1) pe_int (fun _ _ => rfl)) (pa_cons (pe_ix ix_tup (pv 0) pe_int (fun _ _ => rfl)) pa_nil))) (pg_tup rfl (pgs_cons (pg_name (i := 3) sc_bend.nd rfl (.inl rfl)) (pgs_cons (pg_name (i := 4) sc_bend.nd rfl (.inl rfl)) pgs_nil))))
      (pss_cons (ps_asg (pe_call (ok__loose T) (hr.mono (by decide)) (by rfl) T._loose.g T._loose.F.kp T._loose.b .nil pass0 (pa_cons (pe_ix ix_tup (pv 1) pe_int (fun _ _ => rfl)) (pa_cons (pe_ix ix_tup (pv 0) pe_int (fun _ _ => rfl)) pa_nil))) (pg_tup rfl (pgs_cons (pg_name (i := 5) sc_bend.nd rfl (.inl rfl)) (pgs_cons (pg_name (i := 6) sc_bend.nd rfl (.inl rfl)) pgs_nil))))
      (pss_cons (ps_asg (pe_call (ok__loose T) (hr.mono (by decide)) (by rfl) T._loose.g T._loose.F.kp T._loose.b .nil pass0 (pa_cons (pe_ix ix_tup (pv 2) pe_int (fun _ _ => rfl)) (pa_cons (pe_ix ix_tup (pv 0) pe_int (fun _ _ => rfl)) pa_nil))) (pg_tup rfl (pgs_cons (pg_name (i := 7) sc_bend.nd rfl (.inl rfl)) (pgs_cons (pg_name (i := 8) sc_bend.nd rfl (.inl rfl)) pgs_nil))))
      (pss_cons (ps_asg (pe_call (ok__loose T) (hr.mono (by decide)) (by rfl) T._loose.g T._loose.F.kp T._loose.b .nil pass0 (pa_cons (pe_ix ix_tup (pv 2) pe_int (fun _ _ => rfl)) (pa_cons (pe_ix ix_tup (pv 0) pe_int (fun _ _ => rfl)) pa_nil))) (pg_tup rfl (pgs_cons (pg_name (i := 9) sc_bend.nd rfl (.inl rfl)) (pgs_cons (pg_name (i := 10) sc_bend.nd rfl (.inl rfl)) pgs_nil))))
      (pss_one (ps_ret (pe_call (ok_sign T) (hr.mono (by decide)) (by rfl) T.sign.g T.sign.F.kp T.sign.b .nil pass0 (pa_cons (pe_op op_sub (pe_op op_mulW (pe_op op_mulW (pe_op op_mulW (pv 3) (pv 9)) (pv 6)) (pv 8)) (pe_op op_mulW (pe_op op_mulW (pe_op op_mulW (pv 5) (pv 7)) (pv 4)) (pv 10))) pa_nil)))))))), ?_⟩
    refine seq_by fun N hN => ?_
    walk_at "vc"
    refine ixT hb rfl (ixT ha rfl ⟨_, _, _, _, rfl, hz, hx, sq.1, sp.1, fun H1 r1 s1 t1 => ?_⟩)
    refine ⟨r1, rfl, _, t1, rfl, _, _, rfl, _, _, rfl, rfl, ?_⟩
    have ha1 := same_tup s1 ha; have hb1 := same_tup s1 hb; have hc1 := same_tup s1 hc
    have hx1 := hx.same s1; have hy1 := hy.same s1; have hm1 := hm.same s1; have hn1 := hn.same s1; have ho1 := ho.same s1
    clear ha hb hc hx hy hz hm hn ho
    subst hN
    refine seq_by fun N hN => ?_
    walk_at "vc"
    refine ixT hb1 rfl (ixT ha1 rfl ⟨_, _, _, _, rfl, hm1, hy1, sq.2, sp.2, fun H2 r2 s2 t2 => ?_⟩)
    refine ⟨r2, rfl, _, t2, rfl, _, _, rfl, _, _, rfl, rfl, ?_⟩
    have ha2 := same_tup s2 ha1; have hc2 := same_tup s2 hc1
    have hx2 := hx1.same s2; have hy2 := hy1.same s2; have hn2 := hn1.same s2; have ho2 := ho1.same s2
    clear ha1 hb1 hc1 hx1 hy1 hm1 hn1 ho1
    subst hN
    refine seq_by fun N hN => ?_
    walk_at "vc"
    refine ixT hc2 rfl (ixT ha2 rfl ⟨_, _, _, _, rfl, hn2, hx2, sr.1, sp.1, fun H3 r3 s3 t3 => ?_⟩)
    refine ⟨r3, rfl, _, t3, rfl, _, _, rfl, _, _, rfl, rfl, ?_⟩
    have ha3 := same_tup s3 ha2; have hc3 := same_tup s3 hc2; have hy3 := hy2.same s3; have ho3 := ho2.same s3
    clear ha2 hc2 hx2 hy2 hn2 ho2
    subst hN
    refine seq_by fun N hN => ?_
    walk_at "vc"
    refine ixT hc3 rfl (ixT ha3 rfl ⟨_, _, _, _, rfl, ho3, hy3, sr.2, sp.2, fun H4 r4 s4 t4 => ?_⟩)
    refine ⟨r4, rfl, _, t4, rfl, _, _, rfl, _, _, rfl, rfl, ?_⟩
    clear ha3 hc3 hy3 ho3
    subst hN
    walk_at "vc"
    obtain ⟨A1, A2⟩ := lsA_sm sq.1 sp.1
    obtain ⟨B1, B2⟩ := lsA_sm sq.2 sp.2
    obtain ⟨C1, C2⟩ := lsA_sm sr.1 sp.1
    obtain ⟨D1, D2⟩ := lsA_sm sr.2 sp.2
    have w2 : ∀ {i j : Int} {n m : Nat}, i.natAbs < 2 ^ n → j.natAbs < 2 ^ m → 0 < n → 0 < m → n + m ≤ 1000000 → CMulW i j := fun h1 h2 h3 h4 h5 => wide_mul h1 h2 h3 h4 h5
    have e1 := wide_lt A1 D1
    have e2 := wide_lt e1 B2
    have f1 := wide_lt B1 C1
    have f2 := wide_lt f1 A2
    refine ⟨w2 A1 D1 (by decide) (by decide) (by decide), w2 e1 B2 (by decide) (by decide) (by decide), w2 e2 C2 (by decide) (by decide) (by decide), w2 B1 C1 (by decide) (by decide) (by decide), w2 f1 A2 (by decide) (by decide) (by decide), w2 f2 D2 (by decide) (by decide) (by decide), ?_⟩
    exact ⟨_, rfl, ret H4 (((s1.trans s2).trans s3).trans s4)⟩
/-- ahead, by x and then by y -/
def lexB (p q : P2) : Bool := fLt p.1 q.1 || (decide (p.1 = q.1) && fLt p.2 q.2)
def spBefore (K : PySem.W.Frag) : Sp := fun vs H Q _ => ∃ v u p q, vs = [v, u] ∧ PP K H v p ∧ PP K H u q ∧ SmP 4000 p ∧ SmP 4000 q ∧ Q (.bl (lexB p q)) H
theorem ok_comes_before (T : Txt K mg A) : FnOk P w K mg base CX0 2 A.f_comes_before A.d_comes_before ["one", "other"] (spBefore K) := by
  refine T.comes_before.F.ok sc_comes_before (fun vs H Q E h => ?_) (fun cdv A' outer s H vs Q E hr h => ?_)
  · obtain ⟨_, _, _, _, rfl, _⟩ := h; rfl
  · obtain ⟨v, u, p, q, rfl, ⟨a, x, y, rfl, ha, hx, hy⟩, ⟨b, z, t, rfl, hb, hz, ht⟩, sp, sq, ret⟩ := h
    refine ⟨_, (pss_one (ps_ret (pe_or (pe_call (ok_is_below T) (hr.mono (by decide)) (by rfl) T.is_below.g T.is_below.F.kp T.is_below.b .nil pass0 (pa_cons (pe_ix ix_tup (pv 0) pe_int (fun _ _ => rfl)) (pa_cons (pe_ix ix_tup (pv 1) pe_int (fun _ _ => rfl)) pa_nil))) (pe_one (pe_and (pe_cmpR (op_eqD hr.units) (pe_ix ix_tup (pv 0) pe_int (fun _ _ => rfl)) (pe_ix ix_tup (pv 1) pe_int (fun _ _ => rfl)) (nomark _)) (pe_one (pe_call (ok_is_below T) (hr.mono (by decide)) (by rfl) T.is_below.g T.is_below.F.kp T.is_below.b .nil pass0 (pa_cons (pe_ix ix_tup (pv 0) pe_int (fun _ _ => rfl)) (pa_cons (pe_ix ix_tup (pv 1) pe_int (fun _ _ => rfl)) pa_nil))))))))), ?_⟩
    walk_at "vc"
    refine ixT ha rfl (ixT hb rfl ⟨x, z, _, _, rfl, hx, hz, sp.1, sq.1, _, rfl, ?_⟩)
    unfold lexB at ret
    cases e1 : fLt p.1 q.1 with
    | true =>
      rw [e1] at ret
      exact ret
    | false =>
      rw [e1, Bool.false_or] at ret
      refine iteF ?_
      refine ixT ha rfl (ixT hb rfl ⟨_, _, dp_pr hx, dp_pr hz, sh_pr _, sh_pr _, _, rfl, ?_⟩)
      rw [eqv_pr]
      cases e2 : decide (p.1 = q.1) with
      | false =>
        rw [e2] at ret
        exact ret
      | true =>
        rw [e2, Bool.true_and] at ret
        refine iteT ?_
        exact ixT ha rfl (ixT hb rfl ⟨y, t, _, _, rfl, hy, ht, sp.2, sq.2, ret⟩)
/-- a side: a tuple of two points -/
def Sd (K : PySem.W.Frag) (H : Hp) (v : V) (s : P2 × P2) : Prop := ∃ a x y, v = .ref a ∧ SqT K H a [x, y] ∧ PP K H x s.1 ∧ PP K H y s.2
theorem Sd.same {K : PySem.W.Frag} {H H' : Hp} {v : V} {p : P2 × P2} (s : Same H H') (h : Sd K H v p) : Sd K H' v p := by
  obtain ⟨a, x, y, e, h, hx, hy⟩ := h
  exact ⟨a, x, y, e, same_tup s h, hx.same s, hy.same s⟩
def ordS (s : P2 × P2) : P2 × P2 := if lexB s.2 s.1 = true then (s.2, s.1) else s
def SmS (N : Nat) (s : P2 × P2) : Prop := SmP N s.1 ∧ SmP N s.2
theorem ordS_sm {N : Nat} {s : P2 × P2} (h : SmS N s) : SmS N (ordS s) := by
  unfold ordS
  split
  · exact ⟨h.2, h.1⟩
  · exact h
def spOrdered (K : PySem.W.Frag) : Sp := fun vs H Q _ => ∃ v s, vs = [v] ∧ Sd K H v s ∧ SmS 4000 s ∧ ∀ H' u, Same H H' → Sd K H' u (ordS s) → Q u H'
theorem ok_ordered_segments (T : Txt K mg A) : FnOk P w K mg base CX0 3 A.f_ordered_segments A.d_ordered_segments ["side"] (spOrdered K) := by
  refine T.ordered_segments.F.ok sc_ordered_segments (fun vs H Q E h => ?_) (fun cdv A' outer s H vs Q E hr h => ?_)
  · obtain ⟨_, _, rfl, _⟩ := h; rfl
  · obtain ⟨v, s, rfl, ⟨a, x, y, rfl, ha, hx, hy⟩, sm, ret⟩ := h
    refine ⟨_, (pss_cons (ps_if (pt_val (pe_call (ok_comes_before T) (hr.mono (by decide)) (by rfl) T.comes_before.g T.comes_before.F.kp T.comes_before.b .nil pass0 (pa_cons (pe_ix ix_tup (pv 0) pe_int (fun _ _ => rfl)) (pa_cons (pe_ix ix_tup (pv 0) pe_int (fun _ _ => rfl)) pa_nil)))) (pss_one (ps_ret (pe_tup (pa_cons (pe_ix ix_tup (pv 0) pe_int (fun _ _ => rfl)) (pa_cons (pe_ix ix_tup (pv 0) pe_int (fun _ _ => rfl)) pa_nil))))) pss_nil)
      (pss_one (ps_ret (pv 0)))), ?_⟩
    walk_at "vc"
    refine ixT ha rfl (ixT ha rfl ⟨y, x, _, _, rfl, hy, hx, sm.2, sm.1, _, rfl, ?_⟩)
    unfold ordS at ret
    split
    · rename_i h1
      rw [if_pos h1] at ret
      refine ixT ha rfl (ixT ha rfl ⟨by decide, fun t ht => ?_⟩)
      have st := same_upd (o := .tup [y, x]) ht
      exact ret _ _ st ⟨t, y, x, rfl, st_of upd_same, hy.same st, hx.same st⟩
    · rename_i h1
      rw [if_neg h1] at ret
      exact ret _ _ (Same.refl _) ⟨a, x, y, rfl, ha, hx, hy⟩
/-- two sides on one line have no point in common -/
def noShare (s t : P2 × P2) : Prop := lexB (if lexB (ordS t).2 (ordS s).2 = true then (ordS t).2 else (ordS s).2) (if lexB (ordS s).1 (ordS t).1 = true then (ordS t).1 else (ordS s).1) = true
def spStretch (K : PySem.W.Frag) : Sp := fun vs H Q _ => ∃ v u s t, vs = [v, u] ∧ Sd K H v s ∧ Sd K H u t ∧ SmS 4000 s ∧ SmS 4000 t ∧ noShare s t ∧ RetV H .non Q
theorem ok__shared_stretch (T : Txt K mg A) : FnOk P w K mg base CX0 4 A.f__shared_stretch A.d__shared_stretch ["one", "other"] (spStretch K) := by
  refine T._shared_stretch.F.ok sc__shared_stretch (fun vs H Q E h => ?_) (fun cdv A' outer s H vs Q E hr h => ?_)
  · obtain ⟨_, _, _, _, rfl, _⟩ := h; rfl
  · obtain ⟨v, u, s, t, rfl, hs, ht, ms, mt, no, ret⟩ := h
    refine ⟨_, (pss_cons (ps_asg (pe_call (ok_ordered_segments T) (hr.mono (by decide)) (by rfl) T.ordered_segments.g T.ordered_segments.F.kp T.ordered_segments.b .nil pass0 (pa_cons (pv 0) pa_nil)) (pg_tup rfl (pgs_cons (pg_name (i := 2) sc__shared_stretch.nd rfl (.inl rfl)) (pgs_cons (pg_name (i := 3) sc__shared_stretch.nd rfl (.inl rfl)) pgs_nil))))
      (pss_cons (ps_asg (pe_call (ok_ordered_segments T) (hr.mono (by decide)) (by rfl) T.ordered_segments.g T.ordered_segments.F.kp T.ordered_segments.b .nil pass0 (pa_cons (pv 1) pa_nil)) (pg_tup rfl (pgs_cons (pg_name (i := 4) sc__shared_stretch.nd rfl (.inl rfl)) (pgs_cons (pg_name (i := 5) sc__shared_stretch.nd rfl (.inl rfl)) pgs_nil))))
      (pss_cons (ps_if (pt_val (pe_call (ok_comes_before T) (hr.mono (by decide)) (by rfl) T.comes_before.g T.comes_before.F.kp T.comes_before.b .nil pass0 (pa_cons (pv 2) (pa_cons (pv 4) pa_nil)))) (pss_one (ps_set (i := 2) sc__shared_stretch.nd rfl (.inl rfl) (pv 4))) pss_nil)
      (pss_cons (ps_if (pt_val (pe_call (ok_comes_before T) (hr.mono (by decide)) (by rfl) T.comes_before.g T.comes_before.F.kp T.comes_before.b .nil pass0 (pa_cons (pv 5) (pa_cons (pv 3) pa_nil)))) (pss_one (ps_set (i := 3) sc__shared_stretch.nd rfl (.inl rfl) (pv 5))) pss_nil)
      (pss_cons (ps_if (pt_val (pe_call (ok_comes_before T) (hr.mono (by decide)) (by rfl) T.comes_before.g T.comes_before.F.kp T.comes_before.b .nil pass0 (pa_cons (pv 3) (pa_cons (pv 2) pa_nil)))) (pss_one (ps_ret pe_non)) pss_nil)
      (pss_one (ps_ret (pv 2)))))))), ?_⟩
    refine seq_by fun N hN => ?_
    walk_at "vc"
    refine ⟨_, _, rfl, hs, ms, fun H1 v1 s1 h1 => ?_⟩
    have ht1 := ht.same s1
    have ms1 := ordS_sm ms
    have mt1 := ordS_sm mt
    unfold noShare at no
    obtain ⟨a, x, y, rfl, ha, hx, hy⟩ := h1
    refine ⟨a, rfl, _, ha, rfl, _, _, rfl, _, _, rfl, rfl, ?_⟩
    subst hN
    refine seq_by fun N hN => ?_
    walk_at "vc"
    refine ⟨_, _, rfl, ht1, mt, fun H2 v2 s2 h2 => ?_⟩
    have hx := hx.same s2
    have hy := hy.same s2
    obtain ⟨b, z, m, rfl, hb, hz, hm⟩ := h2
    refine ⟨b, rfl, _, hb, rfl, _, _, rfl, _, _, rfl, rfl, ?_⟩
    clear ht ht1 hs ha hb
    generalize ordS s = S at *
    generalize ordS t = R at *
    subst hN
    refine seq_by fun N hN => ?_
    walk_at "vc"
    refine ⟨_, _, _, _, rfl, hx, hz, ms1.1, mt1.1, _, rfl, ?_⟩
    have S2 := s1.trans s2
    have key : ∀ (lo : V) (L : P2), PP K H2 lo L → SmP 4000 L → L = (if lexB S.1 R.1 = true then R.1 else S.1) → N [some v, some u, some lo, some y, some z, some m] H2 := by
      intro lo L hL mL eL
      rw [← eL] at no
      clear eL hx hz
      subst hN
      refine seq_by fun N hN => ?_
      walk_at "vc"
      refine ⟨_, _, _, _, rfl, hm, hy, mt1.2, ms1.2, _, rfl, ?_⟩
      have key2 : ∀ (hi : V) (G : P2), PP K H2 hi G → SmP 4000 G → G = (if lexB R.2 S.2 = true then R.2 else S.2) → N [some v, some u, some lo, some hi, some z, some m] H2 := by
        intro hi G hG mG eG
        rw [← eG] at no
        subst hN
        walk_at "vc"
        refine ⟨_, _, _, _, rfl, hG, hL, mG, mL, _, rfl, ?_⟩
        rw [if_pos no]
        exact ret _ S2
      split
      · rename_i c
        exact key2 _ _ hm mt1.2 (by rw [if_pos c])
      · rename_i c
        exact key2 _ _ hy ms1.2 (by rw [if_neg c])
    split
    · rename_i c
      exact key _ _ hz mt1.1 (by rw [if_pos c])
    · rename_i c
      exact key _ _ hx ms1.1 (by rw [if_neg c])
/-- that two sides have no point in common is told -/
def Apart (s t : P2 × P2) : Prop :=
  if (bdN s.1 s.2 t.1).sign = 0 ∧ (bdN s.1 s.2 t.2).sign = 0 then noShare s t
  else (bdN s.1 s.2 t.1).sign = (bdN s.1 s.2 t.2).sign ∨ 0 < (bdN t.1 t.2 s.1).sign * (bdN t.1 t.2 s.2).sign
theorem sign_sm (a : Int) : -1 ≤ a.sign ∧ a.sign ≤ 1 := by
  rcases Int.lt_trichotomy a 0 with h | h | h
  · rw [Int.sign_eq_neg_one_of_neg h]; decide
  · subst h; decide
  · rw [Int.sign_eq_one_of_pos h]; decide
def spCommon (K : PySem.W.Frag) : Sp := fun vs H Q _ => ∃ v u s t, vs = [v, u] ∧ Sd K H v s ∧ Sd K H u t ∧ SmS 900 s ∧ SmS 900 t ∧ Apart s t ∧ RetV H .non Q
theorem ok_common_point (T : Txt K mg A) : FnOk P w K mg base CX0 5 A.f_common_point A.d_common_point ["one", "other"] (spCommon K) := by
  refine T.common_point.F.ok sc_common_point (fun vs H Q E h => ?_) (fun cdv A' outer s H vs Q E hr h => ?_)
  · obtain ⟨_, _, _, _, rfl, _⟩ := h; rfl
  · obtain ⟨v, u, s, t, rfl, hs, ht, ms, mt, ap, ret⟩ := h
    obtain ⟨a, x, y, rfl, ha, hx, hy⟩ := id hs
    obtain ⟨b, z, m, rfl, hb, hz, hm⟩ := id ht
    refine ⟨_, (pss_cons (ps_set (i := 2) sc_common_point.nd rfl (.inl rfl) (pe_call (ok_bend T) (hr.mono (by decide)) (by rfl) T.bend.g T.bend.F.kp T.bend.b .nil pass0 (pa_cons (pe_ix ix_tup (pv 0) pe_int (fun _ _ => rfl)) (pa_cons (pe_ix ix_tup (pv 0) pe_int (fun _ _ => rfl)) (pa_cons (pe_ix ix_tup (pv 1) pe_int (fun _ _ => rfl)) pa_nil)))))
      (pss_cons (ps_set (i := 3) sc_common_point.nd rfl (.inl rfl) (pe_call (ok_bend T) (hr.mono (by decide)) (by rfl) T.bend.g T.bend.F.kp T.bend.b .nil pass0 (pa_cons (pe_ix ix_tup (pv 0) pe_int (fun _ _ => rfl)) (pa_cons (pe_ix ix_tup (pv 0) pe_int (fun _ _ => rfl)) (pa_cons (pe_ix ix_tup (pv 1) pe_int (fun _ _ => rfl)) pa_nil)))))
      (pss_cons (ps_if (PW.pt (pw_and (pt_cmpR op_eq (pv 2) pe_int (nomark _)) (pw_and1 (pt_cmpR op_eq (pv 3) pe_int (nomark _))))) (pss_one (ps_ret (pe_call (ok__shared_stretch T) (hr.mono (by decide)) (by rfl) T._shared_stretch.g T._shared_stretch.F.kp T._shared_stretch.b .nil pass0 (pa_cons (pv 0) (pa_cons (pv 1) pa_nil))))) pss_nil)
      (pss_cons (ps_if (PW.pt (pw_or (pt_cmpR op_eq (pv 2) (pv 3) (nomark _)) (pw_or1 (pt_cmpR op_gt (pe_op op_mul (pe_call (ok_bend T) (hr.mono (by decide)) (by rfl) T.bend.g T.bend.F.kp T.bend.b .nil pass0 (pa_cons (pe_ix ix_tup (pv 1) pe_int (fun _ _ => rfl)) (pa_cons (pe_ix ix_tup (pv 1) pe_int (fun _ _ => rfl)) (pa_cons (pe_ix ix_tup (pv 0) pe_int (fun _ _ => rfl)) pa_nil)))) (pe_call (ok_bend T) (hr.mono (by decide)) (by rfl) T.bend.g T.bend.F.kp T.bend.b .nil pass0 (pa_cons (pe_ix ix_tup (pv 1) pe_int (fun _ _ => rfl)) (pa_cons (pe_ix ix_tup (pv 1) pe_int (fun _ _ => rfl)) (pa_cons (pe_ix ix_tup (pv 0) pe_int (fun _ _ => rfl)) pa_nil))))) pe_int (nomark _))))) (pss_one (ps_ret pe_non)) pss_nil)
      pss_never)))), ?_⟩
    refine seq_by fun N hN => ?_
    walk_at "vc"
    refine ixT ha rfl (ixT ha rfl (ixT hb rfl ⟨_, _, _, _, _, _, rfl, hx, hy, hz, ms.1, ms.2, mt.1, fun H1 s1 => ?_⟩))
    have ha := same_tup s1 ha; have hb := same_tup s1 hb; have hx := hx.same s1; have hy := hy.same s1; have hz := hz.same s1; have hm := hm.same s1
    have hs := hs.same s1; have ht := ht.same s1
    subst hN
    refine seq_by fun N hN => ?_
    walk_at "vc"
    refine ixT ha rfl (ixT ha rfl (ixT hb rfl ⟨_, _, _, _, _, _, rfl, hx, hy, hm, ms.1, ms.2, mt.2, fun H2 s2 => ?_⟩))
    have hb := same_tup s2 hb; have ha := same_tup s2 ha; have hx := hx.same s2; have hy := hy.same s2; have hz := hz.same s2; have hm := hm.same s2
    have hs := hs.same s2; have ht := ht.same s2
    have S2 := s1.trans s2
    unfold Apart at ap
    have up : ∀ {q : P2 × P2}, SmS 900 q → SmS 4000 q := fun h => ⟨h.1.up (by decide), h.2.up (by decide)⟩
    subst hN
    refine seq_by fun N hN => ?_
    walk_at "vc"
    have rest : ¬ ((bdN s.1 s.2 t.1).sign = 0 ∧ (bdN s.1 s.2 t.2).sign = 0) → N [some (.ref a), some (.ref b), some (.int (bdN s.1 s.2 t.1).sign), some (.int (bdN s.1 s.2 t.2).sign), none, none, none] H2 := by
      intro hno
      rw [if_neg hno] at ap
      subst hN
      refine seq_by fun N hN => ?_
      walk_at "vc"
      refine ⟨rfl, ?_⟩
      split
      · exact ret _ S2
      · rename_i hne
        have ap := ap.resolve_left hne
        refine ixT hb rfl (ixT hb rfl (ixT ha rfl ⟨_, _, _, _, _, _, rfl, hz, hm, hx, mt.1, mt.2, ms.1, fun H3 s3 => ?_⟩))
        have ha := same_tup s3 ha; have hb := same_tup s3 hb; have hy := hy.same s3; have hz := hz.same s3; have hm := hm.same s3
        refine ixT hb rfl (ixT hb rfl (ixT ha rfl ⟨_, _, _, _, _, _, rfl, hz, hm, hy, mt.1, mt.2, ms.2, fun H4 s4 => ?_⟩))
        have b1 := sign_sm (bdN t.1 t.2 s.1)
        refine ⟨_, rfl, _, rfl, .inl ⟨by omega, by omega⟩, ?_⟩
        rw [if_pos ap]
        exact ret _ ((S2.trans s3).trans s4)
    refine ⟨rfl, ?_⟩
    split
    · rename_i h1
      refine ⟨rfl, ?_⟩
      split
      · rename_i h2
        rw [if_pos ⟨h1, h2⟩] at ap
        exact ⟨_, _, _, _, rfl, hs, ht, up ms, up mt, ap, fun H3 s3 => ret _ (S2.trans s3)⟩
      · rename_i h2
        exact rest fun z => h2 z.2
    · rename_i h1
      exact rest fun z => h1 z.1
end
end Odd
namespace Odd
open PySem PySem.Spec PyProof.Rows L2
local macro_rules | `(tactic| walk_at "vc") => `(tactic| simp only [tSeq, tAsg, gName, tCB, tCons, tNil, tVar, tC, tOp, tUn, rI0, rI, rU, tTup, tLst, tIfS, tTest, tB, tRet, tNext, rGcd, L2.start, List.map, List.set, List.replicate, List.cons_append, List.nil_append, List.length_cons, List.length_nil, List.getElem?_cons_succ, List.getElem?_cons_zero, Option.some.injEq, exists_eq_left', exists_eq_left, List.append_nil, List.cons.injEq, V.int.injEq, exists_and_left, and_true, true_and, and_assoc, exists_const, V.bl.injEq, V.ref.injEq, Nat.sub_self, Nat.reduceAdd, Nat.reduceSub, List.replicate_succ, List.replicate_zero, tAnd, tOr, tNot, tAndV, tOrV, tNotV, tIf, tCall, tCallK, tDrop, rEq, rNe, decide_eq_true_eq, Bool.not_eq_true', decide_eq_false_iff_not, Bool.false_eq_true, if_true, if_false, reduceIte, reduceCtorEq, tMkLow, tRaiseLow, rIsB, rNotB, tBreak, tPar, gSub, rSetL, tChain, gTup, gCons, gNil, gSeq, cx_K, cx_Kn, optV, V.str.injEq, Bool.not_true, Bool.not_false, false_and, and_false, or_false, false_or, exists_false, tCallN, tCallS, tPairs])
abbrev PG : Program := PySem.Challenge.pw_oddsquares_k10_whole_gaps_of_lots
section
variable {P : Program} {w : World} {K : PySem.W.Frag} {mg : Str → Option Value} {base : Heap} {A : Ads}
/-- no list, no tuple -/
def Flat (K : PySem.W.Frag) (H : Hp) (v : V) : Prop := ∃ U, TyN K H v U ∧ U ≠ "list" ∧ U ≠ "tuple"
theorem Flat.same {H H' : Hp} {v : V} (s : Same H H') (h : Flat K H v) : Flat K H' v := by
  obtain ⟨U, hU, h⟩ := h
  exact ⟨U, hU.same s, h⟩
def spFixed0 (K : PySem.W.Frag) : Sp := fun vs H Q _ => ∃ v, vs = [v] ∧ Flat K H v ∧ RetV H v Q
theorem ok_fixed0 (T : Txt K mg A) : FnOk P w K mg base CX0 1 A.f_fixed A.d_fixed ["value"] (spFixed0 K) := by
  refine T.fixed.F.ok sc_fixed (fun vs H Q E h => ?_) (fun cdv A' outer s H vs Q E hr h => ?_)
  · obtain ⟨_, rfl, _⟩ := h; rfl
  · obtain ⟨v, rfl, ⟨U, hU, h1, h2⟩, q⟩ := h
    refine ⟨_, (pss_cons (ps_if (pt_val (pe_callB call_isiT (by rfl) T.n_isinstance bt_isinstance (pa_cons (pv 0) (pa_cons (pe_tup (pa_cons (pe_bltn (v := .ty "list") (by rfl) T.n_list bt_list rfl) (pa_cons (pe_bltn (v := .ty "tuple") (by rfl) T.n_tuple bt_tuple rfl) pa_nil))) pa_nil)))) (pss_one ps_never) pss_nil) (pss_one (ps_ret (pv 0)))), ?_⟩
    walk_at "vc"
    refine ⟨by decide, fun p hp => ty_row (hU.same (same_upd hp)) upd_same ⟨_, rfl, ?_⟩⟩
    rw [beq_false_of_ne h1, beq_false_of_ne h2]
    exact iteF (q _ (same_upd hp))
def spFixed (K : PySem.W.Frag) : Sp := fun vs H Q _ => ∃ p xs, vs = [.ref p] ∧ SqT K H p xs ∧ (∀ x ∈ xs, Flat K H x) ∧ xs.length ≤ 1000 ∧ ∀ H' p', Same H H' → SqT K H' p' xs → Q (.ref p') H'
theorem ok_fixed (T : Txt K mg A) : FnOk P w K mg base CX0 2 A.f_fixed A.d_fixed ["value"] (spFixed K) := by
  refine T.fixed.F.ok sc_fixed (fun vs H Q E h => ?_) (fun cdv A' outer s H vs Q E hr h => ?_)
  · obtain ⟨_, _, rfl, _⟩ := h; rfl
  · obtain ⟨p, xs, rfl, hx, hf, hl, q⟩ := h
    refine ⟨_, (pss_cons (ps_if (pt_val (pe_callB call_isiT (by rfl) T.n_isinstance bt_isinstance (pa_cons (pv 0) (pa_cons (pe_tup (pa_cons (pe_bltn (v := .ty "list") (by rfl) T.n_list bt_list rfl) (pa_cons (pe_bltn (v := .ty "tuple") (by rfl) T.n_tuple bt_tuple rfl) pa_nil))) pa_nil)))) (pss_one (ps_ret (pe_callTy call_tuple_of (by rfl) T.n_tuple bt_tuple (pa_cons (pe_lc (own := [("item", 1)]) (g := gName 1) (tt := tYes) rfl sc_fixed.nd (pi_tup (pv 0)) (blkOk_by (N := ["value", "item"]) (sc := defScope s_fixed) (by decide +kernel)) (fun _ _ _ _ _ => pg_name (i := 1) sc_fixed.nd rfl (Or.inl rfl)) (fun _ _ _ _ _ => pts_nil) (fun _ _ _ _ _ => (pe_call (ok_fixed0 T) (hr.mono (by decide)) (by rfl) T.fixed.g T.fixed.F.kp T.fixed.b .nil pass0 (pa_cons (pv 1) pa_nil)))) pa_nil)))) pss_nil)
      (pss_one (ps_ret (pv 0)))), ?_⟩
    walk_at "vc"
    refine ⟨by decide, fun p2 hp2 => ?_⟩
    have s2 := same_upd (o := .tup [.ty "list", .ty "tuple"]) hp2
    refine ty_row (.tup (same_tup s2 hx)) upd_same ⟨_, rfl, iteT ?_⟩
    generalize upd H p2 (.tup [.ty "list", .ty "tuple"]) = H2 at *
    have hx2 := same_tup s2 hx
    refine ⟨_, rfl, p, rfl, ⟨_, hx2⟩, fun D hD => ?_⟩
    refine lc_tup (xs := xs) (fun i H3 => Same H2 H3 ∧ H3 D = some (.lst (xs.take i))) ⟨same_upd hD, upd_same⟩ (fun i H3 _ h => same_tup h.1 hx2) ?_ ?_
    · rintro i x H3 hxi ⟨s3, e3⟩
      refine ⟨rfl, ?_⟩
      simp only [tYes, if_true]
      refine ⟨x, rfl, x, rfl, (hf x (List.mem_of_getElem? hxi)).same (s2.trans s3), fun H4 s4 => ⟨xs.take i, s4 _ _ e3, ?_, fun c o ec => ?_, ?_⟩⟩
      · rw [List.length_take]
        exact small1000 (by omega)
      · rw [upd_ne (ne_of_none ec hD)]
        exact s4 _ _ (s3 _ _ ec)
      · rw [upd_same, List.take_add_one, hxi]
        rfl
    · rintro H3 ⟨s3, e3⟩
      rw [List.take_length] at e3
      exact ⟨D, rfl, xs, .inl ⟨sl_of e3, fun l hl' => q _ _ ((s2.trans s3).trans (same_upd hl')) (st_of upd_same)⟩⟩
/-- what the __init__ of a paper leaves -/
def paperF (w : Str) (t : Addr) : List (Str × V) := [("word", .str w), ("parts", .ref t)]
theorem paperF_parts {w : Str} {t : Addr} : (paperF w t).lookup ("parts" : Str) = some (.ref t) := by
  have h : (("parts" : Str) == ("word" : Str)) = false := by decide +kernel
  simp [paperF, List.lookup, h]
def spPaperInit (K : PySem.W.Frag) (C : Addr) : Sp := fun vs H Q _ => ∃ x t dx wd xs, vs = [.ref x, .str wd, .ref t] ∧ Cls K C ∧ NoAttr K C "word" ∧ NoAttr K C "parts" ∧ H x = some (.ins C dx []) ∧ SqT K H t xs ∧ (∀ y ∈ xs, Flat K H y) ∧ xs.length ≤ 1000 ∧
  ∀ H' t', (∀ b o, b ≠ x → H b = some o → H' b = some o) → H' x = some (.ins C dx (paperF wd t')) → SqT K H' t' xs → Q .non H'
theorem ok_Paper_init (T : Txt K mg A) (C : Addr) : FnR P w K mg base CX0 4 A.f_Paper_init (fun vs H Q E => ∃ ws rest, vs = ws ++ rest ∧ ws.length = 2 ∧ rest.length ≤ sizeLine ∧ ∀ p, H p = none → spPaperInit K C (ws ++ [.ref p]) (upd H p (.tup rest)) Q E) := by
  obtain ⟨oc, od, kV, doc, pm, an, cdv, ct, osl, e, lk, hcd⟩ := T.Paper_init.ex
  rw [e] at lk
  refine StX.fn_star (ps := ["self", "word"]) lk hcd sc_Paper_init StX.cxUp_none (StX.bind_star2 (B := fun l => bindArgs (PySem.W.fnOf "__init__" "Paper.__init__" (defArgs s_Paper_init) (defBody s_Paper_init) (defScope s_Paper_init) .none kV doc pm an cdv ct) ⟨l, []⟩) (fun _ _ => rfl) (fun _ _ _ _ => rfl)) fun A' outer s H vs Q E hr h => ?_
  obtain ⟨x, t, dx, wd, xs, rfl, cl, n1, n2, hx, ht, hf, hl, q⟩ := h
  refine ⟨_, pss_cons (ps_fld (pv 0) (pe_call (ok_fixed0 T) (hr.mono (by decide)) (by rfl) T.fixed.g T.fixed.F.kp T.fixed.b .nil pass0 (pa_cons (pv 1) pa_nil)) rfl) (pss_one (ps_fld (pv 0) (pe_call (ok_fixed T) (hr.mono (by decide)) (by rfl) T.fixed.g T.fixed.F.kp T.fixed.b .nil pass0 (pa_cons (pv 2) pa_nil)) rfl)), ?_⟩
  refine ⟨_, rfl, _, rfl, ⟨_, .str wd, by decide, by decide⟩, fun H1 s1 => ⟨_, rfl, x, C, dx, [], rfl, s1 _ _ hx, cl, n1, by decide, ?_⟩⟩
  have hx1 := s1 _ _ hx
  have keep : ∀ b o, b ≠ x → H b = some o → upd H1 x (.ins C dx (putF "word" (.str wd) [])) b = some o := fun b o nb e => by
    rw [upd_ne nb]; exact s1 _ _ e
  have gx : upd H1 x (.ins C dx (putF "word" (.str wd) [])) x = some (.ins C dx (putF "word" (.str wd) [])) := upd_same
  have tt : SqT K (upd H1 x (.ins C dx (putF "word" (.str wd) []))) t xs := by
    rcases ht with (ht | ⟨o, ht⟩) | ht
    · exact .inl (.inl (keep _ _ (ne_of ht hx (by intro z; cases z)) ht))
    · exact .inl (.inr ⟨o, keep _ _ (ne_of ht hx (by intro z; cases z)) ht⟩)
    · exact .inr ht
  have ff : ∀ y ∈ xs, Flat K (upd H1 x (.ins C dx (putF "word" (.str wd) []))) y := fun y hy => by
    obtain ⟨U, hU, h1, h2⟩ := hf y hy
    refine ⟨U, ?_, h1, h2⟩
    cases hU with
    | non => exact .non
    | bl b => exact .bl b
    | int i => exact .int i
    | str x => exact .str x
    | lst h => exact absurd rfl h1
    | tup h => exact absurd rfl h2
    | dict h => exact .dict (keep _ _ (ne_of h hx (by intro z; cases z)) h)
  generalize upd H1 x (.ins C dx (putF "word" (.str wd) [])) = H2 at *
  refine ⟨_, rfl, t, xs, rfl, tt, ff, hl, fun H3 t' s3 ht' => ⟨_, rfl, x, C, dx, _, rfl, s3 _ _ gx, cl, n2, (by show 1 < 1000; decide), ?_⟩⟩
  have n3 : t' ≠ x ∨ True := .inr trivial
  refine q _ t' (fun b o nb e => ?_) ?_ ?_
  · rw [upd_ne nb]
    exact s3 _ _ (keep b o nb e)
  · exact upd_same
  · have hx3 := s3 _ _ gx
    rcases ht' with (ht | ⟨o, ht⟩) | ht
    · exact .inl (.inl (by rw [upd_ne (ne_of ht hx3 (by intro z; cases z))]; exact ht))
    · exact .inl (.inr ⟨o, by rw [upd_ne (ne_of ht hx3 (by intro z; cases z))]; exact ht⟩)
    · exact .inr ht
def spTrue : Sp := fun vs H Q _ => ∃ x, vs = [.ref x] ∧ Q (.bl true) H
theorem ok_Paper_bool (T : Txt K mg A) : FnOk P w K mg base CX0 1 A.f_Paper_bool A.d_Paper_bool ["self"] spTrue := by
  refine T.Paper_bool.F.ok sc_Paper_bool (fun vs H Q E h => ?_) (fun cdv A' outer s H vs Q E hr h => ?_)
  · obtain ⟨_, rfl, _⟩ := h; rfl
  · obtain ⟨x, rfl, q⟩ := h
    exact ⟨_, pss_one (ps_ret pe_bl), q⟩
theorem pg_file : ((PG.main.file : Str) == ("/claim/cut.py" : Str)) = true := by decide +kernel
theorem pg_top : (PG.main.scope.names.lookup ("super" : Str)).isSome = false := by decide +kernel
def spClosedInit (C : Addr) : Sp := fun vs H Q _ => ∃ x b dx, vs = [.ref x, .bl b] ∧ H x = some (.ins C dx []) ∧ ∀ H' fs, (∀ c o, c ≠ x → H c = some o → H' c = some o) → H' x = some (.ins C dx fs) → fs.lookup ("is_left" : Str) = some (V.bl b) → Q .non H'
theorem ok_Closed_init (T : Txt K mg A) : FnOk PG w K mg base CX0 5 A.f_Closed_init A.d_Closed_init ["self", "is_left"] (spClosedInit A.C_Closed) := by
  obtain ⟨⟨oc, kV, doc, pm, ct, cl, od, an, cld, osl, csl, e, lk, hcell⟩, code, ⟨ccl, cdd, vsA, ccs, file, tf, hcode, hv2, hfile⟩, ⟨cd, hC⟩, sub, sup, ty, fi, opq⟩ := T.sup_Closed
  rw [e] at lk ⊢
  refine fn_super lk code hcell sc_Closed_init (fun vs H Q E h => ?_) (fun A' outer s H vs Q E hr h s1 I => ?_)
  · obtain ⟨_, _, _, rfl, _⟩ := h; rfl
  · obtain ⟨x, b, dx, rfl, hx, q⟩ := h
    obtain ⟨t0, rest, hq0⟩ : ∃ t0 : TS, PSs (NdefX.ncx CX0 PG w K mg base ["self", "is_left", "__class__"] ⟨"__init__", "Closed.__init__", defArgs s_Closed_init, defBody s_Closed_init, defScope s_Closed_init, [("__class__", A.cc_Closed)], A.cda_Closed⟩ A.f_Closed_init A' outer s H E) ((defBody s_Closed_init).drop 1) t0 ∧
        ∀ H2 t', (∀ c o, c ≠ x → H c = some o → H2 c = some o) → H2 x = some (.ins A.C_Closed dx (paperF "closed" t')) → SqT K H2 t' [.bl b] → t0 { nx := fun _ H' => Q .non H', rt := Q } (NdefX.startF ["self", "is_left", "__class__"] [.ref x, .bl b] [some (.ref A.C_Closed)]) H2 := by
      refine ⟨_, pss_one (ps_fld (pv 0) (pe_ix ix_tup (pe_fld (pv 0) rfl) pe_int (fun _ _ => rfl)) rfl), fun H2 t' kp hx2 ht => ?_⟩
      refine ⟨_, rfl, x, A.C_Closed, dx, _, .ref t', rfl, hx2, T.cl_Closed, T.no_Closed_parts, paperF_parts, ?_⟩
      refine ⟨t', [.bl b], 0, .bl b, rfl, rfl, ht, rfl, ?_⟩
      refine ⟨_, rfl, x, A.C_Closed, dx, _, rfl, hx2, T.cl_Closed, T.no_Closed_is_left, (by show 2 < 1000; decide), ?_⟩
      refine q _ _ (fun c o nc ec => ?_) upd_same ?_
      · rw [upd_ne nc]
        exact kp c o nc ec
      · rw [lookup_putF, if_pos rfl]
    refine PySem.ks_wpAt_execs_cons (rest := (defBody s_Closed_init).drop 1) ?_
    refine PySem.ks_wpAt_mono (super_at (sp := fun vs H Q E => ∃ ws rest, vs = ws ++ rest ∧ ws.length = 2 ∧ rest.length ≤ sizeLine ∧ ∀ p, H p = none → spPaperInit K A.C_Closed (ws ++ [.ref p]) (upd H p (.tup rest)) Q E)
      (X := NdefX.ncx CX0 PG w K mg base ["self", "is_left", "__class__"] ⟨"__init__", "Closed.__init__", defArgs s_Closed_init, defBody s_Closed_init, defScope s_Closed_init, [("__class__", A.cc_Closed)], A.cda_Closed⟩ A.f_Closed_init A' outer s H E)
      (D' := { nx := fun σ H' => t0 { nx := fun _ H' => Q .non H', rt := Q } σ H', rt := Q }) (j := 2) (fs := [])
      I rfl rfl rfl rfl lk rfl hcode hv2 (by rw [hfile]; exact pg_file) pg_top T.n_super (by decide +kernel) rfl rfl rfl rfl rfl hC sub hC hx opq sup ty fi (ok_Paper_init T A.C_Closed) hr pass0 (pa_cons pe_str (pa_cons (pv 1) pa_nil)) rfl ?_ rfl rfl rfl rfl) (fun fl s' hs => ?_) (fun _ _ z => z)
    · refine ⟨_, rfl, [.ref x, .str "closed"], [.bl b], rfl, rfl, (by show 1 ≤ sizeLine; decide), fun p hp => ?_⟩
      have sp := same_upd (o := .tup [.bl b]) hp
      refine ⟨x, p, dx, "closed", [.bl b], rfl, T.cl_Closed, T.no_Closed_word, T.no_Closed_parts, sp _ _ hx, st_of upd_same, fun y hy => ?_, (by show 1 ≤ 1000; decide), fun H2 t' kp hx2 ht => ?_⟩
      · obtain rfl := List.mem_singleton.mp hy
        exact ⟨_, .bl b, by decide, by decide⟩
      · exact hq0 H2 t' (fun c o nc ec => kp c o nc (sp _ _ ec)) hx2 ht
    · cases fl with
      | next =>
        obtain ⟨σ', G', J, h0⟩ := hs
        exact PySem.wpAt_of_wpAny (rest.run [] s' σ' G' _ J h0)
      | ret u => exact hs
      | brk => exact hs
      | cont => exact hs
def spApartInit (C : Addr) : Sp := fun vs H Q _ => ∃ x dx, vs = [.ref x] ∧ H x = some (.ins C dx []) ∧ ∀ H' fs, (∀ c o, c ≠ x → H c = some o → H' c = some o) → H' x = some (.ins C dx fs) → Q .non H'
theorem ok_Apart_init (T : Txt K mg A) : FnOk PG w K mg base CX0 5 A.f_Apart_init A.d_Apart_init ["self"] (spApartInit A.C_Apart) := by
  obtain ⟨⟨oc, kV, doc, pm, ct, cl, od, an, cld, osl, csl, e, lk, hcell⟩, code, ⟨ccl, cdd, vsA, ccs, file, tf, hcode, hv2, hfile⟩, ⟨cd, hC⟩, sub, sup, ty, fi, opq⟩ := T.sup_Apart
  rw [e] at lk ⊢
  refine fn_super lk code hcell sc_Apart_init (fun vs H Q E h => ?_) (fun A' outer s H vs Q E hr h s1 I => ?_)
  · obtain ⟨_, _, rfl, _⟩ := h; rfl
  · obtain ⟨x, dx, rfl, hx, q⟩ := h
    obtain ⟨t0, rest, hq0⟩ : ∃ t0 : TS, PSs (NdefX.ncx CX0 PG w K mg base ["self", "__class__"] ⟨"__init__", "Apart.__init__", defArgs s_Apart_init, defBody s_Apart_init, defScope s_Apart_init, [("__class__", A.cc_Apart)], A.cda_Apart⟩ A.f_Apart_init A' outer s H E) ((defBody s_Apart_init).drop 1) t0 ∧
        ∀ H2 t', (∀ c o, c ≠ x → H c = some o → H2 c = some o) → H2 x = some (.ins A.C_Apart dx (paperF "apart" t')) → t0 { nx := fun _ H' => Q .non H', rt := Q } (NdefX.startF ["self", "__class__"] [.ref x] [some (.ref A.C_Apart)]) H2 :=
      ⟨_, pss_nil, fun H2 t' kp hx2 => q _ _ kp hx2⟩
    refine PySem.ks_wpAt_execs_cons (rest := (defBody s_Apart_init).drop 1) ?_
    refine PySem.ks_wpAt_mono (super_at (sp := fun vs H Q E => ∃ ws rest, vs = ws ++ rest ∧ ws.length = 2 ∧ rest.length ≤ sizeLine ∧ ∀ p, H p = none → spPaperInit K A.C_Apart (ws ++ [.ref p]) (upd H p (.tup rest)) Q E)
      (X := NdefX.ncx CX0 PG w K mg base ["self", "__class__"] ⟨"__init__", "Apart.__init__", defArgs s_Apart_init, defBody s_Apart_init, defScope s_Apart_init, [("__class__", A.cc_Apart)], A.cda_Apart⟩ A.f_Apart_init A' outer s H E)
      (D' := { nx := fun σ H' => t0 { nx := fun _ H' => Q .non H', rt := Q } σ H', rt := Q }) (j := 1) (fs := [])
      I rfl rfl rfl rfl lk rfl hcode hv2 (by rw [hfile]; exact pg_file) pg_top T.n_super (by decide +kernel) rfl rfl rfl rfl rfl hC sub hC hx opq sup ty fi (ok_Paper_init T A.C_Apart) hr pass0 (pa_cons pe_str pa_nil) rfl ?_ rfl rfl rfl rfl) (fun fl s' hs => ?_) (fun _ _ z => z)
    · refine ⟨[.ref x, .str "apart"], [], rfl, rfl, (by show 0 ≤ sizeLine; decide), fun p hp => ?_⟩
      have sp := same_upd (o := .tup []) hp
      refine ⟨x, p, dx, "apart", [], rfl, T.cl_Apart, T.no_Apart_word, T.no_Apart_parts, sp _ _ hx, st_of upd_same, fun y hy => absurd hy (by simp), (by show 0 ≤ 1000; decide), fun H2 t' kp hx2 ht => ?_⟩
      exact hq0 H2 t' (fun c o nc ec => kp c o nc (sp _ _ ec)) hx2
    · cases fl with
      | next =>
        obtain ⟨σ', G', J, h0⟩ := hs
        exact PySem.wpAt_of_wpAny (rest.run [] s' σ' G' _ J h0)
      | ret u => exact hs
      | brk => exact hs
      | cont => exact hs
end
end Odd
namespace Odd
open PySem PySem.Spec PyProof.Rows L2
local macro_rules | `(tactic| walk_at "vc") => `(tactic| simp only [tSeq, tAsg, gName, tCB, tCons, tNil, tVar, tC, tOp, tUn, rI0, rI, rU, tTup, tLst, tIfS, tTest, tB, tRet, tNext, rGcd, L2.start, List.map, List.set, List.replicate, List.cons_append, List.nil_append, List.length_cons, List.length_nil, List.getElem?_cons_succ, List.getElem?_cons_zero, Option.some.injEq, exists_eq_left', exists_eq_left, List.append_nil, List.cons.injEq, V.int.injEq, exists_and_left, and_true, true_and, and_assoc, exists_const, V.bl.injEq, V.ref.injEq, Nat.sub_self, Nat.reduceAdd, Nat.reduceSub, List.replicate_succ, List.replicate_zero, tAnd, tOr, tNot, tAndV, tOrV, tNotV, tIf, tCall, tCallK, tDrop, rEq, rNe, decide_eq_true_eq, Bool.not_eq_true', decide_eq_false_iff_not, Bool.false_eq_true, if_true, if_false, reduceIte, reduceCtorEq, tMkLow, tRaiseLow, rIsB, rNotB, tBreak, tPar, gSub, rSetL, tChain, gTup, gCons, gNil, gSeq, cx_K, cx_Kn, optV, V.str.injEq, Bool.not_true, Bool.not_false, false_and, and_false, or_false, false_or, exists_false, tCallN, tCallS, tPairs])
section
variable {P : Program} {w : World} {K : PySem.W.Frag} {mg : Str → Option Value} {base : Heap} {A : Ads}
/-- one by one -/
def Each {α : Type} (R : V → α → Prop) (vs : List V) (xs : List α) : Prop := vs.length = xs.length ∧ ∀ (i : Nat) (v : V) (x : α), vs[i]? = some v → xs[i]? = some x → R v x
theorem Each.imp {α : Type} {R R' : V → α → Prop} {vs : List V} {xs : List α} (f : ∀ v x, R v x → R' v x) (h : Each R vs xs) : Each R' vs xs := ⟨h.1, fun i v x e1 e2 => f _ _ (h.2 i v x e1 e2)⟩
theorem Each.at {α : Type} {R : V → α → Prop} {vs : List V} {xs : List α} (h : Each R vs xs) {i : Nat} {x : α} (e : xs[i]? = some x) : ∃ v, vs[i]? = some v ∧ R v x := by
  have hl : i < vs.length := by rw [h.1]; exact (List.getElem?_eq_some_iff.mp e).1
  exact ⟨vs[i], List.getElem?_eq_getElem hl, h.2 i _ x (List.getElem?_eq_getElem hl) e⟩
theorem Each.of {α : Type} {R : V → α → Prop} {vs : List V} {xs : List α} (h : Each R vs xs) {i : Nat} {v : V} (e : vs[i]? = some v) : ∃ x, xs[i]? = some x ∧ R v x := by
  have hl : i < xs.length := by rw [← h.1]; exact (List.getElem?_eq_some_iff.mp e).1
  exact ⟨xs[i], List.getElem?_eq_getElem hl, h.2 i v _ e (List.getElem?_eq_getElem hl)⟩
def sideL {α : Type} (ps : List α) : List (α × α) := ps.zip (ps.drop 1 ++ ps.take 1)
theorem sideL_len {α : Type} (ps : List α) : (sideL ps).length = ps.length := by
  unfold sideL
  rw [List.length_zip, List.length_append, List.length_drop, List.length_take]
  omega
theorem sideL_at {α : Type} {ps : List α} {i : Nat} (h : i < ps.length) : (sideL ps)[i]? = some (ps[i], ps[(i + 1) % ps.length]'(Nat.mod_lt _ (by omega))) := by
  unfold sideL
  rw [List.getElem?_zip_eq_some]
  refine ⟨List.getElem?_eq_getElem h, ?_⟩
  rw [List.getElem?_append]
  by_cases c : i + 1 < ps.length
  · rw [if_pos (by rw [List.length_drop]; omega), List.getElem?_drop, List.getElem?_eq_getElem (by omega)]
    simp [Nat.mod_eq_of_lt c, Nat.add_comm]
  · have e : i + 1 = ps.length := by omega
    rw [if_neg (by rw [List.length_drop]; omega), List.length_drop, List.getElem?_take]
    simp only [e, Nat.mod_self]
    rw [if_pos (by omega), List.getElem?_eq_getElem (by omega)]
    simp [show i - (ps.length - 1) = 0 by omega]
def spSidesOf (K : PySem.W.Frag) : Sp := fun vs H Q _ => ∃ a us ps, vs = [.ref a] ∧ SqT K H a us ∧ Each (PP K H) us ps ∧ 2 ≤ ps.length ∧ ps.length ≤ 40 ∧ ∀ H' b ws, Same H H' → SqT K H' b ws → Each (Sd K H') ws (sideL ps) → Q (.ref b) H'
theorem sl_from1 {H : Hp} {a : Addr} {us : List V} {Q : VK} (ha : SqT K H a us) (h : 2 ≤ us.length) (q : ∀ p, H p = none → Q (.ref p) (upd H p (.tup (us.drop 1)))) : rSlA K (.ref a) (some 1) none H Q := by
  have e1 : HT.sIx us.length 0 (some 1) = 1 := (HT.sIx_nat us.length 0 1).trans (by omega)
  have e2 : HT.sIx us.length us.length none = us.length := rfl
  refine ⟨a, us, rfl, ha, fun z => ?_, fun _ p hp => ?_⟩
  · rw [e1] at z
    omega
  · have e : cutV us (some 1) none = us.drop 1 := by
      unfold cutV
      rw [e1, e2, List.take_of_length_le (by rw [List.length_drop]; exact Nat.le_refl _)]
    rw [e]
    exact q p hp
theorem sl_to1 {H : Hp} {a : Addr} {us : List V} {Q : VK} (ha : SqT K H a us) (h : 2 ≤ us.length) (q : ∀ p, H p = none → Q (.ref p) (upd H p (.tup (us.take 1)))) : rSlA K (.ref a) none (some 1) H Q := by
  have e1 : HT.sIx us.length us.length (some 1) = 1 := (HT.sIx_nat us.length us.length 1).trans (by omega)
  have e2 : HT.sIx us.length 0 none = 0 := rfl
  refine ⟨a, us, rfl, ha, fun z => ?_, fun _ p hp => ?_⟩
  · rw [e1] at z
    omega
  · have e : cutV us none (some 1) = us.take 1 := by
      unfold cutV
      rw [e1, e2]
      rfl
    rw [e]
    exact q p hp
theorem ok_sides_of (T : Txt K mg A) : FnOk P w K mg base CX0 1 A.f_sides_of A.d_sides_of ["corners"] (spSidesOf K) := by
  refine T.sides_of.F.ok sc_sides_of (fun vs H Q E h => ?_) (fun cdv A' outer s H vs Q E hr h => ?_)
  · obtain ⟨_, _, _, rfl, _⟩ := h; rfl
  · obtain ⟨a, us, ps, rfl, ha, he, h2, h40, q⟩ := h
    refine ⟨_, (pss_one (ps_ret (OZ.pe_tupZip rfl (by rfl) T.n_tuple (by rfl) T.n_zip (pa_cons (pv 0) (pa_cons (pe_op op_catA (pe_slice sl_tupA (pv 0) (po_some pe_int) po_none) (pe_slice sl_tupA (pv 0) po_none (po_some pe_int))) pa_nil))))), ?_⟩
    walk_at "vc"
    simp only [OZ.tTupZip]
    walk_at "vc"
    simp only [L2.tSl, tPart, tNoPart]
    walk_at "vc"
    refine sl_from1 ha (by rw [he.1]; exact h2) fun p hp => ?_
    have s1 := same_upd (o := .tup (us.drop 1)) hp
    refine sl_to1 (same_tup s1 ha) (by rw [he.1]; exact h2) fun p2 hp2 => ?_
    have s2 := s1.trans (same_upd (o := .tup (us.take 1)) hp2)
    have hd : SqT K (upd (upd H p (.tup (us.drop 1))) p2 (.tup (us.take 1))) p (us.drop 1) := same_tup (same_upd hp2) (st_of upd_same)
    have ht : SqT K (upd (upd H p (.tup (us.drop 1))) p2 (.tup (us.take 1))) p2 (us.take 1) := st_of upd_same
    generalize upd (upd H p (.tup (us.drop 1))) p2 (.tup (us.take 1)) = H2 at *
    have l1 := he.1
    refine ⟨p, p2, _, _, rfl, rfl, hd, ht, ?_, fun z => ?_, fun _ z => ?_, fun _ _ p3 hp3 => ?_⟩
    · rw [List.length_drop, List.length_take]
      exact Nat.le_of_lt (small1000 (by omega))
    · have : us.length - 1 = 0 := by rw [← List.length_drop, z]; rfl
      omega
    · have : min 1 us.length = 0 := by rw [← List.length_take, z]; rfl
      omega
    · have s3 := s2.trans (same_upd (o := .tup (us.drop 1 ++ us.take 1)) hp3)
      have hc : SqT K (upd H2 p3 (.tup (us.drop 1 ++ us.take 1))) p3 (us.drop 1 ++ us.take 1) := st_of upd_same
      generalize upd H2 p3 (.tup (us.drop 1 ++ us.take 1)) = H3 at *
      refine ⟨p3, rfl, us, same_tup s3 ha, _, hc, ?_, by omega, fun H4 t Ts k4 ht4 hl4 told => ?_⟩
      · rw [List.length_append, List.length_drop, List.length_take]
        omega
      · refine q _ _ _ (s3.trans k4) (st_of ht4) ⟨?_, fun i v x e1 e2 => ?_⟩
        · rw [List.length_map, sideL_len, hl4, l1]
        · have hi : i < ps.length := by
            have := (List.getElem?_eq_some_iff.mp e2).1
            rw [sideL_len] at this
            exact this
          rw [sideL_at hi] at e2
          obtain rfl := Option.some.inj e2
          obtain ⟨U, hU, rfl⟩ : ∃ U, Ts[i]? = some U ∧ V.ref U = v := by simpa using e1
          obtain ⟨x, y, ex, ey, eU⟩ := told i U hU
          have hl : (us.drop 1 ++ us.take 1) = (us.drop 1 ++ us.take 1) := rfl
          have z1 := sideL_at (ps := us) (i := i) (by omega)
          unfold sideL at z1
          rw [List.getElem?_zip_eq_some] at z1
          have e5 : x = us[i] := Option.some.inj (ex.symm.trans z1.1)
          have e6 : y = us[(i + 1) % us.length]'(Nat.mod_lt _ (by omega)) := Option.some.inj (ey.symm.trans z1.2)
          refine ⟨U, x, y, rfl, st_of eU, ?_, ?_⟩
          · rw [e5]
            exact (he.2 i _ _ (List.getElem?_eq_getElem (by omega)) (List.getElem?_eq_getElem hi)).same (s3.trans k4)
          · rw [e6]
            refine (he.2 ((i + 1) % ps.length) _ _ ?_ (List.getElem?_eq_getElem (Nat.mod_lt _ (by omega)))).same (s3.trans k4)
            rw [← l1]
            exact List.getElem?_eq_getElem (Nat.mod_lt _ (by omega))
theorem judg_of : ∀ {H : Hp} {us : List V} {ps : List P2}, Each (Pt K H) us ps → Judg K H us (List.replicate us.length true)
  | H, [], ps, h => .nil
  | H, u :: us, [], h => absurd h.1 (by simp)
  | H, u :: us, p :: ps, h => .yes (h.2 0 u p rfl rfl) (judg_of ⟨Nat.succ.inj h.1, fun i v x e1 e2 => h.2 (i + 1) v x e1 e2⟩)
theorem Sq.flat2 {H : Hp} {p : Addr} {us : List V} (h : Sq K H p us) : (SqL K H p us) ∨ (SqT K H p us) := h
theorem each_snoc {α : Type} {R : V → α → Prop} {vs : List V} {xs : List α} {v : V} {x : α} (h : Each R vs xs) (r : R v x) : Each R (vs ++ [v]) (xs ++ [x]) := by
  refine ⟨by simp [h.1], fun i u y e1 e2 => ?_⟩
  by_cases c : i < vs.length
  · rw [List.getElem?_append_left c] at e1
    rw [List.getElem?_append_left (by rw [← h.1]; exact c)] at e2
    exact h.2 i u y e1 e2
  · have hi := (List.getElem?_eq_some_iff.mp e1).1
    rw [List.length_append] at hi
    simp at hi
    have e : i = vs.length := by omega
    subst e
    rw [List.getElem?_append_right (Nat.le_refl _), Nat.sub_self] at e1
    rw [List.getElem?_append_right (by rw [h.1]; exact Nat.le_refl _), h.1, Nat.sub_self] at e2
    obtain rfl := Option.some.inj e1
    obtain rfl := Option.some.inj e2
    exact r
/-- a list that is written is no part of a tuple -/
theorem keep_tup {H : Hp} {D : Addr} {acc acc' : List V} {a : Addr} {xs : List V} (hD : H D = some (.lst acc)) (h : SqT K H a xs) : SqT K (upd H D (.lst acc')) a xs := by
  have ne : ∀ {o}, H a = some o → (∀ l, o ≠ .lst l) → a ≠ D := fun e n z => n acc (by rw [z, hD] at e; exact (Option.some.inj e).symm)
  rcases h with (h | ⟨o, h⟩) | h
  · exact .inl (.inl (by rw [upd_ne (ne h (fun l z => by cases z))]; exact h))
  · exact .inl (.inr ⟨o, by rw [upd_ne (ne h (fun l z => by cases z))]; exact h⟩)
  · exact .inr h
theorem pp_keep {H : Hp} {D : Addr} {acc acc' : List V} {v : V} {p : P2} (hD : H D = some (.lst acc)) (h : PP K H v p) : PP K (upd H D (.lst acc')) v p := by
  obtain ⟨a, x, y, rfl, ha, ⟨b, rfl, hb⟩, ⟨c, rfl, hc⟩⟩ := h
  exact ⟨a, _, _, rfl, keep_tup hD ha, ⟨b, rfl, keep_tup hD hb⟩, ⟨c, rfl, keep_tup hD hc⟩⟩
def spCornersIn (K : PySem.W.Frag) : Sp := fun vs H Q _ => ∃ p us ps, vs = [.ref p] ∧ Sq K H p us ∧ Each (Pt K H) us ps ∧ 3 ≤ ps.length ∧ ps.length ≤ 40 ∧ ∀ H' b ws, Same H H' → SqT K H' b ws → Each (PP K H') ws ps → Q (.ref b) H'
theorem ok__corners_in (T : Txt K mg A) : FnOk P w K mg base CX0 6 A.f__corners_in A.d__corners_in ["corners"] (spCornersIn K) := by
  obtain ⟨tkF, hFew⟩ := T.g_FEWEST_CORNERS
  obtain ⟨tkM, hMost⟩ := T.g_MOST_CORNERS
  refine T._corners_in.F.ok sc__corners_in (fun vs H Q E h => ?_) (fun cdv A' outer s H vs Q E hr h => ?_)
  · obtain ⟨_, _, _, rfl, _⟩ := h; rfl
  · obtain ⟨p, us, ps, rfl, hu, he, h3, h40, q⟩ := h
    refine ⟨_, (pss_cons (ps_if (pt_not (pt_val (pe_call (ok_are_points T) (hr.mono (by decide)) (by rfl) T.are_points.g T.are_points.F.kp T.are_points.b .nil pass0 (pa_cons (pv 0) (pa_cons (pe_glob (v := .int 3) (by rfl) hFew ⟨tkF, rfl⟩) (pa_cons (pe_glob (v := .int 40) (by rfl) hMost ⟨tkM, rfl⟩) pa_nil)))))) (pss_one ps_never) pss_nil)
      (pss_one (ps_ret (pe_callTy call_tuple_of (by rfl) T.n_tuple bt_tuple (pa_cons (pe_lc (own := [("corner", 1)]) (g := gName 1) (tt := tYes) rfl sc__corners_in.nd (pi_any (pv 0)) (blkOk_by (N := ["corners", "corner"]) (sc := defScope s__corners_in) (by decide +kernel)) (fun _ _ _ _ _ => pg_name (i := 1) sc__corners_in.nd rfl (Or.inl rfl)) (fun _ _ _ _ _ => pts_nil) (fun _ _ _ _ _ => (pe_call (ok_point_of T) (hr.mono (by decide)) (by rfl) T.point_of.g T.point_of.F.kp T.point_of.b .nil pass0 (pa_cons (pv 1) pa_nil)))) pa_nil))))), ?_⟩
    refine seq_by fun N hN => ?_
    walk_at "vc"
    have l1 := he.1
    refine ⟨.ref p, 3, 40, rfl, .inr (.inr ⟨p, us, _, rfl, hu, ⟨by omega, by omega⟩, by omega, judg_of he, fun H1 s1 => ⟨_, rfl, ?_⟩⟩)⟩
    have ea : (List.replicate us.length true).all id = true := by simp
    rw [ea]
    refine iteF' rfl ?_
    subst hN
    walk_at "vc"
    have key : ∀ D : Addr, H1 D = none → ∀ i x H3, us[i]? = some x → (Same H1 H3 ∧ ∃ acc, H3 D = some (.lst acc) ∧ Each (PP K H3) acc (ps.take i)) →
        gName 1 x (wipe [some (.ref p), none] [1]) H3 fun σ2 H4 => wipe σ2 [1] = wipe [some (.ref p), none] [1] ∧ tYes σ2 H4 fun b H5 =>
          if b = true then tCall (spPointOf K) [] E0 (tCons (tVar 1) tNil) σ2 H5 fun y H6 => ∃ acc, H6 D = some (.lst acc) ∧ acc.length < sizeLine ∧ (fun i H => Same H1 H ∧ ∃ acc, H D = some (.lst acc) ∧ Each (PP K H) acc (ps.take i)) (i + 1) (upd H6 D (.lst (acc ++ [y]))) else (fun i H => Same H1 H ∧ ∃ acc, H D = some (.lst acc) ∧ Each (PP K H) acc (ps.take i)) (i + 1) H5 := by
      rintro D hD i x H3 hx ⟨s3, acc, e3, ea3⟩
      obtain ⟨pt, hpt, hP⟩ := he.of hx
      have hi : i < ps.length := (List.getElem?_eq_some_iff.mp hpt).1
      refine ⟨rfl, ?_⟩
      simp only [tYes, if_true]
      refine ⟨x, rfl, x, pt, rfl, hP.same (s1.trans s3), fun H6 y s6 hy => ⟨acc, s6 _ _ e3, ?_, fun c o ec => ?_, _, upd_same, ?_⟩⟩
      · rw [ea3.1, List.length_take]
        exact small1000 (by omega)
      · rw [upd_ne (ne_of_none ec hD)]
        exact s6 _ _ (s3 _ _ ec)
      · rw [List.take_add_one, hpt]
        exact each_snoc (ea3.imp fun v x z => pp_keep (s6 _ _ e3) (z.same s6)) (pp_keep (s6 _ _ e3) hy)
    have last : ∀ D H', H1 D = none → (Same H1 H' ∧ ∃ acc, H' D = some (.lst acc) ∧ Each (PP K H') acc (ps.take us.length)) → ∃ p x, V.ref D = V.ref p ∧ ((SqL K H' p x ∧ ∀ (l : Addr), H' l = none → Q (V.ref l) (upd H' l (HO.tup x))) ∨ SqT K H' p x ∧ Q (V.ref p) H') := by
      rintro D H' hD ⟨s3, acc, e3, ea3⟩
      rw [l1, List.take_length] at ea3
      refine ⟨D, acc, rfl, .inl ⟨sl_of e3, fun l hl => ?_⟩⟩
      have s4 := same_upd (o := .tup acc) hl
      exact q _ _ _ ((s1.trans s3).trans s4) (st_of upd_same) (ea3.imp fun v x z => z.same s4)
    refine ⟨_, rfl, p, rfl, ?_⟩
    rcases hu.same s1 with hs | hs
    · refine .inl ⟨⟨_, hs⟩, fun D hD => ?_⟩
      refine lc_list (xs := us) (fun i H3 => Same H1 H3 ∧ ∃ acc, H3 D = some (.lst acc) ∧ Each (PP K H3) acc (ps.take i)) ⟨same_upd hD, _, upd_same, rfl, fun i v x e => by simp at e⟩ (fun i H3 _ h => h.1.seq hs) (key D hD) (fun H' h => ?_)
      obtain ⟨p', x', e, z⟩ := last D H' hD h
      exact ⟨p', e, x', z⟩
    · refine .inr ⟨⟨_, hs⟩, fun D hD => ?_⟩
      refine lc_tup (xs := us) (fun i H3 => Same H1 H3 ∧ ∃ acc, H3 D = some (.lst acc) ∧ Each (PP K H3) acc (ps.take i)) ⟨same_upd hD, _, upd_same, rfl, fun i v x e => by simp at e⟩ (fun i H3 _ h => same_tup h.1 hs) (key D hD) (fun H' h => ?_)
      obtain ⟨p', x', e, z⟩ := last D H' hD h
      exact ⟨p', e, x', z⟩
end
end Odd
namespace Odd
open PySem PySem.Spec PyProof.Rows L2
local macro_rules | `(tactic| walk_at "vc") => `(tactic| simp only [tSeq, tAsg, gName, tCB, tCons, tNil, tVar, tC, tOp, tUn, rI0, rI, rU, tTup, tLst, tIfS, tTest, tB, tRet, tNext, rGcd, L2.start, List.map, List.set, List.replicate, List.cons_append, List.nil_append, List.length_cons, List.length_nil, List.getElem?_cons_succ, List.getElem?_cons_zero, Option.some.injEq, exists_eq_left', exists_eq_left, List.append_nil, List.cons.injEq, V.int.injEq, exists_and_left, and_true, true_and, and_assoc, exists_const, V.bl.injEq, V.ref.injEq, Nat.sub_self, Nat.reduceAdd, Nat.reduceSub, List.replicate_succ, List.replicate_zero, tAnd, tOr, tNot, tAndV, tOrV, tNotV, tIf, tCall, tCallK, tDrop, rEq, rNe, decide_eq_true_eq, Bool.not_eq_true', decide_eq_false_iff_not, Bool.false_eq_true, if_true, if_false, reduceIte, reduceCtorEq, tMkLow, tRaiseLow, rIsB, rNotB, tBreak, tPar, gSub, rSetL, tChain, gTup, gCons, gNil, gSeq, cx_K, cx_Kn, optV, V.str.injEq, Bool.not_true, Bool.not_false, false_and, and_false, or_false, false_or, exists_false, tCallN, tCallS, tPairs])
section
variable {P : Program} {w : World} {K : PySem.W.Frag} {mg : Str → Option Value} {base : Heap} {A : Ads}
def CanS (s : P2 × P2) : Prop := CanonP s.1 ∧ CanonP s.2
def wayS (s : P2 × P2) : P2 := vSub s.2 s.1
def backB (s t : P2 × P2) : Bool := decide (vCross (wayS s) (wayS t) = (0, 1)) && decide ((vDot (wayS s) (wayS t)).1 < 0)
def spBack (K : PySem.W.Frag) : Sp := fun vs H Q _ => ∃ v u s t, vs = [v, u] ∧ Sd K H v s ∧ Sd K H u t ∧ SmS 900 s ∧ SmS 900 t ∧ CanS s ∧ CanS t ∧ RetV H (.bl (backB s t)) Q
theorem ok__goes_back (T : Txt K mg A) : FnOk P w K mg base CX0 4 A.f__goes_back A.d__goes_back ["coming", "leaving"] (spBack K) := by
  refine T._goes_back.F.ok sc__goes_back (fun vs H Q E h => ?_) (fun cdv A' outer s H vs Q E hr h => ?_)
  · obtain ⟨_, _, _, _, rfl, _⟩ := h; rfl
  · obtain ⟨v, u, s, t, rfl, hs, ht, ms, mt, cs, ct, ret⟩ := h
    obtain ⟨a, x, y, rfl, ha, hx, hy⟩ := id hs
    obtain ⟨b, z, m, rfl, hb, hz, hm⟩ := id ht
    refine ⟨_, (pss_cons (ps_set (i := 2) sc__goes_back.nd rfl (.inl rfl) (pe_call (ok_way_between T) (hr.mono (by decide)) (by rfl) T.way_between.g T.way_between.F.kp T.way_between.b .nil pass0 (pa_cons (pe_ix ix_tup (pv 0) pe_int (fun _ _ => rfl)) (pa_cons (pe_ix ix_tup (pv 0) pe_int (fun _ _ => rfl)) pa_nil))))
      (pss_cons (ps_set (i := 3) sc__goes_back.nd rfl (.inl rfl) (pe_call (ok_way_between T) (hr.mono (by decide)) (by rfl) T.way_between.g T.way_between.F.kp T.way_between.b .nil pass0 (pa_cons (pe_ix ix_tup (pv 1) pe_int (fun _ _ => rfl)) (pa_cons (pe_ix ix_tup (pv 1) pe_int (fun _ _ => rfl)) pa_nil))))
      (pss_one (ps_ret (pe_and (pe_cmpR (op_eqD hr.units) (pe_call (ok_cross_of T) (hr.mono (by decide)) (by rfl) T.cross_of.g T.cross_of.F.kp T.cross_of.b .nil pass0 (pa_cons (pv 2) (pa_cons (pv 3) pa_nil))) (pe_glob (v := .ref A.a_ZERO) (by rfl) T.g_ZERO rfl) (nomark _)) (pe_one (pe_cmpR op_lt (pe_ix ix_tup (pe_call (ok_dot_of T) (hr.mono (by decide)) (by rfl) T.dot_of.g T.dot_of.F.kp T.dot_of.b .nil pass0 (pa_cons (pv 2) (pa_cons (pv 3) pa_nil))) pe_int (fun _ _ => rfl)) pe_int (nomark _)))))))), ?_⟩
    refine seq_by fun N hN => ?_
    walk_at "vc"
    refine ixT ha rfl (ixT ha rfl ⟨x, y, _, _, rfl, hx, hy, cs.1, cs.2, ms.1.up (by decide), ms.2.up (by decide), fun H1 w1 s1 h1 => ?_⟩)
    have hb := same_tup s1 hb; have hz := hz.same s1; have hm := hm.same s1
    subst hN
    refine seq_by fun N hN => ?_
    walk_at "vc"
    refine ixT hb rfl (ixT hb rfl ⟨z, m, _, _, rfl, hz, hm, ct.1, ct.2, mt.1.up (by decide), mt.2.up (by decide), fun H2 w2 s2 h2 => ?_⟩)
    have h1 := h1.same s2
    have c1 : CanonP (wayS s) := vSub_canon cs.2 cs.1
    have c2 : CanonP (wayS t) := vSub_canon ct.2 ct.1
    have m1 : SmP 2000 (wayS s) := (vSub_sm cs.2 cs.1 ms.2 ms.1).up (by decide)
    have m2 : SmP 2000 (wayS t) := (vSub_sm ct.2 ct.1 mt.2 mt.1).up (by decide)
    have S2 := s1.trans s2
    subst hN
    walk_at "vc"
    refine ⟨w1, w2, _, _, rfl, h1, h2, c1, c2, m1, m2, fun H3 q3 s3 h3 => ?_⟩
    have hz : Pr K H3 (.ref A.a_ZERO) (0, 1) := ⟨_, rfl, T.v_ZERO H3⟩
    have h3 : Pr K H3 (.ref q3) (vCross (wayS s) (wayS t)) := ⟨_, rfl, h3⟩
    refine ⟨_, _, dp_pr h3, dp_pr hz, sh_pr _, sh_pr _, ?_⟩
    rw [eqv_pr]
    refine ⟨_, rfl, ?_⟩
    have h1 := h1.same s3; have h2 := h2.same s3
    have S3 := S2.trans s3
    have ret' : ∀ b H', b = backB s t → Same H H' → Q (.bl b) H' := fun b H' e z => by rw [e]; exact ret H' z
    unfold backB at ret'
    split
    · rename_i c
      rw [c] at ret'
      refine ⟨w1, w2, _, _, rfl, h1, h2, c1, c2, m1, m2, fun H4 q4 s4 h4 => ?_⟩
      refine ixT h4 rfl ⟨_, rfl, ret' _ _ (by rw [Bool.true_and]; rfl) (S3.trans s4)⟩
    · rename_i c
      rw [Bool.not_eq_true] at c
      rw [c] at ret'
      exact ret' _ _ (by rw [Bool.false_and]) S3
def nextB (i j n : Nat) : Bool := decide (i = j) || decide ((j + 1) % n = i) || decide ((i + 1) % n = j)
def spNext : Sp := fun vs H Q _ => ∃ i j n : Nat, vs = [.int i, .int j, .int n] ∧ 3 ≤ n ∧ n ≤ 60 ∧ i < n ∧ j < n ∧ RetV H (.bl (nextB i j n)) Q
theorem ok_are_next (T : Txt K mg A) : FnOk P w K mg base CX0 1 A.f_are_next A.d_are_next ["one", "other", "many"] spNext := by
  refine T.are_next.F.ok sc_are_next (fun vs H Q E h => ?_) (fun cdv A' outer s H vs Q E hr h => ?_)
  · obtain ⟨_, _, _, rfl, _⟩ := h; rfl
  · obtain ⟨i, j, n, rfl, h3, h60, hi, hj, ret⟩ := h
    refine ⟨_, (pss_one (ps_ret (pe_cmpR op_in_seq (pe_op op_mod (pe_op op_sub (pv 0) (pv 1)) (pv 2)) (pe_tup (pa_cons pe_int (pa_cons pe_int (pa_cons (pe_op op_sub (pv 2) pe_int) pa_nil)))) (by with_unfolding_all rfl)))), ?_⟩
    walk_at "vc"
    refine ⟨by omega, by decide, fun p hp => ⟨p, _, rfl, .inr (st_of upd_same), rfl, rfl, ?_⟩⟩
    have e : inV (V.int (((i : Int) - j) % n)) [V.int 0, V.int 1, V.int ((n : Int) - 1)] = nextB i j n := by
      have e1 : ∀ a b : Int, eqV (V.int a) (V.int b) = decide (a = b) := fun a b => by
        show (a == b) = decide (a = b)
        by_cases c : a = b <;> simp [c]
      show (List.any _ _) = _
      simp only [List.any_cons, List.any_nil, e1, Bool.or_false]
      unfold nextB
      rw [Bool.eq_iff_iff]
      simp only [Bool.or_eq_true, decide_eq_true_eq]
      have hn : (n : Int) ≠ 0 := by omega
      by_cases c : j ≤ i
      · have em : ((i : Int) - j) % n = ((i - j : Nat) : Int) := by
          rw [Int.emod_eq_of_lt (by omega) (by omega)]
          omega
        rw [em]
        by_cases d : j + 1 < n
        · rw [Nat.mod_eq_of_lt d]
          by_cases d2 : i + 1 < n
          · rw [Nat.mod_eq_of_lt d2]
            omega
          · rw [show i + 1 = n by omega, Nat.mod_self]
            omega
        · rw [show j + 1 = n by omega, show i + 1 = n by omega, Nat.mod_self]
          omega
      · have em : ((i : Int) - j) % n = ((n + i - j : Nat) : Int) := by
          have : ((i : Int) - j) = ((n + i - j : Nat) : Int) + n * (-1) := by omega
          rw [this, Int.add_mul_emod_self_left, Int.emod_eq_of_lt (by omega) (by omega)]
        rw [em]
        rw [Nat.mod_eq_of_lt (show i + 1 < n by omega)]
        by_cases d : j + 1 < n
        · rw [Nat.mod_eq_of_lt d]
          omega
        · rw [show j + 1 = n by omega, Nat.mod_self]
          omega
    rw [e]
    exact ret _ (same_upd hp)
end
end Odd
namespace Odd
open PySem PySem.Spec PyProof.Rows L2
local macro_rules | `(tactic| walk_at "vc") => `(tactic| simp only [tSeq, tAsg, gName, tCB, tCons, tNil, tVar, tC, tOp, tUn, rI0, rI, rU, tTup, tLst, tIfS, tTest, tB, tRet, tNext, rGcd, L2.start, List.map, List.set, List.replicate, List.cons_append, List.nil_append, List.length_cons, List.length_nil, List.getElem?_cons_succ, List.getElem?_cons_zero, Option.some.injEq, exists_eq_left', exists_eq_left, List.append_nil, List.cons.injEq, V.int.injEq, exists_and_left, and_true, true_and, and_assoc, exists_const, V.bl.injEq, V.ref.injEq, Nat.sub_self, Nat.reduceAdd, Nat.reduceSub, List.replicate_succ, List.replicate_zero, tAnd, tOr, tNot, tAndV, tOrV, tNotV, tIf, tCall, tCallK, tDrop, rEq, rNe, decide_eq_true_eq, Bool.not_eq_true', decide_eq_false_iff_not, Bool.false_eq_true, if_true, if_false, reduceIte, reduceCtorEq, tMkLow, tRaiseLow, rIsB, rNotB, tBreak, tPar, gSub, rSetL, tChain, gTup, gCons, gNil, gSeq, cx_K, cx_Kn, optV, V.str.injEq, Bool.not_true, Bool.not_false, false_and, and_false, or_false, false_or, exists_false, tCallN, tCallS, tPairs])
section
variable {P : Program} {w : World} {K : PySem.W.Frag} {mg : Str → Option Value} {base : Heap} {A : Ads}
theorem fAdd_sm2 {n m : Nat} {a b : Int × Int} (ca : Canon a) (cb : Canon b) (sa : Sm n a) (sb : Sm m b) : Sm (n + m + 1) (fAdd a b) := by
  obtain ⟨_, h2, h3⟩ := low_is (t := a.1 * b.2 + b.1 * a.2) (Int.mul_ne_zero (canon_ne ca) (canon_ne cb))
  have m1 := wide_lt sa.1 sb.2
  have m2 := wide_lt sb.1 sa.2
  rw [Nat.add_comm m n] at m2
  have e := two_pow (n + m)
  exact ⟨Nat.lt_of_le_of_lt h2 (by omega), Nat.lt_of_le_of_lt h3 (Nat.lt_of_lt_of_le (wide_lt sa.2 sb.2) (pow_le (by omega)))⟩
theorem vCross_sm {n : Nat} {p q : P2} (cp : CanonP p) (cq : CanonP q) (sp : SmP n p) (sq : SmP n q) : Sm (4 * n + 1) (vCross p q) := by
  have h := fSub_sm (fMul_canon cp.1 cq.2) (fMul_canon cp.2 cq.1) (fMul_sm cp.1 cq.2 sp.1 sq.2) (fMul_sm cp.2 cq.1 sp.2 sq.1)
  exact h.up (by omega)
theorem vCross_canon {p q : P2} (cp : CanonP p) (cq : CanonP q) : Canon (vCross p q) := fSub_canon (fMul_canon cp.1 cq.2) (fMul_canon cp.2 cq.1)
def areaL (ss : List (P2 × P2)) : Int × Int := ss.foldl (fun t s => fAdd t (vCross s.1 s.2)) (0, 1)
/-- the sums on the way are small -/
def AreaSm (ps : List P2) : Prop := ∀ i, i ≤ ps.length → Sm 3900 (areaL ((sideL ps).take i))
def spArea (K : PySem.W.Frag) : Sp := fun vs H Q _ => ∃ a us ps N, vs = [.ref a] ∧ SqT K H a us ∧ Each (PP K H) us ps ∧ 2 ≤ ps.length ∧ ps.length ≤ 40 ∧ (∀ p ∈ ps, CanonP p ∧ SmP N p) ∧ N ≤ 900 ∧ AreaSm ps ∧ RetP K H (areaL (sideL ps)) Q
theorem ok__doubled_area (T : Txt K mg A) : FnOk P w K mg base CX0 5 A.f__doubled_area A.d__doubled_area ["corners"] (spArea K) := by
  refine T._doubled_area.F.ok sc__doubled_area (fun vs H Q E h => ?_) (fun cdv A' outer s H vs Q E hr h => ?_)
  · obtain ⟨_, _, _, _, rfl, _⟩ := h; rfl
  · obtain ⟨a, us, ps, N0, rfl, ha, he, h2, h40, hc, hN9, hb, ret⟩ := h
    refine ⟨_, (pss_cons (ps_set (i := 1) sc__doubled_area.nd rfl (.inl rfl) (pe_glob (v := .ref A.a_ZERO) (by rfl) T.g_ZERO rfl))
      (pss_cons (ps_for PassesOwn.never rfl (pi_tup (pe_call (ok_sides_of T) (hr.mono (by decide)) (by rfl) T.sides_of.g T.sides_of.F.kp T.sides_of.b .nil pass0 (pa_cons (pv 0) pa_nil))) (pg_tup rfl (pgs_cons (pg_name (i := 2) sc__doubled_area.nd rfl (.inl rfl)) (pgs_cons (pg_name (i := 3) sc__doubled_area.nd rfl (.inl rfl)) pgs_nil))) (pss_one (ps_set (i := 1) sc__doubled_area.nd rfl (.inl rfl) (pe_call (ok_sum_of T) (hr.mono (by decide)) (by rfl) T.sum_of.g T.sum_of.F.kp T.sum_of.b .nil pass0 (pa_cons (pv 1) (pa_cons (pe_call (ok_cross_of T) (hr.mono (by decide)) (by rfl) T.cross_of.g T.cross_of.F.kp T.cross_of.b .nil pass0 (pa_cons (pv 2) (pa_cons (pv 3) pa_nil))) pa_nil))))))
      (pss_one (ps_ret (pv 1))))), ?_⟩
    refine seq_by fun N hN => ?_
    walk_at "vc"
    subst hN
    refine seq_by fun N hN => ?_
    walk_at "vc"
    refine ⟨_, rfl, _, us, ps, rfl, ha, he, h2, h40, fun H1 b ws s1 hb1 hw => ?_⟩
    have hlw : ws.length = ps.length := by rw [hw.1, sideL_len]
    have part : ∀ i, i ≤ ps.length → Canon (areaL ((sideL ps).take i)) ∧ Sm 3900 (areaL ((sideL ps).take i)) := by
      intro i hi
      refine ⟨?_, hb i hi⟩
      induction i with
      | zero => exact show Canon (0, 1) from ⟨by decide, by decide⟩
      | succ i ih =>
        have c := ih (by omega)
        have e : (sideL ps).take (i + 1) = (sideL ps).take i ++ [(ps[i], ps[(i + 1) % ps.length]'(Nat.mod_lt _ (by omega)))] := by
          rw [List.take_add_one, sideL_at (by omega)]
          rfl
        have ea : areaL ((sideL ps).take (i + 1)) = fAdd (areaL ((sideL ps).take i)) (vCross ps[i] (ps[(i + 1) % ps.length]'(Nat.mod_lt _ (by omega)))) := by
          unfold areaL
          rw [e, List.foldl_append]
          rfl
        obtain ⟨c1, m1⟩ := hc _ (List.getElem_mem (show i < ps.length by omega))
        obtain ⟨c2, m2⟩ := hc _ (List.getElem_mem (show (i + 1) % ps.length < ps.length from Nat.mod_lt _ (by omega)))
        rw [ea]
        exact fAdd_canon c (vCross_canon c1 c2)
    refine ⟨b, rfl, ⟨ws, hb1⟩, for_tup (xs := ws) (fun i σ H3 => Same H1 H3 ∧ ∃ q o2 o3, σ = [some (.ref a), some q, o2, o3] ∧ Pr K H3 q (areaL ((sideL ps).take i))) ⟨Same.refl _, _, none, none, rfl, _, rfl, T.v_ZERO _⟩ (fun i σ H3 _ h => same_tup h.1 hb1) ?_ ?_⟩
    · rintro i x σ H3 hx ⟨s3, q, o2, o3, rfl, hq⟩
      obtain ⟨sd, hsd, hS⟩ := hw.of hx
      have hi : i < ps.length := by
        have := (List.getElem?_eq_some_iff.mp hsd).1
        rw [sideL_len] at this
        exact this
      obtain ⟨pc, pm⟩ := part i (by omega)
      obtain ⟨pc', pm'⟩ := part (i + 1) (by omega)
      have eT : (sideL ps).take (i + 1) = (sideL ps).take i ++ [sd] := by
        rw [List.take_add_one, hsd]
        rfl
      rw [sideL_at hi] at hsd
      obtain rfl := Option.some.inj hsd
      obtain ⟨c1, m1⟩ := hc _ (List.getElem_mem hi)
      obtain ⟨c2, m2⟩ := hc _ (List.getElem_mem (show (i + 1) % ps.length < ps.length from Nat.mod_lt _ (by omega)))
      obtain ⟨d, y, z, rfl, hd, hy, hz⟩ := hS.same s3
      walk_at "vc"
      refine ⟨_, hd, rfl, _, _, rfl, _, _, rfl, rfl, _, _, _, _, rfl, hy, hz, c1, c2, m1.up (by omega), m2.up (by omega), fun H4 r s4 hr4 => ?_⟩
      refine ⟨_, _, _, _, rfl, hq.same s4, ⟨_, rfl, hr4⟩, pm.up (by decide), (vCross_sm c1 c2 m1 m2).up (by omega), ⟨canon_ne pc, canon_ne (vCross_canon c1 c2)⟩, fun H5 r5 s5 h5 => ⟨(s3.trans s4).trans s5, ⟨_, rfl, ?_⟩⟩⟩
      rw [eT]
      unfold areaL at h5 ⊢
      rw [List.foldl_append]
      exact h5
    · rintro σ H3 ⟨s3, q, o2, o3, rfl, hq⟩
      rw [hlw, ← sideL_len ps, List.take_length] at hq
      subst hN
      walk_at "vc"
      obtain ⟨p, rfl, hp⟩ := hq
      exact ret _ _ (s1.trans s3) hp
end
end Odd
namespace Odd
open PySem PySem.Spec PyProof.Rows L2
local macro_rules | `(tactic| walk_at "vc") => `(tactic| simp only [tSeq, tAsg, gName, tCB, tCons, tNil, tVar, tC, tOp, tUn, rI0, rI, rU, tTup, tLst, tIfS, tTest, tB, tRet, tNext, rGcd, L2.start, List.map, List.set, List.replicate, List.cons_append, List.nil_append, List.length_cons, List.length_nil, List.getElem?_cons_succ, List.getElem?_cons_zero, Option.some.injEq, exists_eq_left', exists_eq_left, List.append_nil, List.cons.injEq, V.int.injEq, exists_and_left, and_true, true_and, and_assoc, exists_const, V.bl.injEq, V.ref.injEq, Nat.sub_self, Nat.reduceAdd, Nat.reduceSub, List.replicate_succ, List.replicate_zero, tAnd, tOr, tNot, tAndV, tOrV, tNotV, tIf, tCall, tCallK, tDrop, rEq, rNe, decide_eq_true_eq, Bool.not_eq_true', decide_eq_false_iff_not, Bool.false_eq_true, if_true, if_false, reduceIte, reduceCtorEq, tMkLow, tRaiseLow, rIsB, rNotB, tBreak, tPar, gSub, rSetL, tChain, gTup, gCons, gNil, gSeq, cx_K, cx_Kn, optV, V.str.injEq, Bool.not_true, Bool.not_false, false_and, and_false, or_false, false_or, exists_false, tCallN, tCallS, tPairs])
section
variable {P : Program} {w : World} {K : PySem.W.Frag} {mg : Str → Option Value} {base : Heap} {A : Ads}
/-- sides that are no neighbours have no point in common -/
def AllApart (ss : List (P2 × P2)) : Prop := ∀ i j s t, i < j → ss[i]? = some s → ss[j]? = some t → nextB i j ss.length = false → Apart s t
def spMeeting (K : PySem.W.Frag) : Sp := fun vs H Q _ => ∃ a us ss, vs = [.ref a] ∧ SqT K H a us ∧ Each (Sd K H) us ss ∧ 3 ≤ ss.length ∧ ss.length ≤ 40 ∧ (∀ s ∈ ss, SmS 900 s) ∧ AllApart ss ∧ RetV H .non Q
theorem ok__meeting (T : Txt K mg A) : FnOk P w K mg base CX0 7 A.f__meeting A.d__meeting ["sides"] (spMeeting K) := by
  refine T._meeting.F.ok sc__meeting (fun vs H Q E h => ?_) (fun cdv A' outer s H vs Q E hr h => ?_)
  · obtain ⟨_, _, _, rfl, _⟩ := h; rfl
  · obtain ⟨a, us, ss, rfl, ha, he, h3, h40, hm, hap, ret⟩ := h
    refine ⟨_, (pss_cons (ps_set (i := 1) sc__meeting.nd rfl (.inl rfl) (pe_callB call_len_seq (by rfl) T.n_len bt_len (pa_cons (pv 0) pa_nil)))
      (pss_cons (ps_for PassesOwn.never rfl (pi_range1 rfl T.n_range (pa_cons (pv 1) pa_nil)) (pg_name (i := 2) sc__meeting.nd rfl (.inl rfl)) (pss_one (ps_for PassesOwn.never rfl (pi_range2 rfl T.n_range (pa_cons (pe_op op_add (pv 2) pe_int) (pa_cons (pv 1) pa_nil))) (pg_name (i := 3) sc__meeting.nd rfl (.inl rfl)) (pss_cons (ps_if (pt_val (pe_call (ok_are_next T) (hr.mono (by decide)) (by rfl) T.are_next.g T.are_next.F.kp T.are_next.b .nil pass0 (pa_cons (pv 2) (pa_cons (pv 3) (pa_cons (pv 1) pa_nil))))) (pss_one ps_continue) pss_nil)
      (pss_cons (ps_set (i := 4) sc__meeting.nd rfl (.inl rfl) (pe_call (ok_common_point T) (hr.mono (by decide)) (by rfl) T.common_point.g T.common_point.F.kp T.common_point.b .nil pass0 (pa_cons (pe_ix ix_tup (pv 0) (pv 2) (fun _ _ => rfl)) (pa_cons (pe_ix ix_tup (pv 0) (pv 3) (fun _ _ => rfl)) pa_nil))))
      (pss_one (ps_if (pt_cmpR op_notN (pv 4) pe_non (nomark _)) (pss_one ps_never) pss_nil)))))))
      (pss_one (ps_ret pe_non)))), ?_⟩
    refine seq_by fun N hN => ?_
    walk_at "vc"
    have l1 := he.1
    refine ⟨us, .inr ha, ?_⟩
    rw [l1]
    subst hN
    refine seq_by fun N hN => ?_
    walk_at "vc"
    refine ⟨_, rfl, _, rfl, by omega, by omega, for_range (n := (ss.length : Int).toNat) (fun i σ H' => Same H H' ∧ ∃ o2 o3 o4, σ = [some (.ref a), some (.int (ss.length : Nat)), o2, o3, o4]) ⟨Same.refl _, _, _, _, rfl⟩ ?_ ?_⟩
    · rintro i σ H2 hi ⟨s2, o2, o3, o4, rfl⟩
      have hi : i < ss.length := by omega
      rw [show ((0 : Int) + (i : Nat)) = (i : Nat) by omega]
      walk_at "vc"
      refine ⟨_, rfl, _, _, rfl, rfl, _, rfl, _, _, rfl, ⟨by omega, by omega, by omega, by omega⟩, for_range (n := (((ss.length : Nat) : Int) - ((i : Nat) + 1)).toNat) (fun j σ H' => Same H H' ∧ ∃ o3 o4, σ = [some (.ref a), some (.int (ss.length : Nat)), some (.int (i : Nat)), o3, o4]) ⟨s2, _, _, rfl⟩ ?_ ?_⟩
      · rintro d σ H3 hd ⟨s3, o3, o4, rfl⟩
        obtain ⟨j, hj⟩ : ∃ j : Nat, j = i + 1 + d := ⟨_, rfl⟩
        have hjl : j < ss.length := by omega
        rw [show (((i : Nat) : Int) + 1 + (d : Nat)) = (j : Nat) by omega]
        walk_at "vc"
        refine ⟨_, _, _, rfl, h3, by omega, hi, hjl, fun H4 s4 => ⟨_, rfl, ?_⟩⟩
        have s04 := s3.trans s4
        split
        · exact ⟨s04, _, _, rfl⟩
        · rename_i hb
          rw [Bool.not_eq_true] at hb
          have ei : ss[i]? = some ss[i] := List.getElem?_eq_getElem hi
          have ej : ss[j]? = some ss[j] := List.getElem?_eq_getElem hjl
          obtain ⟨v, hv, hS⟩ := he.at ei
          obtain ⟨u, hu, hT⟩ := he.at ej
          have ha4 := same_tup s04 ha
          refine ixT ha4 (atI_nat hv) (ixT ha4 (atI_nat hu) ⟨v, u, _, _, rfl, hS.same s04, hT.same s04, hm _ (List.getElem_mem hi), hm _ (List.getElem_mem hjl), hap i j _ _ (by omega) ei ej hb, fun H5 s5 => ?_⟩)
          show (if ¬ (V.non = V.non) then _ else _)
          rw [if_neg (fun (z : ¬ (V.non = V.non)) => z rfl)]
          exact ⟨s04.trans s5, _, rfl⟩
      · rintro σ H3 ⟨s3, o3, o4, rfl⟩
        exact ⟨s3, _, _, _, rfl⟩
    · rintro σ H2 ⟨s2, o2, o3, o4, rfl⟩
      subst hN
      walk_at "vc"
      exact ret _ s2
/-- what a row of corners must be: sides have length, none goes straight back, none meet -/
structure Whole (N : Nat) (ps : List P2) : Prop where
  len : 3 ≤ ps.length ∧ ps.length ≤ 40
  pts : ∀ p ∈ ps, CanonP p ∧ SmP N p
  n9 : N ≤ 900
  area : AreaSm ps
  areaB : AreaSm (ps.take 1 ++ (ps.drop 1).reverse)
  short : ∀ s ∈ sideL ps, s.1 ≠ s.2
  back : ∀ i s t, (sideL ps)[(i + ps.length - 1) % ps.length]? = some s → (sideL ps)[i]? = some t → backB s t = false
  apart : AllApart (sideL ps)
theorem Whole.sides {N : Nat} {ps : List P2} (w : Whole N ps) : ∀ s ∈ sideL ps, SmS 900 s ∧ CanS s := by
  intro s hs
  obtain ⟨i, hi, rfl⟩ := List.mem_iff_getElem.mp hs
  rw [sideL_len] at hi
  have e := sideL_at hi
  rw [List.getElem?_eq_getElem (by rw [sideL_len]; exact hi)] at e
  rw [Option.some.inj e]
  obtain ⟨c1, m1⟩ := w.pts _ (List.getElem_mem hi)
  obtain ⟨c2, m2⟩ := w.pts _ (List.getElem_mem (show (i + 1) % ps.length < ps.length from Nat.mod_lt _ (by omega)))
  exact ⟨⟨m1.up w.n9, m2.up w.n9⟩, c1, c2⟩
/-- the paper that says that all is well -/
def IsClosed (C : Addr) (b : Bool) (H : Hp) (x : Addr) : Prop := ∃ dx fs, H x = some (.ins C dx fs) ∧ fs.lookup ("is_left" : Str) = some (V.bl b)
end
section
variable {w : World} {K : PySem.W.Frag} {mg : Str → Option Value} {base : Heap} {A : Ads}
def spJudged (K : PySem.W.Frag) (C : Addr) : Sp := fun vs H Q _ => ∃ a us ps N, vs = [.ref a] ∧ SqT K H a us ∧ Each (PP K H) us ps ∧ Whole N ps ∧ ∀ H' x, Same H H' → H x = none → IsClosed C (decide (0 < (areaL (sideL ps)).1)) H' x → Q (.ref x) H'
theorem ok__judged (T : Txt K mg A) : FnOk PG w K mg base CX0 9 A.f__judged A.d__judged ["corners"] (spJudged K A.C_Closed) := by
  refine T._judged.F.ok sc__judged (fun vs H Q E h => ?_) (fun cdv A' outer s H vs Q E hr h => ?_)
  · obtain ⟨_, _, _, _, rfl, _⟩ := h; rfl
  · obtain ⟨a, us, ps, N0, rfl, ha, he, wh, q⟩ := h
    refine ⟨_, (pss_cons (ps_set (i := 1) sc__judged.nd rfl (.inl rfl) (pe_call (ok_sides_of T) (hr.mono (by decide)) (by rfl) T.sides_of.g T.sides_of.F.kp T.sides_of.b .nil pass0 (pa_cons (pv 0) pa_nil)))
      (pss_cons (ps_for PassesOwn.never rfl (OZ.pi_enumT rfl T.n_enumerate (pa_cons (pv 1) pa_nil)) (pg_tup rfl (pgs_cons (pg_name (i := 2) sc__judged.nd rfl (.inl rfl)) (pgs_cons (pg_name (i := 3) sc__judged.nd rfl (.inl rfl)) pgs_nil))) (pss_one (ps_if (pt_cmpR (op_eqD hr.units) (pe_ix ix_tup (pv 3) pe_int (fun _ _ => rfl)) (pe_ix ix_tup (pv 3) pe_int (fun _ _ => rfl)) (nomark _)) (pss_one ps_never) pss_nil)))
      (pss_cons (ps_for PassesOwn.never rfl (OZ.pi_enumT rfl T.n_enumerate (pa_cons (pv 1) pa_nil)) (pg_tup rfl (pgs_cons (pg_name (i := 2) sc__judged.nd rfl (.inl rfl)) (pgs_cons (pg_name (i := 3) sc__judged.nd rfl (.inl rfl)) pgs_nil))) (pss_one (ps_if (pt_val (pe_call (ok__goes_back T) (hr.mono (by decide)) (by rfl) T._goes_back.g T._goes_back.F.kp T._goes_back.b .nil pass0 (pa_cons (pe_ix ix_tup (pv 1) (pe_op op_sub (pv 2) pe_int) (fun _ _ => rfl)) (pa_cons (pv 3) pa_nil)))) (pss_one ps_never) pss_nil)))
      (pss_cons (ps_set (i := 4) sc__judged.nd rfl (.inl rfl) (pe_call (ok__meeting T) (hr.mono (by decide)) (by rfl) T._meeting.g T._meeting.F.kp T._meeting.b .nil pass0 (pa_cons (pv 1) pa_nil)))
      (pss_cons (ps_if (pt_cmpR op_notN (pv 4) pe_non (nomark _)) (pss_one ps_never) pss_nil)
      (pss_one (ps_ret (pe_make T.mk_Closed (ok_Closed_init T) (hr.mono (by decide)) (by rfl) T.m_Closed (T.b_Closed) .nil pass0 (pa_cons (pe_cmpR op_gt (pe_ix ix_tup (pe_call (ok__doubled_area T) (hr.mono (by decide)) (by rfl) T._doubled_area.g T._doubled_area.F.kp T._doubled_area.b .nil pass0 (pa_cons (pv 0) pa_nil)) pe_int (fun _ _ => rfl)) pe_int (nomark _)) pa_nil))))))))), ?_⟩
    refine seq_by fun N hN => ?_
    walk_at "vc"
    refine ⟨_, us, ps, rfl, ha, he, by have := wh.len; omega, wh.len.2, fun H1 b ws s1 hb hw => ?_⟩
    have hlw : ws.length = ps.length := by rw [hw.1, sideL_len]
    subst hN
    refine seq_by fun N hN => ?_
    walk_at "vc"
    refine ⟨_, rfl, _, ws, rfl, hb, OZ.for_enumT (xs := ws) (fun i σ H3 => Same H1 H3 ∧ ∃ o2 o3, σ = [some (.ref a), some (.ref b), o2, o3, none]) ⟨Same.refl _, _, _, rfl⟩ (fun i σ H3 h => same_tup h.1 hb) ?_ ?_⟩
    · rintro i x U σ H3 hx ⟨s3, o2, o3, rfl⟩ hU
      have s4 := s3.trans (same_upd (o := .tup [.int (i : Nat), x]) hU)
      have hU4 : SqT K (upd H3 U (.tup [.int (i : Nat), x])) U [.int (i : Nat), x] := st_of upd_same
      generalize upd H3 U (.tup [.int (i : Nat), x]) = H4 at *
      obtain ⟨sd, hsd, hS⟩ := hw.of hx
      have hmem := List.mem_of_getElem? hsd
      obtain ⟨d, y, z, rfl, hd, hy, hz⟩ := hS.same s4
      walk_at "vc"
      refine ⟨_, hU4, rfl, _, _, rfl, _, _, rfl, rfl, ?_⟩
      refine ixT hd rfl (ixT hd rfl ⟨_, _, dp_pp hy, dp_pp hz, sh_pp _, sh_pp _, ?_⟩)
      rw [eqv_pp]
      refine ⟨_, rfl, ?_⟩
      rw [if_neg (by rw [decide_eq_true_eq]; exact wh.short _ hmem)]
      exact ⟨s4, _, rfl⟩
    · rintro σ H3 ⟨s3, o2, o3, rfl⟩
      show N _ _
      have s13 := s1.trans s3
      have hb3 := same_tup s3 hb
      have ha3 := same_tup s13 ha
      have hw3 : Each (Sd K H3) ws (sideL ps) := hw.imp fun v x z => z.same s3
      clear s3 hw hb
      subst hN
      refine seq_by fun N hN => ?_
      walk_at "vc"
      refine ⟨_, rfl, _, ws, rfl, hb3, OZ.for_enumT (xs := ws) (fun i σ H4 => Same H3 H4 ∧ ∃ o2 o3, σ = [some (.ref a), some (.ref b), o2, o3, none]) ⟨Same.refl _, _, _, rfl⟩ (fun i σ H4 h => same_tup h.1 hb3) ?_ ?_⟩
      · rintro i x U σ H4 hx ⟨s4, p2, p3, rfl⟩ hU
        have s5 := s4.trans (same_upd (o := .tup [.int (i : Nat), x]) hU)
        have hU5 : SqT K (upd H4 U (.tup [.int (i : Nat), x])) U [.int (i : Nat), x] := st_of upd_same
        generalize upd H4 U (.tup [.int (i : Nat), x]) = H5 at *
        obtain ⟨sd, hsd, hS⟩ := hw3.of hx
        have hil : i < ps.length := by
          have := (List.getElem?_eq_some_iff.mp hsd).1
          rw [sideL_len] at this
          exact this
        have h3' := wh.len.1
        obtain ⟨sd2, hsd2⟩ : ∃ s, (sideL ps)[(i + ps.length - 1) % ps.length]? = some s := ⟨_, sideL_at (Nat.mod_lt _ (by omega))⟩
        obtain ⟨v2, hv2, hS2⟩ := hw3.at hsd2
        have ix : atI ws ((i : Nat) - 1 : Int) = some v2 := by
          unfold atI ixN
          by_cases c : i = 0
          · subst c
            rw [if_neg (by omega), if_pos (by omega)]
            show ws[((0 : Nat) - 1 + (ws.length : Int)).toNat]? = some v2
            rw [← hv2]
            congr 1
            rw [Nat.mod_eq_of_lt (by omega)]
            omega
          · rw [if_pos (by omega), if_pos (by omega)]
            show ws[((i : Nat) - 1 : Int).toNat]? = some v2
            rw [← hv2]
            congr 1
            have : (i + ps.length - 1) % ps.length = i - 1 := by
              rw [show i + ps.length - 1 = i - 1 + ps.length by omega, Nat.add_mod_right, Nat.mod_eq_of_lt (by omega)]
            rw [this]
            omega
        have hb5 := same_tup s5 hb3
        walk_at "vc"
        refine ⟨_, hU5, rfl, _, _, rfl, _, _, rfl, rfl, ?_⟩
        obtain ⟨m1, c1⟩ := wh.sides _ (List.mem_of_getElem? hsd)
        obtain ⟨m2, c2⟩ := wh.sides _ (List.mem_of_getElem? hsd2)
        refine ⟨_, rfl, ixT hb5 ix ⟨_, _, _, _, rfl, hS2.same s5, hS.same s5, m2, m1, c2, c1, fun H6 s6 => ?_⟩⟩
        rw [wh.back i _ _ hsd2 hsd]
        refine ⟨_, rfl, ?_⟩
        rw [if_neg Bool.false_ne_true]
        exact ⟨s5.trans s6, _, rfl⟩
      · rintro σ H4 ⟨s4, p2, p3, rfl⟩
        show N _ _
        subst hN
        refine seq_by fun N hN => ?_
        walk_at "vc"
        have hb4 := same_tup s4 hb3
        have s14 := s13.trans s4
        have hw4 : Each (Sd K H4) ws (sideL ps) := hw3.imp fun v x z => z.same s4
        refine ⟨b, ws, sideL ps, rfl, hb4, hw4, by rw [sideL_len]; exact wh.len.1, by rw [sideL_len]; exact wh.len.2, fun s hs => (wh.sides s hs).1, wh.apart, fun H5 s5 => ?_⟩
        subst hN
        refine seq_by fun N hN => ?_
        walk_at "vc"
        rw [if_neg (fun z => z trivial)]
        have s15 := s14.trans s5
        subst hN
        walk_at "vc"
        simp only [tMake]
        walk_at "vc"
        refine ⟨a, us, ps, N0, rfl, same_tup s15 ha, he.imp fun v x z => z.same s15, by have := wh.len; omega, wh.len.2, wh.pts, wh.n9, wh.area, fun H6 p s6 hp => ?_⟩
        refine ixT hp rfl ⟨_, rfl, fun x dx hx hdx hne => ?_⟩
        have s16 := s15.trans s6
        refine ⟨x, _, dx, rfl, upd_same, fun H7 fs keep hx7 hl => ⟨rfl, ?_⟩⟩
        refine q H7 x (fun c o e => ?_) ?_ ⟨dx, fs, hx7, hl⟩
        · have e6 := s16 c o e
          have cx : c ≠ x := ne_of_none e6 hx
          refine keep c o cx ?_
          rw [upd_ne cx, upd_ne (ne_of_none e6 hdx)]
          exact e6
        · cases e : H x with
          | none => rfl
          | some o =>
            rw [s16 x o e] at hx
            cases hx
end
end Odd
namespace Odd
open PySem PySem.Spec PyProof.Rows L2
local macro_rules | `(tactic| walk_at "vc") => `(tactic| simp only [tSeq, tAsg, gName, tCB, tCons, tNil, tVar, tC, tOp, tUn, rI0, rI, rU, tTup, tLst, tIfS, tTest, tB, tRet, tNext, rGcd, L2.start, List.map, List.set, List.replicate, List.cons_append, List.nil_append, List.length_cons, List.length_nil, List.getElem?_cons_succ, List.getElem?_cons_zero, Option.some.injEq, exists_eq_left', exists_eq_left, List.append_nil, List.cons.injEq, V.int.injEq, exists_and_left, and_true, true_and, and_assoc, exists_const, V.bl.injEq, V.ref.injEq, Nat.sub_self, Nat.reduceAdd, Nat.reduceSub, List.replicate_succ, List.replicate_zero, tAnd, tOr, tNot, tAndV, tOrV, tNotV, tIf, tCall, tCallK, tDrop, rEq, rNe, decide_eq_true_eq, Bool.not_eq_true', decide_eq_false_iff_not, Bool.false_eq_true, if_true, if_false, reduceIte, reduceCtorEq, tMkLow, tRaiseLow, rIsB, rNotB, tBreak, tPar, gSub, rSetL, tChain, gTup, gCons, gNil, gSeq, cx_K, cx_Kn, optV, V.str.injEq, Bool.not_true, Bool.not_false, false_and, and_false, or_false, false_or, exists_false, tCallN, tCallS, tPairs])
section
variable {P : Program} {w : World} {K : PySem.W.Frag} {mg : Str → Option Value} {base : Heap} {A : Ads}
theorem prev_at {α : Type} {us : List V} {ps : List α} {i : Nat} {v2 : V} (l1 : us.length = ps.length) (h3 : 3 ≤ ps.length) (hi : i < ps.length) (hv2 : us[(i + ps.length - 1) % ps.length]? = some v2) : atI us ((i : Nat) - 1 : Int) = some v2 := by
  unfold atI ixN
  by_cases c : i = 0
  · subst c
    rw [if_neg (by omega), if_pos (by omega)]
    show us[((0 : Nat) - 1 + (us.length : Int)).toNat]? = some v2
    rw [← hv2]
    congr 1
    rw [Nat.mod_eq_of_lt (by omega)]
    omega
  · rw [if_pos (by omega), if_pos (by omega)]
    show us[((i : Nat) - 1 : Int).toNat]? = some v2
    rw [← hv2]
    congr 1
    have : (i + ps.length - 1) % ps.length = i - 1 := by
      rw [show i + ps.length - 1 = i - 1 + ps.length by omega, Nat.add_mod_right, Nat.mod_eq_of_lt (by omega)]
    rw [this]
    omega
theorem sign3 (a : Int) : a.sign = -1 ∨ a.sign = 0 ∨ a.sign = 1 := by
  rcases Int.lt_trichotomy a 0 with h | h | h
  · exact .inl (Int.sign_eq_neg_one_of_neg h)
  · subst h; exact .inr (.inl rfl)
  · exact .inr (.inr (Int.sign_eq_one_of_pos h))
def bendsL (ps : List P2) (n : Nat) : List V := (List.range n).map fun i => V.str (bendS (bdN (ps.getD ((i + ps.length - 1) % ps.length) ((0, 0), (0, 0))) (ps.getD i ((0, 0), (0, 0))) (ps.getD ((i + 1) % ps.length) ((0, 0), (0, 0)))).sign)
theorem getD_of {ps : List P2} {i : Nat} {p : P2} (h : ps[i]? = some p) : ps.getD i ((0, 0), (0, 0)) = p := by rw [List.getD_eq_getElem?_getD, h]; rfl
def spBends (K : PySem.W.Frag) : Sp := fun vs H Q _ => ∃ a us ps, vs = [.ref a] ∧ SqT K H a us ∧ Each (PP K H) us ps ∧ 3 ≤ ps.length ∧ ps.length ≤ 40 ∧ (∀ p ∈ ps, SmP 900 p) ∧ ∀ H' b, Same H H' → SqT K H' b (bendsL ps ps.length) → Q (.ref b) H'
theorem ok__bends_of (T : Txt K mg A) : FnOk P w K mg base CX0 5 A.f__bends_of A.d__bends_of ["corners"] (spBends K) := by
  refine T._bends_of.F.ok sc__bends_of (fun vs H Q E h => ?_) (fun cdv A' outer s H vs Q E hr h => ?_)
  · obtain ⟨_, _, _, rfl, _⟩ := h; rfl
  · obtain ⟨a, us, ps, rfl, ha, he, h3, h40, hm, q⟩ := h
    refine ⟨_, (pss_one (ps_ret (pe_callTy call_tuple_of (by rfl) T.n_tuple bt_tuple (pa_cons (pe_lc (own := [("number", 1), ("start", 2), ("end", 3)]) (g := gTup K 2 (gCons (gName 1) (gCons (gTup K 2 (gCons (gName 2) (gCons (gName 3) gNil))) gNil))) (tt := tYes) rfl sc__bends_of.nd (OZ.pi_enumT (by rfl) T.n_enumerate (pa_cons (pe_call (ok_sides_of T) (hr.mono (by decide)) (by rfl) T.sides_of.g T.sides_of.F.kp T.sides_of.b .nil pass0 (pa_cons (pv 0) pa_nil)) pa_nil)) (blkOk_by (N := ["corners", "number", "start", "end"]) (sc := defScope s__bends_of) (by decide +kernel)) (fun _ _ _ _ _ => OZ.pg_tupK (K := K) (n := 2) rfl rfl (pgs_cons (pg_name (i := 1) sc__bends_of.nd rfl (Or.inl rfl)) (pgs_cons (OZ.pg_tupK (K := K) (n := 2) rfl rfl (pgs_cons (pg_name (i := 2) sc__bends_of.nd rfl (Or.inl rfl)) (pgs_cons (pg_name (i := 3) sc__bends_of.nd rfl (Or.inl rfl)) pgs_nil))) pgs_nil))) (fun _ _ _ _ _ => pts_nil) (fun _ _ _ _ _ => (pe_ix (OZ.ix_kdictIK (K := K) rfl) (pe_glob (v := .ref A.a_BENDS) (by rfl) T.g_BENDS rfl) (pe_call (ok_bend T) (hr.mono (by decide)) (by rfl) T.bend.g T.bend.F.kp T.bend.b .nil pass0 (pa_cons (pe_ix (OZ.ix_tupK (K := K) rfl) (pv 0) (pe_op op_sub (pv 1) pe_int) (fun _ _ => rfl)) (pa_cons (pv 2) (pa_cons (pv 3) pa_nil)))) (fun _ _ => rfl)))) pa_nil)))), ?_⟩
    walk_at "vc"
    have l1 := he.1
    refine ⟨_, rfl, _, us, ps, rfl, ha, he, by omega, h40, fun H1 b ws s1 hb hw => ?_⟩
    have hlw : ws.length = ps.length := by rw [hw.1, sideL_len]
    refine ⟨b, ws, rfl, hb, fun D hD => ?_⟩
    refine lc_it OZ.walk_enumT (fun i H3 => Same H1 H3 ∧ H3 D = some (.lst (bendsL ps i))) ⟨same_upd hD, upd_same⟩ (fun i H3 _ h => same_tup h.1 hb) ?_ ?_
    · rintro i x H3 H4 hi ⟨s3, e3⟩ ⟨U, y, rfl, hU, rfl, hy⟩
      have s4 := same_upd (o := .tup [.int (i : Nat), y]) hU
      have hU4 : SqT K (upd H3 U (.tup [.int (i : Nat), y])) U [.int (i : Nat), y] := st_of upd_same
      have e4 := s4 _ _ e3
      generalize upd H3 U (.tup [.int (i : Nat), y]) = H4 at *
      have S4 := s3.trans s4
      have S04 := s1.trans S4
      obtain ⟨sd, hsd, hS⟩ := hw.of hy
      have hi : i < ps.length := by omega
      rw [sideL_at hi] at hsd
      obtain rfl := Option.some.inj hsd
      obtain ⟨d, y1, y2, rfl, hd, hy1, hy2⟩ := hS.same S4
      obtain ⟨p2, hp2⟩ : ∃ p, ps[(i + ps.length - 1) % ps.length]? = some p := ⟨_, List.getElem?_eq_getElem (Nat.mod_lt _ (by omega))⟩
      obtain ⟨v2, hv2, hP2⟩ := he.at hp2
      have ix : atI us ((i : Nat) - 1 : Int) = some v2 := prev_at l1 h3 hi hv2
      have ha4 := same_tup S04 ha
      have e34 := s3
      refine ⟨U, _, rfl, hU4, rfl, ?_⟩
      walk_at "vc"
      refine ⟨_, hd, rfl, _, _, rfl, _, _, rfl, rfl, rfl, ?_⟩
      simp only [tYes, if_true]
      have P1 := hm _ (List.getElem_mem hi)
      have P3 := hm _ (List.getElem_mem (show (i + 1) % ps.length < ps.length from Nat.mod_lt _ (by omega)))
      have P2' := hm _ (List.mem_of_getElem? hp2)
      refine ⟨_, rfl, _, rfl, _, rfl, ixT ha4 ix ⟨_, rfl, _, rfl, _, _, _, _, _, _, rfl, hP2.same S04, hy1, hy2, P2', P1, P3, fun H5 s5 => ?_⟩⟩
      have hz := T.v_BENDS _ (sign3 (bdN p2 ps[i] (ps[(i + 1) % ps.length]'(Nat.mod_lt _ (by omega)))))
      have eb : bendsL ps (i + 1) = bendsL ps i ++ [V.str (bendS (bdN p2 ps[i] (ps[(i + 1) % ps.length]'(Nat.mod_lt _ (by omega)))).sign)] := by
        unfold bendsL
        rw [List.range_succ, List.map_append]
        simp only [List.map_cons, List.map_nil]
        rw [getD_of hp2, getD_of (List.getElem?_eq_getElem hi), getD_of (List.getElem?_eq_getElem (show (i + 1) % ps.length < ps.length from Nat.mod_lt _ (by omega)))]
      refine ⟨_, _, _, rfl, rfl, hz, bendsL ps i, s5 _ _ e4, ?_, fun c o e => ?_, by rw [upd_same, eb]⟩
      · unfold bendsL
        rw [List.length_map, List.length_range]
        exact small1000 (by omega)
      rw [upd_ne (ne_of_none e hD)]
      exact s5 _ _ (S4 _ _ e)
    · rintro H3 ⟨s3, e3⟩
      rw [show ws.length = ps.length from hlw] at e3
      refine ⟨D, rfl, _, .inl ⟨sl_of e3, fun l hl => q _ _ ((s1.trans s3).trans (same_upd hl)) (st_of upd_same)⟩⟩
end
end Odd
namespace Odd
open PySem PySem.Spec PyProof.Rows L2
local macro_rules | `(tactic| walk_at "vc") => `(tactic| simp only [tSeq, tAsg, gName, tCB, tCons, tNil, tVar, tC, tOp, tUn, rI0, rI, rU, tTup, tLst, tIfS, tTest, tB, tRet, tNext, rGcd, L2.start, List.map, List.set, List.replicate, List.cons_append, List.nil_append, List.length_cons, List.length_nil, List.getElem?_cons_succ, List.getElem?_cons_zero, Option.some.injEq, exists_eq_left', exists_eq_left, List.append_nil, List.cons.injEq, V.int.injEq, exists_and_left, and_true, true_and, and_assoc, exists_const, V.bl.injEq, V.ref.injEq, Nat.sub_self, Nat.reduceAdd, Nat.reduceSub, List.replicate_succ, List.replicate_zero, tAnd, tOr, tNot, tAndV, tOrV, tNotV, tIf, tCall, tCallK, tDrop, rEq, rNe, decide_eq_true_eq, Bool.not_eq_true', decide_eq_false_iff_not, Bool.false_eq_true, if_true, if_false, reduceIte, reduceCtorEq, tMkLow, tRaiseLow, rIsB, rNotB, tBreak, tPar, gSub, rSetL, tChain, gTup, gCons, gNil, gSeq, cx_K, cx_Kn, optV, V.str.injEq, Bool.not_true, Bool.not_false, false_and, and_false, or_false, false_or, exists_false, tCallN, tCallS, tPairs])
section
variable {w : World} {K : PySem.W.Frag} {mg : Str → Option Value} {base : Heap} {A : Ads}
/-- an object that is no tuple is written: the tuples stay -/
theorem keep_tupI {H : Hp} {x C dx : Addr} {fs fs' : List (Str × V)} {a : Addr} {xs : List V} (hx : H x = some (.ins C dx fs)) (h : SqT K H a xs) : SqT K (upd H x (.ins C dx fs')) a xs := by
  have ne : ∀ {o}, H a = some o → o ≠ .ins C dx fs → a ≠ x := fun e n z => n (by rw [z, hx] at e; exact (Option.some.inj e).symm)
  rcases h with (h | ⟨o, h⟩) | h
  · exact .inl (.inl (by rw [upd_ne (ne h (fun z => by cases z))]; exact h))
  · exact .inl (.inr ⟨o, by rw [upd_ne (ne h (fun z => by cases z))]; exact h⟩)
  · exact .inr h
theorem pp_keepI {H : Hp} {x C dx : Addr} {fs fs' : List (Str × V)} {v : V} {p : P2} (hx : H x = some (.ins C dx fs)) (h : PP K H v p) : PP K (upd H x (.ins C dx fs')) v p := by
  obtain ⟨a, x, y, rfl, ha, ⟨b, rfl, hb⟩, ⟨c, rfl, hc⟩⟩ := h
  exact ⟨a, _, _, rfl, keep_tupI hx ha, ⟨b, rfl, keep_tupI hx hb⟩, ⟨c, rfl, keep_tupI hx hc⟩⟩
theorem sd_keepI {H : Hp} {x C dx : Addr} {fs fs' : List (Str × V)} {v : V} {p : P2 × P2} (hx : H x = some (.ins C dx fs)) (h : Sd K H v p) : Sd K (upd H x (.ins C dx fs')) v p := by
  obtain ⟨a, y, z, rfl, ha, hy, hz⟩ := h
  exact ⟨a, _, _, rfl, keep_tupI hx ha, pp_keepI hx hy, pp_keepI hx hz⟩
/-- at x: a fence with these corners -/
def FenceAt (K : PySem.W.Frag) (C : Addr) (H : Hp) (x : Addr) (ps : List P2) : Prop := ∃ dx fs a us b ws, H x = some (.ins C dx fs) ∧ fs.lookup ("corners" : Str) = some (.ref a) ∧ SqT K H a us ∧ Each (PP K H) us ps ∧ fs.lookup ("sides" : Str) = some (.ref b) ∧ SqT K H b ws ∧ Each (Sd K H) ws (sideL ps)
theorem FenceAt.same {C : Addr} {H H' : Hp} {x : Addr} {ps : List P2} (s : Same H H') (h : FenceAt K C H x ps) : FenceAt K C H' x ps := by
  obtain ⟨dx, fs, a, us, b, ws, h1, h2, h3, h4, h5, h6, h7⟩ := h
  exact ⟨dx, fs, a, us, b, ws, s _ _ h1, h2, same_tup s h3, h4.imp fun v x z => z.same s, h5, same_tup s h6, h7.imp fun v x z => z.same s⟩
def spFenceLen (K : PySem.W.Frag) (C : Addr) : Sp := fun vs H Q _ => ∃ x ps, vs = [.ref x] ∧ FenceAt K C H x ps ∧ Q (.int (ps.length : Nat)) H
theorem ok_Fence_len (T : Txt K mg A) : FnOk PG w K mg base CX0 1 A.f_Fence_len A.d_Fence_len ["self"] (spFenceLen K A.C_Fence) := by
  refine T.Fence_len.F.ok sc_Fence_len (fun vs H Q E h => ?_) (fun cdv A' outer s H vs Q E hr h => ?_)
  · obtain ⟨_, _, rfl, _⟩ := h; rfl
  · obtain ⟨x, ps, rfl, ⟨dx, fs, a, us, b, ws, h1, h2, h3, h4, h5, h6, h7⟩, q⟩ := h
    refine ⟨_, (pss_one (ps_ret (pe_callB call_len_seq (by rfl) T.n_len bt_len (pa_cons (pe_fld (pv 0) rfl) pa_nil)))), ?_⟩
    walk_at "vc"
    refine ⟨_, rfl, x, A.C_Fence, dx, fs, .ref a, rfl, h1, T.cl_Fence, T.no_Fence_corners, h2, a, rfl, us, .inr h3, ?_⟩
    rw [h4.1]
    exact q
theorem area_part {ps : List P2} {N0 : Nat} (h2 : 2 ≤ ps.length) (hc : ∀ p ∈ ps, CanonP p ∧ SmP N0 p) : ∀ i, i ≤ ps.length → Canon (areaL ((sideL ps).take i)) := by
  intro i
  induction i with
  | zero =>
    intro _
    exact show Canon (0, 1) from ⟨by decide, by decide⟩
  | succ i ih =>
    intro hi
    have c := ih (by omega)
    have e : (sideL ps).take (i + 1) = (sideL ps).take i ++ [(ps[i], ps[(i + 1) % ps.length]'(Nat.mod_lt _ (by omega)))] := by
      rw [List.take_add_one, sideL_at (by omega)]
      rfl
    have ea : areaL ((sideL ps).take (i + 1)) = fAdd (areaL ((sideL ps).take i)) (vCross ps[i] (ps[(i + 1) % ps.length]'(Nat.mod_lt _ (by omega)))) := by
      unfold areaL
      rw [e, List.foldl_append]
      rfl
    obtain ⟨c1, m1⟩ := hc _ (List.getElem_mem (show i < ps.length by omega))
    obtain ⟨c2, m2⟩ := hc _ (List.getElem_mem (show (i + 1) % ps.length < ps.length from Nat.mod_lt _ (by omega)))
    rw [ea]
    exact fAdd_canon c (vCross_canon c1 c2)
/-- at x: a fence with these corners, all that it keeps -/
def FenceF (K : PySem.W.Frag) (C : Addr) (H : Hp) (x : Addr) (ps : List P2) : Prop := ∃ dx fs a us b ws r e, H x = some (.ins C dx fs) ∧ fs.lookup ("corners" : Str) = some (.ref a) ∧ SqT K H a us ∧ Each (PP K H) us ps ∧ fs.lookup ("sides" : Str) = some (.ref b) ∧ SqT K H b ws ∧ Each (Sd K H) ws (sideL ps) ∧
  fs.lookup ("area" : Str) = some (.ref r) ∧ SqT K H r [.int (fMul (areaL (sideL ps)) (1, 2)).1, .int (fMul (areaL (sideL ps)) (1, 2)).2] ∧ fs.lookup ("bends" : Str) = some (.ref e) ∧ SqT K H e (bendsL ps ps.length) ∧ fs.lookup ("where" : Str) = none
theorem FenceF.same {C : Addr} {H H' : Hp} {x : Addr} {ps : List P2} (s : Same H H') (h : FenceF K C H x ps) : FenceF K C H' x ps := by
  obtain ⟨dx, fs, a, us, b, ws, r, e, h1, h2, h3, h4, h5, h6, h7, h8, h9, h10, h11, h12⟩ := h
  exact ⟨dx, fs, a, us, b, ws, r, e, s _ _ h1, h2, same_tup s h3, h4.imp fun v x z => z.same s, h5, same_tup s h6, h7.imp fun v x z => z.same s, h8, same_tup s h9, h10, same_tup s h11, h12⟩
theorem FenceF.at {C : Addr} {H : Hp} {x : Addr} {ps : List P2} (h : FenceF K C H x ps) : FenceAt K C H x ps := by
  obtain ⟨dx, fs, a, us, b, ws, r, e, h1, h2, h3, h4, h5, h6, h7, _⟩ := h
  exact ⟨dx, fs, a, us, b, ws, h1, h2, h3, h4, h5, h6, h7⟩
/-- the corners left-hand round -/
def roundL (ps : List P2) : List P2 := if 0 < (areaL (sideL ps)).1 then ps else ps.take 1 ++ (ps.drop 1).reverse
theorem roundL_len (ps : List P2) (h : 1 ≤ ps.length) : (roundL ps).length = ps.length := by
  unfold roundL
  split
  · rfl
  · rw [List.length_append, List.length_take, List.length_reverse, List.length_drop]
    omega
theorem roundL_mem {ps : List P2} {p : P2} (h : p ∈ roundL ps) : p ∈ ps := by
  unfold roundL at h
  split at h
  · exact h
  · rcases List.mem_append.mp h with h | h
    · exact List.mem_of_mem_take h
    · exact List.mem_of_mem_drop (List.mem_reverse.mp h)
theorem area_smL {N : Nat} {ps : List P2} (h2 : 2 ≤ ps.length) (pts : ∀ p ∈ ps, CanonP p ∧ SmP N p) (ar : AreaSm ps) : Canon (areaL (sideL ps)) ∧ Sm 4000 (areaL (sideL ps)) := by
  have k1 := area_part h2 pts ps.length (Nat.le_refl _)
  have k2 := ar ps.length (Nat.le_refl _)
  rw [← sideL_len ps, List.take_length] at k1 k2
  exact ⟨k1, k2.up (by decide)⟩
theorem each_append {α : Type} {R : V → α → Prop} {vs ws : List V} {xs ys : List α} (h : Each R vs xs) (k : Each R ws ys) : Each R (vs ++ ws) (xs ++ ys) := by
  refine ⟨by rw [List.length_append, List.length_append, h.1, k.1], fun i v x e1 e2 => ?_⟩
  by_cases c : i < vs.length
  · rw [List.getElem?_append_left c] at e1
    rw [List.getElem?_append_left (by rw [← h.1]; exact c)] at e2
    exact h.2 i v x e1 e2
  · rw [List.getElem?_append_right (by omega)] at e1
    rw [List.getElem?_append_right (by rw [← h.1]; omega), ← h.1] at e2
    exact k.2 _ v x e1 e2
theorem each_take {α : Type} {R : V → α → Prop} {vs : List V} {xs : List α} (h : Each R vs xs) (n : Nat) : Each R (vs.take n) (xs.take n) := by
  refine ⟨by rw [List.length_take, List.length_take, h.1], fun i v x e1 e2 => ?_⟩
  rw [List.getElem?_take] at e1 e2
  split at e1
  · rename_i c
    rw [if_pos c] at e2
    exact h.2 i v x e1 e2
  · cases e1
theorem each_drop {α : Type} {R : V → α → Prop} {vs : List V} {xs : List α} (h : Each R vs xs) (n : Nat) : Each R (vs.drop n) (xs.drop n) := by
  refine ⟨by rw [List.length_drop, List.length_drop, h.1], fun i v x e1 e2 => ?_⟩
  rw [List.getElem?_drop] at e1 e2
  exact h.2 _ v x e1 e2
theorem each_reverse {α : Type} {R : V → α → Prop} {vs : List V} {xs : List α} (h : Each R vs xs) : Each R vs.reverse xs.reverse := by
  refine ⟨by rw [List.length_reverse, List.length_reverse, h.1], fun i v x e1 e2 => ?_⟩
  have hi : i < vs.length := by have := (List.getElem?_eq_some_iff.mp e1).1; rwa [List.length_reverse] at this
  rw [List.getElem?_reverse hi] at e1
  rw [List.getElem?_reverse (by rw [← h.1]; exact hi), ← h.1] at e2
  exact h.2 _ v x e1 e2
def spFenceInit (K : PySem.W.Frag) (C : Addr) : Sp := fun vs H Q _ => ∃ x dx p us ps N, vs = [.ref x, .ref p] ∧ H x = some (.ins C dx []) ∧ Sq K H p us ∧ Each (Pt K H) us ps ∧ Whole N ps ∧
  ∀ H', (∀ c o, c ≠ x → H c = some o → H' c = some o) → FenceF K C H' x (roundL ps) → Q .non H'
theorem ok_Fence_init (T : Txt K mg A) : FnOk PG w K mg base CX0 10 A.f_Fence_init A.d_Fence_init ["self", "corners"] (spFenceInit K A.C_Fence) := by
  refine T.Fence_init.F.ok sc_Fence_init (fun vs H Q E h => ?_) (fun cdv A' outer s H vs Q E hr h => ?_)
  · obtain ⟨_, _, _, _, _, _, rfl, _⟩ := h; rfl
  · obtain ⟨x, dx, p, us, ps, N0, rfl, hx, hu, he, wh, q⟩ := h
    refine ⟨_, (pss_cons (ps_set (i := 2) sc_Fence_init.nd rfl (.inl rfl) (pe_call (ok__corners_in T) (hr.mono (by decide)) (by rfl) T._corners_in.g T._corners_in.F.kp T._corners_in.b .nil pass0 (pa_cons (pv 1) pa_nil)))
      (pss_cons (ps_set (i := 3) sc_Fence_init.nd rfl (.inl rfl) (pe_call (ok__judged T) (hr.mono (by decide)) (by rfl) T._judged.g T._judged.F.kp T._judged.b .nil pass0 (pa_cons (pv 2) pa_nil)))
      (pss_cons (ps_if (pt_not (pt_boolO T.bool_Closed T.boolT ((ok_Paper_bool T).raw T.Paper_bool.b .nil) (hr.mono (by decide)) (pv 3))) (pss_one ps_never) pss_nil)
      (pss_cons (ps_if (pt_not (pt_val (pe_fld (pv 3) rfl))) (pss_one (ps_set (i := 2) sc_Fence_init.nd rfl (.inl rfl) (pe_op op_catA (pe_slice sl_tupA (pv 2) po_none (po_some pe_int)) (Os.pe_slice3 Os.sl_bkT (pv 2) po_none (po_some pe_int) (po_some (pe_un un_neg pe_int)))))) pss_nil)
      (pss_cons (ps_fld (pv 0) (pv 2) rfl)
      (pss_cons (ps_fld (pv 0) (pe_call (ok_sides_of T) (hr.mono (by decide)) (by rfl) T.sides_of.g T.sides_of.F.kp T.sides_of.b .nil pass0 (pa_cons (pv 2) pa_nil)) rfl)
      (pss_cons (ps_fld (pv 0) (pe_call (ok_product_of T) (hr.mono (by decide)) (by rfl) T.product_of.g T.product_of.F.kp T.product_of.b .nil pass0 (pa_cons (pe_call (ok__doubled_area T) (hr.mono (by decide)) (by rfl) T._doubled_area.g T._doubled_area.F.kp T._doubled_area.b .nil pass0 (pa_cons (pv 2) pa_nil)) (pa_cons (pe_tup (pa_cons pe_int (pa_cons pe_int pa_nil))) pa_nil))) rfl)
      (pss_one (ps_fld (pv 0) (pe_call (ok__bends_of T) (hr.mono (by decide)) (by rfl) T._bends_of.g T._bends_of.F.kp T._bends_of.b .nil pass0 (pa_cons (pv 2) pa_nil)) rfl))))))))), ?_⟩
    refine seq_by fun N hN => ?_
    walk_at "vc"
    have wl := wh.len
    refine ⟨_, us, ps, rfl, hu, he, wl.1, wl.2, fun H1 a vs s1 ha ea => ?_⟩
    have hx1 := s1 _ _ hx
    subst hN
    refine seq_by fun N hN => ?_
    walk_at "vc"
    refine ⟨_, vs, ps, N0, rfl, ha, ea, wh, fun H2 y s2 hy hc => ?_⟩
    have hx2 := s2 _ _ hx1
    have ha2 := same_tup s2 ha
    have ea2 : Each (PP K H2) vs ps := ea.imp fun v x z => z.same s2
    obtain ⟨dy, fy, hy2, hl⟩ := hc
    have k2 := s1.trans s2
    clear s1 s2 ha ea hu he hx1
    subst hN
    refine seq_by fun N hN => ?_
    walk_at "vc"
    simp only [tBoolO]
    refine ⟨_, rfl, y, dy, fy, rfl, hy2, y, rfl, true, rfl, ?_⟩
    walk_at "vc"
    subst hN
    refine seq_by fun N hN => ?_
    walk_at "vc"
    refine ⟨_, rfl, y, A.C_Closed, dy, fy, _, rfl, hy2, T.cl_Closed, T.no_Closed_is_left, hl, decide (0 < (areaL (sideL ps)).1), rfl, ?_⟩
    have go : ∀ H2 a vs, H2 x = some (.ins A.C_Fence dx []) → Same H H2 → SqT K H2 a vs → Each (PP K H2) vs (roundL ps) → N [some (.ref x), some (.ref p), some (.ref a), some (.ref y)] H2 := by
      clear hx2 ha2 ea2 k2 hl hy2 hy
      intro H2 a vs hx2 k2 ha2 ea2
      have rl : (roundL ps).length = ps.length := roundL_len ps (by omega)
      have rp : ∀ p ∈ roundL ps, CanonP p ∧ SmP N0 p := fun p hp => wh.pts p (roundL_mem hp)
      have ra : AreaSm (roundL ps) := by
        unfold roundL
        split
        · exact wh.area
        · exact wh.areaB
      have r3 : 3 ≤ (roundL ps).length ∧ (roundL ps).length ≤ 40 := by rw [rl]; exact wl
      generalize hrs : roundL ps = rs at *
      subst hN
      -- the corners
      refine seq_by fun N hN => ?_
      walk_at "vc"
      refine ⟨_, rfl, _, rfl, x, A.C_Fence, dx, [], rfl, hx2, T.cl_Fence, T.no_Fence_corners, by decide, ?_⟩
      have kp3 : ∀ c o, c ≠ x → H c = some o → upd H2 x (.ins A.C_Fence dx (putF "corners" (.ref a) [])) c = some o := fun c o nc e => by rw [upd_ne nc]; exact k2 _ _ e
      have ha3 := keep_tupI (fs' := putF "corners" (.ref a) []) hx2 ha2
      have ea3 : Each (PP K (upd H2 x (.ins A.C_Fence dx (putF "corners" (.ref a) [])))) vs rs := ea2.imp fun v z => pp_keepI hx2
      have hx3 : upd H2 x (.ins A.C_Fence dx (putF "corners" (.ref a) [])) x = some (.ins A.C_Fence dx (putF "corners" (.ref a) [])) := upd_same
      generalize upd H2 x (.ins A.C_Fence dx (putF "corners" (.ref a) [])) = H3 at *
      clear ha2 ea2 hx2 k2
      show N _ _
      subst hN
      -- the sides
      refine seq_by fun N hN => ?_
      walk_at "vc"
      refine ⟨_, rfl, a, vs, rs, rfl, ha3, ea3, by omega, r3.2, fun H4 b ws s4 hb hw => ⟨_, rfl, x, A.C_Fence, dx, _, rfl, s4 _ _ hx3, T.cl_Fence, T.no_Fence_sides, (by show 1 < 1000; decide), ?_⟩⟩
      have hx4 := s4 _ _ hx3
      have kp5 : ∀ c o, c ≠ x → H c = some o → upd H4 x (.ins A.C_Fence dx (putF "sides" (.ref b) (putF "corners" (.ref a) []))) c = some o := fun c o nc e => by rw [upd_ne nc]; exact s4 _ _ (kp3 _ _ nc e)
      have ha5 := keep_tupI (fs' := putF "sides" (.ref b) (putF "corners" (.ref a) [])) hx4 (same_tup s4 ha3)
      have ea5 : Each (PP K (upd H4 x (.ins A.C_Fence dx (putF "sides" (.ref b) (putF "corners" (.ref a) []))))) vs rs := ea3.imp fun v z q => pp_keepI hx4 (q.same s4)
      have hb5 := keep_tupI (fs' := putF "sides" (.ref b) (putF "corners" (.ref a) [])) hx4 hb
      have hw5 : Each (Sd K (upd H4 x (.ins A.C_Fence dx (putF "sides" (.ref b) (putF "corners" (.ref a) []))))) ws (sideL rs) := hw.imp fun v z => sd_keepI hx4
      have hx5 : upd H4 x (.ins A.C_Fence dx (putF "sides" (.ref b) (putF "corners" (.ref a) []))) x = some (.ins A.C_Fence dx (putF "sides" (.ref b) (putF "corners" (.ref a) []))) := upd_same
      generalize upd H4 x (.ins A.C_Fence dx (putF "sides" (.ref b) (putF "corners" (.ref a) []))) = H5 at *
      clear s4 hx4 hx3 ha3 ea3 hb hw kp3
      show N _ _
      subst hN
      -- the area
      refine seq_by fun N hN => ?_
      walk_at "vc"
      obtain ⟨ac, am⟩ := area_smL (by omega) rp ra
      refine ⟨_, rfl, a, vs, rs, N0, rfl, ha5, ea5, by omega, r3.2, rp, wh.n9, ra, fun H6 r s6 hr6 => ?_⟩
      refine ⟨by decide, fun t ht => ?_⟩
      have s7 := s6.trans (same_upd (o := .tup [.int 1, .int 2]) ht)
      have hr7 := same_tup (same_upd (o := .tup [.int 1, .int 2]) ht) hr6
      have ht7 : SqT K (upd H6 t (.tup [.int 1, .int 2])) t [.int 1, .int 2] := st_of upd_same
      generalize upd H6 t (.tup [.int 1, .int 2]) = H7 at *
      refine ⟨.ref r, .ref t, _, (1, 2), rfl, ⟨r, rfl, hr7⟩, ⟨t, rfl, ht7⟩, am, ⟨by show (1 : Nat) < _; exact Nat.one_lt_two_pow (by decide), by show (2 : Nat) < _; exact Nat.lt_of_lt_of_le (by decide : 2 < 2 ^ 2) (pow_le (by decide))⟩, ⟨canon_ne ac, by decide⟩, fun H8 z s8 hz => ⟨_, rfl, x, A.C_Fence, dx, _, rfl, s8 _ _ (s7 _ _ hx5), T.cl_Fence, T.no_Fence_area, (by show 2 < 1000; decide), ?_⟩⟩
      have s58 := s7.trans s8
      have hx8 := s58 _ _ hx5
      have kp9 : ∀ c o, c ≠ x → H c = some o → upd H8 x (.ins A.C_Fence dx (putF "area" (.ref z) (putF "sides" (.ref b) (putF "corners" (.ref a) [])))) c = some o := fun c o nc e => by rw [upd_ne nc]; exact s58 _ _ (kp5 _ _ nc e)
      have ha9 := keep_tupI (fs' := putF "area" (.ref z) (putF "sides" (.ref b) (putF "corners" (.ref a) []))) hx8 (same_tup s58 ha5)
      have ea9 : Each (PP K (upd H8 x (.ins A.C_Fence dx (putF "area" (.ref z) (putF "sides" (.ref b) (putF "corners" (.ref a) [])))))) vs rs := ea5.imp fun v z q => pp_keepI hx8 (q.same s58)
      have hb9 := keep_tupI (fs' := putF "area" (.ref z) (putF "sides" (.ref b) (putF "corners" (.ref a) []))) hx8 (same_tup s58 hb5)
      have hw9 : Each (Sd K (upd H8 x (.ins A.C_Fence dx (putF "area" (.ref z) (putF "sides" (.ref b) (putF "corners" (.ref a) [])))))) ws (sideL rs) := hw5.imp fun v z q => sd_keepI hx8 (q.same s58)
      have hz9 := keep_tupI (fs' := putF "area" (.ref z) (putF "sides" (.ref b) (putF "corners" (.ref a) []))) hx8 hz
      have hx9 : upd H8 x (.ins A.C_Fence dx (putF "area" (.ref z) (putF "sides" (.ref b) (putF "corners" (.ref a) [])))) x = some (.ins A.C_Fence dx (putF "area" (.ref z) (putF "sides" (.ref b) (putF "corners" (.ref a) [])))) := upd_same
      generalize upd H8 x (.ins A.C_Fence dx (putF "area" (.ref z) (putF "sides" (.ref b) (putF "corners" (.ref a) [])))) = H9 at *
      clear s58 hx8 hx5 ha5 ea5 hb5 hw5 kp5 s6 s7 s8 hr6 hr7 ht7 ht hz
      show N _ _
      subst hN
      -- the bends
      walk_at "vc"
      refine ⟨_, rfl, a, vs, rs, rfl, ha9, ea9, r3.1, r3.2, fun p hp => ((rp p hp).2).up wh.n9, fun H10 e s10 hbe => ⟨_, rfl, x, A.C_Fence, dx, _, rfl, s10 _ _ hx9, T.cl_Fence, T.no_Fence_bends, (by show 3 < 1000; decide), ?_⟩⟩
      have hx10 := s10 _ _ hx9
      refine q _ (fun c o nc ec => by rw [upd_ne nc]; exact s10 _ _ (kp9 _ _ nc ec)) ⟨dx, _, a, vs, b, ws, z, e, upd_same, ?_, keep_tupI hx10 (same_tup s10 ha9), ea9.imp fun v z q => pp_keepI hx10 (q.same s10), ?_, keep_tupI hx10 (same_tup s10 hb9), hw9.imp fun v z q => sd_keepI hx10 (q.same s10), ?_, keep_tupI hx10 (same_tup s10 hz9), ?_, keep_tupI hx10 hbe, ?_⟩
      · rw [lookup_putF, if_neg (by decide), lookup_putF, if_neg (by decide), lookup_putF, if_neg (by decide), lookup_putF, if_pos rfl]
      · rw [lookup_putF, if_neg (by decide), lookup_putF, if_neg (by decide), lookup_putF, if_pos rfl]
      · rw [lookup_putF, if_neg (by decide), lookup_putF, if_pos rfl]
      · rw [lookup_putF, if_pos rfl]
      · rw [lookup_putF, if_neg (by decide), lookup_putF, if_neg (by decide), lookup_putF, if_neg (by decide), lookup_putF, if_neg (by decide)]
        rfl
    by_cases c : 0 < (areaL (sideL ps)).1
    · rw [decide_eq_true c]
      walk_at "vc"
      exact go H2 a vs hx2 k2 ha2 (by unfold roundL; rw [if_pos c]; exact ea2)
    · rw [decide_eq_false c]
      walk_at "vc"
      have lv : vs.length = ps.length := ea2.1
      refine ⟨_, rfl, _, rfl, sl_to1 ha2 (by omega) fun p1 hp1 => ?_⟩
      have t1 := same_upd (o := .tup (vs.take 1)) hp1
      have h1 : SqT K (upd H2 p1 (.tup (vs.take 1))) p1 (vs.take 1) := st_of upd_same
      generalize upd H2 p1 (.tup (vs.take 1)) = H3 at *
      show Os.tSl3 (Os.rBkT K) (tVar 2) tNoPart (tPart (tC (V.int 0))) (tPart (tUn (rU fun i => V.int (-i)) (tC (V.int 1)))) [some (V.ref x), some (V.ref p), some (V.ref a), some (V.ref y)] H3 _
      simp only [Os.tSl3, tNoPart, tPart]
      walk_at "vc"
      refine ⟨a, vs, rfl, same_tup t1 ha2, rfl, .inr rfl, rfl, fun p2 hp2 => ?_⟩
      have t2 := same_upd (o := .tup (Os.backV vs (some 0))) hp2
      have h2 : SqT K (upd H3 p2 (.tup (Os.backV vs (some 0)))) p2 ((vs.drop 1).reverse) := st_of upd_same
      generalize upd H3 p2 (.tup (Os.backV vs (some 0))) = H4 at *
      have T2 := t1.trans t2
      have ne1 : vs.take 1 ≠ [] := by
        intro z
        have := congrArg List.length z
        rw [List.length_take, List.length_nil] at this
        omega
      have ne2 : (vs.drop 1).reverse ≠ [] := by
        intro z
        have := congrArg List.length z
        rw [List.length_reverse, List.length_drop, List.length_nil] at this
        omega
      refine ⟨p1, p2, _, _, rfl, rfl, same_tup t2 h1, h2, ?_, fun z => absurd z ne1, fun _ z => absurd z ne2, fun _ _ p3 hp3 => ?_⟩
      · rw [List.length_take, List.length_reverse, List.length_drop]
        exact Nat.le_of_lt (small1000 (by omega))
      · have t3 := same_upd (o := .tup (vs.take 1 ++ (vs.drop 1).reverse)) hp3
        refine go _ p3 _ (t3 _ _ (T2 _ _ hx2)) ((k2.trans T2).trans t3) (st_of upd_same) ?_
        unfold roundL
        rw [if_neg c]
        have e4 : Each (PP K (upd H4 p3 (.tup (vs.take 1 ++ (vs.drop 1).reverse)))) vs ps := ea2.imp fun v z q => (q.same T2).same t3
        exact each_append (each_take e4 1) (each_reverse (each_drop e4 1))
end
end Odd
/-! sorted, len(set(..)) of a list or tuple of ints -/
namespace PyProof.Rows
open PySem
section
variable {prog : Program} {w : World} {A : Around} {s : Shared} {E : Value → Shared → Prop}
theorem collect_tupO {l : Addr} {vs : List Value} {Q : List Value → Shared → Prop} (hl : s.heap.IsTuple l vs.toArray)
    (h : Q vs { s with heap := (s.heap.push (seqObj "list" #[] 0)).update s.heap.objs.size (Obj.mapSeq (· ++ vs.toArray)) }) (hsz : vs.length ≤ sizeLine) :
    wpAny (model prog w) A (collect (.ref l)) Q E s := by
  obtain ⟨o, ho, hc, n, hd⟩ := id hl
  unfold collect
  refine wpAny_bind (wpAny_runValue (codeAny_builtin entry_proto_collect' ?_))
  show wpAny _ _ (do again (.builtin "list.__iadd__" ⟨[← newList [], .ref l], []⟩)) _ _ s
  refine wpAny_bind (wpAny_newList (wpAny_pure ⟨Code.quiet_builtin _ (by decide +kernel), codeAny_builtin entry_list_iadd' ?_⟩))
  show wpAny _ _ (Builtin.List.listExtendWith (.ref s.heap.objs.size) (.ref l) (.ref s.heap.objs.size)) _ _ { s with heap := s.heap.push (seqObj "list" #[] 0) }
  unfold Builtin.List.listExtendWith
  have ho' : (s.heap.push (seqObj "list" #[] 0)).get? l = some o := Heap.get?_push_of_some _ ho
  refine wpAny_bind (wpAny_typeOf (T := "tuple") ⟨o, ho', hc⟩ ?_)
  have ht : (Value.type "tuple" == Value.type "tuple") = true := by rfl
  rw [if_pos (by rw [ht]; simp)]
  refine wpAny_bind (listItems_at ho' hd ?_)
  refine wpAny_bind (listItems_at (xs := #[]) (n := 0) (Heap.get?_push_size _ rfl) rfl ?_)
  rw [if_neg (by simp)]
  refine wpAny_bind (listUpdate_at (xs := #[]) (n := 0) (Heap.get?_push_size _ rfl) rfl ?_ (Nat.zero_le _) (by show (#[] ++ vs.toArray).size ≤ sizeLine + 1; simp only [Array.size_append, List.size_toArray, List.length_nil]; omega))
  refine wpAny_pure ?_
  show wpAny (model prog w) A (do
      let o ← load s.heap.objs.size
      match o.data with
      | .seq xs _ => pure xs.toList
      | _ => unsupported "internal:collect") Q E { s with heap := (s.heap.push (seqObj "list" #[] 0)).update s.heap.objs.size (Obj.mapSeq (· ++ vs.toArray)) }
  refine wpAny_bind (wpAny_load (get?_update_seq (Heap.get?_push_size _ rfl) _) ?_)
  show wpAny _ _ (pure ((#[] : Array Value) ++ vs.toArray).toList) Q E _
  rw [show ((#[] : Array Value) ++ vs.toArray).toList = vs by simp]
  exact wpAny_pure h
theorem sorted_intsO {l : Addr} {vs : List Value} {ns : List Int} {Q : Value → Shared → Prop} (hl : s.heap.IsTuple l vs.toArray) (hI : IntsAre vs ns) (h64 : vs.length < 64)
    (h : ∀ (out : Array Value) (ns' : List Int), IntsAre out.toList ns' → ns'.Perm ns → ns'.Pairwise (· ≤ ·) → Q (.ref (s.heap.objs.size + 1)) { s with heap := sortedAll s.heap vs out }) :
    wpAny (model prog w) A (call (.builtin "sorted") [.ref l]) Q E s := by
  refine Calls.call_function_entry kind_sorted plain_sorted entry_sorted (args_sorted1 _) ?_
  unfold Builtin.«sorted»
  refine wpAny_bind (m := checkCount "sorted" 1 1 _) (wpAny_pure ?_)
  refine wpAny_bind (collect_tupO hl ?_ (L2.small64 h64))
  refine wpAny_bind (wpAny_newList ?_)
  have hsz : ((s.heap.push (seqObj "list" #[] 0)).update s.heap.objs.size (Obj.mapSeq (· ++ vs.toArray))).objs.size = s.heap.objs.size + 1 := by
    rw [Heap.size_update, size_push']
  have hoL : (((s.heap.push (seqObj "list" #[] 0)).update s.heap.objs.size (Obj.mapSeq (· ++ vs.toArray))).push (seqObj "list" vs.toArray 0)).get? (s.heap.objs.size + 1) = some (seqObj "list" vs.toArray 0) := by
    rw [← hsz]; exact Heap.get?_push_size _ rfl
  show wpAny _ _ _ _ _ { s with heap := ((s.heap.push (seqObj "list" #[] 0)).update s.heap.objs.size (Obj.mapSeq (· ++ vs.toArray))).push (seqObj "list" vs.toArray 0) }
  rw [hsz]
  refine wpAny_bind (wpAny_holding (wpAny_call_entry slot_list_sort ⟨_, hoL, rfl⟩ entry_list_sort (list_sort_tree hoL hI h64 fun out ns' a1 a2 a3 => ⟨_, rfl, ?_⟩) (args_list_sort _)))
  exact wpAny_pure ⟨_, rfl, h out ns' a1 a2 a3⟩
end
end PyProof.Rows
namespace L2
open PySem PySem.Spec PyProof.Rows
section
variable {X : Cx}
/-- sorted(xs), a list or a tuple of ints -/
def rSortedB (K : PySem.W.Frag) : List V → Hp → VK → Prop := fun vs H Q => ∃ (a : Addr) (ns : List Int), vs = [V.ref a] ∧ (SqL K H a (ns.map V.int) ∨ SqT K H a (ns.map V.int)) ∧ ns.length < 64 ∧
  ∀ (ns' : List Int) (p : Addr), ns'.Perm ns → ns'.Pairwise (· ≤ ·) → H p = none → Q (.ref p) (upd H p (.lst (ns'.map V.int)))
theorem cr_sortedB : CallR X (.builtin "sorted") (rSortedB X.K) := by
  intro pins s σ H vs us Q I r h
  obtain ⟨a, ns, rfl, hs, h64, q⟩ := h
  rcases hs with hs | hs
  · exact cr_sorted pins s σ H _ us Q I r ⟨a, ns, rfl, hs, h64, q⟩
  · obtain ⟨its, rv, hl, _⟩ := I.tuple hs
    rw [Vals.ref1 r]
    have hi := rv.ints
    refine PyProof.Rows.sorted_intsO hl hi (by rw [hi.length]; exact h64) fun out ns' h1 h2 h3 => ?_
    obtain ⟨ep, he'⟩ := PyProof.Rows.sortedAll_at s.heap its out
    have hlen : (ns'.map V.int).length ≤ sizeLine := by rw [List.length_map, h2.length_eq]; exact small64 h64
    exact ⟨.ref _, upd H (s.heap.objs.size + 1) (.lst (ns'.map V.int)), I.laid (t' := s.toks) (fun _ _ => PyProof.Rows.sortedAll_old) (Nat.le_succ _) ⟨hlen, out.toList, ep, vals_of_ints h1, he'⟩, rfl, q ns' _ h2 h3 (I.hok.fresh (Nat.le_succ _))⟩
def tLenSetB (K : PySem.W.Frag) (ta : TE) : TE := fun σ H Q => ta σ H fun x H1 => ∃ (l : Addr) (ns : List Int), x = V.ref l ∧ (SqL K H1 l (ns.map V.int) ∨ SqT K H1 l (ns.map V.int)) ∧ ns.length < 64 ∧ ns.Nodup ∧ Q (.int ns.length) H1
theorem pe_lenSetB {a : Expr} {ta : TE} {p p2 q pos : Pos} (hc : X.calm = true) (hg : Gl X "len") (hm : X.mg "len" = none) (hg2 : Gl X "set") (hm2 : X.mg "set" = none) (ha : PE X a ta)
    (na : starEach [a] X.env = (false, eval a X.env) :: starEach [] X.env := by rfl) : PE X (.Call (.Name "len" p) [.Call (.Name "set" p2) [a] [] q] [] pos) (tLenSetB X.K ta) := by
  refine ⟨fun pins s σ H Q I h => ?_⟩
  refine Call_ (ld_blt I hg hm PySem.boot_len ?_)
  refine PyProof.Rows.callWith_builtin1 (PyProof.Rows.args_cons ?_ rfl) rfl rfl
  refine Call_ (ld_blt I hg2 hm2 PyProof.Rows.boot_set ?_)
  refine PyProof.Rows.callWith_type1 (PyProof.Rows.args_cons (thn (ha.run pins s σ H _ I h) fun v s1 ⟨x, H1, I1, r1, q1⟩ => PyProof.Rows.args_nil ?_) na) na rfl
  obtain ⟨l, ns, rfl, hq, h1, hnd, q1⟩ := q1
  cases r1
  rcases hq with hq | hq
  · obtain ⟨its, r, pl, hz⟩ := I1.list hq
    have hl : its.toArray.size = ns.length := by rw [List.size_toArray, ← r.length, List.length_map]
    refine call_set_list (I1.ok.hd hc) pl.isList (ns := ns) (by simpa using r.ints) (by unfold scanBound; omega) fun h' tk hS hk => ?_
    rw [hl, firstMet_nodup ns hnd ns.length (Nat.le_refl _), List.take_length] at hS
    refine PyProof.Rows.args_nil ?_
    obtain ⟨o, es, ep, t, ho, hex, hd, _, _, _, hf, hn⟩ := hS
    have I2 : Inv X pins σ H1 { s1 with heap := h', toks := tk } := I1.kept fun b o e => hk b o (Heap.lt_size e) e
    refine call_len_set ho hex hd hf (by rw [hn] <;> omega) ⟨.int ns.length, H1, I2.tok _, ⟨_, by rw [hn]⟩, q1⟩
  · obtain ⟨its, r, pl, hz⟩ := I1.tuple hq
    have hi : IntsAre its.toArray.toList ns := ints_of_vals r
    refine call_set_tupI ns (I1.ok.hd hc) (show s1.heap.IsTuple l its.toArray from pl) hi (by unfold scanBound; omega) fun h' tk c R1 hcn hk => ?_
    refine PyProof.Rows.args_nil ?_
    obtain ⟨o, es, ep, t, ho, hex, hd, g, nd, hm2, hb, hf, hn, hr, hl2⟩ := R1
    have hn' : es.size = ns.length := by
      have pm : (es.toList.map keyOf).Perm ns := (List.perm_ext_iff_of_nodup nd hnd).mpr fun k => by rw [← hm2 k, decide_eq_true_eq]
      have := pm.length_eq
      rw [List.length_map] at this
      rw [← this, Array.length_toList]
    have I2 : Inv X pins σ H1 { s1 with heap := h', toks := tk } := I1.kept fun b o e => hk b o e
    refine call_len_set ho hex hd hf (by rw [hn'] <;> omega) ⟨.int ns.length, H1, I2.tok _, ⟨_, by rw [hn']⟩, q1⟩
end
end L2
/-! == and != of two lists, two tuples of the same objects -/
namespace L2
open PySem PySem.Spec PyProof.Rows PySem.SeqAt
section
variable {X : Cx}
/-- lists, or tuples, of the same objects -/
def SameS (K : PySem.W.Frag) (H : Hp) (x y : V) (us : List V) : Prop := ∃ a b, x = .ref a ∧ y = .ref b ∧ (∀ u ∈ us, ∃ c, u = V.ref c) ∧ ((SqL K H a us ∧ SqL K H b us) ∨ (SqT K H a us ∧ SqT K H b us))
def rEqS (K : PySem.W.Frag) : R2 := fun x y H Q => (∃ us, SameS K H x y us) ∧ Q (.bl true) H
def rNeS (K : PySem.W.Frag) : R2 := fun x y H Q => (∃ us, SameS K H x y us) ∧ Q (.bl false) H
theorem same_items {us : List V} {vs ws : List Value} (h : ∀ u ∈ us, ∃ c, u = V.ref c) (r : Vals us vs) (t : Vals us ws) : vs = ws := by
  induction r generalizing ws with
  | nil => cases t; rfl
  | cons r _ ih =>
    cases t with
    | cons r' t =>
      obtain ⟨c, rfl⟩ := h _ (.head _)
      cases r
      cases r'
      rw [ih (fun u hu => h u (.tail _ hu)) t]
theorem op_eqS (hu : X.A.units < cLine) : OpR X (compareOp .Eq) (rEqS X.K) := by
  intro pins s σ H x y v u Q I rx ry h
  obtain ⟨⟨us, a, b, rfl, rfl, hr, h⟩, q⟩ := h
  cases rx
  cases ry
  rcases h with ⟨h1, h2⟩ | ⟨h1, h2⟩
  · obtain ⟨i1, r1, l1, _⟩ := I.list h1
    obtain ⟨i2, r2, l2, _⟩ := I.list h2
    have e := same_items hr r1 r2
    subst e
    refine eq_listAt (e := fun _ => true) l1.isList l2.isList rfl hu (fun j h1 h2 => EqAt.same _) ?_
    rw [show (List.range i1.toArray.size).all (fun _ => true) = true by simp]
    exact ⟨.bl true, H, I, rfl, q⟩
  · obtain ⟨i1, r1, l1, _⟩ := I.tuple h1
    obtain ⟨i2, r2, l2, _⟩ := I.tuple h2
    have e := same_items hr r1 r2
    subst e
    refine eq_tupleAt (e := fun _ => true) l1 l2 hu (fun j h1 h2 => EqAt.same _) ?_
    rw [show ((List.range (min i1.toArray.size i1.toArray.size)).all (fun _ => true) && i1.toArray.size == i1.toArray.size) = true by simp]
    exact ⟨.bl true, H, I, rfl, q⟩
theorem op_neS (hu : X.A.units < cLine) : OpR X (compareOp .NotEq) (rNeS X.K) := by
  intro pins s σ H x y v u Q I rx ry h
  obtain ⟨⟨us, a, b, rfl, rfl, hr, h⟩, q⟩ := h
  cases rx
  cases ry
  rcases h with ⟨h1, h2⟩ | ⟨h1, h2⟩
  · obtain ⟨i1, r1, l1, _⟩ := I.list h1
    obtain ⟨i2, r2, l2, _⟩ := I.list h2
    have e := same_items hr r1 r2
    subst e
    refine RcNeAt.lists (e := fun _ => true) l1.isList l2.isList rfl hu (fun j h1 h2 => EqAt.same _) X.prog X.w _ _ ?_
    rw [show (!(List.range i1.toArray.size).all (fun _ => true)) = false by simp]
    exact ⟨.bl false, H, I, rfl, q⟩
  · obtain ⟨i1, r1, l1, _⟩ := I.tuple h1
    obtain ⟨i2, r2, l2, _⟩ := I.tuple h2
    have e := same_items hr r1 r2
    subst e
    refine RcNeAt.tuples (e := fun _ => true) l1 l2 hu (fun j h1 h2 => EqAt.same _) X.prog X.w _ _ ?_
    rw [show (!((List.range (min i1.toArray.size i1.toArray.size)).all (fun _ => true) && i1.toArray.size == i1.toArray.size)) = false by simp]
    exact ⟨.bl false, H, I, rfl, q⟩
end
end L2
/-! xs == [] -/
namespace L2
open PySem PySem.Spec PyProof.Rows PySem.SeqAt
section
variable {X : Cx}
def rEqN (K : PySem.W.Frag) : R2 := fun x y H Q => ∃ a b us, x = .ref a ∧ y = .ref b ∧ SqL K H a us ∧ SqL K H b [] ∧ Q (.bl (decide (us = []))) H
theorem op_eqN (hu : X.A.units < cLine) : OpR X (compareOp .Eq) (rEqN X.K) := by
  intro pins s σ H x y v u Q I rx ry h
  obtain ⟨a, b, us, rfl, rfl, h1, h2, q⟩ := h
  cases rx
  cases ry
  obtain ⟨i1, r1, l1, _⟩ := I.list h1
  obtain ⟨i2, r2, l2, _⟩ := I.list h2
  cases r2
  cases r1 with
  | nil =>
    refine eq_listAt (e := fun _ => true) l1.isList l2.isList rfl hu (fun j h1 h2 => EqAt.same _) ?_
    exact ⟨.bl true, H, I, rfl, by simpa using q⟩
  | cons r t =>
    refine eq_list_lengthsAt l1.isList l2.isList (by simp) hu ?_
    exact ⟨.bl false, H, I, rfl, by simpa using q⟩
end
end L2
namespace Odd
open PySem PySem.Spec PyProof.Rows L2
local macro_rules | `(tactic| walk_at "vc") => `(tactic| simp only [tSeq, tAsg, gName, tCB, tCons, tNil, tVar, tC, tOp, tUn, rI0, rI, rU, tTup, tLst, tIfS, tTest, tB, tRet, tNext, rGcd, L2.start, List.map, List.set, List.replicate, List.cons_append, List.nil_append, List.length_cons, List.length_nil, List.getElem?_cons_succ, List.getElem?_cons_zero, Option.some.injEq, exists_eq_left', exists_eq_left, List.append_nil, List.cons.injEq, V.int.injEq, exists_and_left, and_true, true_and, and_assoc, exists_const, V.bl.injEq, V.ref.injEq, Nat.sub_self, Nat.reduceAdd, Nat.reduceSub, List.replicate_succ, List.replicate_zero, tAnd, tOr, tNot, tAndV, tOrV, tNotV, tIf, tCall, tCallK, tDrop, rEq, rNe, decide_eq_true_eq, Bool.not_eq_true', decide_eq_false_iff_not, Bool.false_eq_true, if_true, if_false, reduceIte, reduceCtorEq, tMkLow, tRaiseLow, rIsB, rNotB, tBreak, tPar, gSub, rSetL, tChain, gTup, gCons, gNil, gSeq, cx_K, cx_Kn, optV, V.str.injEq, Bool.not_true, Bool.not_false, false_and, and_false, or_false, false_or, exists_false, tCallN, tCallS, tPairs])
section
variable {w : World} {K : PySem.W.Frag} {mg : Str → Option Value} {base : Heap} {A : Ads}
def FenceV (K : PySem.W.Frag) (C : Addr) (H : Hp) (v : V) (ps : List P2) : Prop := ∃ x, v = .ref x ∧ FenceAt K C H x ps
theorem FenceV.same {C : Addr} {H H' : Hp} {v : V} {ps : List P2} (s : Same H H') (h : FenceV K C H v ps) : FenceV K C H' v ps := by
  obtain ⟨x, e, h⟩ := h
  exact ⟨x, e, h.same s⟩
def spFencesIn (K : PySem.W.Frag) (C : Addr) : Sp := fun vs H Q _ => ∃ p us pss, vs = [.ref p] ∧ Sq K H p us ∧ Each (FenceV K C H) us pss ∧ 1 ≤ pss.length ∧ pss.length ≤ 6 ∧ ∀ H' b, Same H H' → SqT K H' b us → Q (.ref b) H'
theorem ok__fences_in (T : Txt K mg A) : FnOk PG w K mg base CX0 4 A.f__fences_in A.d__fences_in ["fences"] (spFencesIn K A.C_Fence) := by
  obtain ⟨tkM, hMost⟩ := T.g_MOST_FENCES
  refine T._fences_in.F.ok sc__fences_in (fun vs H Q E h => ?_) (fun cdv A' outer s H vs Q E hr h => ?_)
  · obtain ⟨_, _, _, rfl, _⟩ := h; rfl
  · obtain ⟨p, us, pss, rfl, hu, he, h1, h6, q⟩ := h
    have l1 := he.1
    refine ⟨_, (pss_cons (ps_if (PW.pt (pw_or (pt_not (pt_val (pe_call (ok_is_row T) (hr.mono (by decide)) (by rfl) T.is_row.g T.is_row.F.kp T.is_row.b .nil pass0 (pa_cons (pv 0) pa_nil)))) (pw_or1 (pt_not (pt_val (pe_call (ok_is_within T) (hr.mono (by decide)) (by rfl) T.is_within.g T.is_within.F.kp T.is_within.b .nil pass0 (pa_cons (pe_callB call_len_seq (by rfl) T.n_len bt_len (pa_cons (pv 0) pa_nil)) (pa_cons pe_int (pa_cons (pe_glob (v := .int 6) (by rfl) hMost ⟨tkM, rfl⟩) pa_nil))))))))) (pss_one ps_never) pss_nil)
      (pss_cons (ps_if (pt_not (pt_val (pe_callB (cr_all rfl) (by rfl) T.n_all bt_all (pa_cons (pe_lc (own := [("fence", 1)]) (g := gName 1) (tt := tYes) rfl sc__fences_in.nd (pi_any (pv 0)) (blkOk_by (N := ["fences", "fence"]) (sc := defScope s__fences_in) (by decide +kernel)) (fun _ _ _ _ _ => pg_name (i := 1) sc__fences_in.nd rfl (Or.inl rfl)) (fun _ _ _ _ _ => pts_nil) (fun _ _ _ _ _ => (pe_callB (C8.call_isC T.is_Fence) (by rfl) T.n_isinstance bt_isinstance (pa_cons (pv 1) (pa_cons (pe_glob (v := .ref A.C_Fence) (by rfl) T.m_Fence rfl) pa_nil))))) pa_nil)))) (pss_one ps_never) pss_nil)
      (pss_one (ps_ret (pe_callTy call_tuple_of (by rfl) T.n_tuple bt_tuple (pa_cons (pv 0) pa_nil)))))), ?_⟩
    refine seq_by fun N hN => ?_
    walk_at "vc"
    obtain ⟨U, hU, eU⟩ := hu.ty
    refine ⟨_, U, rfl, hU, fun H1 s1 => ⟨_, rfl, ?_⟩⟩
    rw [eU]
    refine iteF' rfl ⟨us, hu.same s1, _, some 1, some 6, rfl, .inr ⟨_, rfl, fun H2 s2 => ⟨_, rfl, ?_⟩⟩⟩
    have eb : ((some (1 : Int)).all (fun l => decide (l ≤ (us.length : Int))) && (some (6 : Int)).all (fun m => decide ((us.length : Int) ≤ m))) = true := by
      rw [Option.all_some, Option.all_some, ← Bool.decide_and]
      exact decide_eq_true (by omega)
    rw [eb]
    refine iteF' rfl ?_
    have s02 := s1.trans s2
    subst hN
    refine seq_by fun N hN => ?_
    walk_at "vc"
    have key : ∀ D : Addr, H2 D = none → ∀ i x H3, us[i]? = some x → (Same H2 H3 ∧ H3 D = some (.lst ((List.replicate i true).map V.bl))) →
        gName 1 x (wipe [some (.ref p), none] [1]) H3 fun σ2 H4 => wipe σ2 [1] = wipe [some (.ref p), none] [1] ∧ tYes σ2 H4 fun b H5 =>
          if b = true then tCB (fun xs H Q => ∃ a, xs = [.ref a, .ref A.C_Fence] ∧ ∃ dx fs, H a = some (.ins A.C_Fence dx fs) ∧ Q (.bl true) H) (tCons (tVar 1) (tCons (tC (.ref A.C_Fence)) tNil)) σ2 H5 fun y H6 => ∃ acc, H6 D = some (.lst acc) ∧ acc.length < sizeLine ∧ (fun i H => Same H2 H ∧ H D = some (.lst ((List.replicate i true).map V.bl))) (i + 1) (upd H6 D (.lst (acc ++ [y]))) else (fun i H => Same H2 H ∧ H D = some (.lst ((List.replicate i true).map V.bl))) (i + 1) H5 := by
      rintro D hD i x H3 hx ⟨s3, e3⟩
      obtain ⟨ps, hps, y, rfl, hF⟩ := he.of hx
      have hi : i < pss.length := (List.getElem?_eq_some_iff.mp hps).1
      obtain ⟨dx, fs, _, _, _, _, hF, _⟩ := hF.same (s02.trans s3)
      refine ⟨rfl, ?_⟩
      simp only [tYes, if_true]
      refine ⟨_, rfl, y, rfl, dx, fs, hF, _, e3, ?_, fun c o ec => ?_, ?_⟩
      · rw [List.length_map, List.length_replicate]
        exact small1000 (by omega)
      · rw [upd_ne (ne_of_none ec hD)]
        exact s3 _ _ ec
      · rw [upd_same, List.replicate_succ', List.map_append]
        rfl
    have last : ∀ D H', H2 D = none → (Same H2 H' ∧ H' D = some (.lst ((List.replicate us.length true).map V.bl))) → ∃ (a : Addr) (bs' : List Bool), [V.ref D] = [V.ref a] ∧ SqL K H' a (bs'.map V.bl) ∧ (if bs'.all id = false then tNever { nx := N, rt := Q } [some (V.ref p), none] H' else N [some (V.ref p), none] H') := by
      rintro D H' hD ⟨s3, e3⟩
      refine ⟨D, _, rfl, sl_of e3, ?_⟩
      rw [if_neg (by simp)]
      subst hN
      walk_at "vc"
      rcases hu.same (s02.trans s3) with hs | hs
      · exact ⟨us, .inl ⟨hs, fun l hl => q _ _ ((s02.trans s3).trans (same_upd hl)) (st_of upd_same)⟩⟩
      · exact ⟨us, .inr ⟨hs, q _ _ (s02.trans s3) hs⟩⟩
    have last' : ∀ D H', H2 D = none → (Same H2 H' ∧ H' D = some (.lst ((List.replicate us.length true).map V.bl))) → rAll K [.ref D] H' (fun x H1 => ∃ c, x = V.bl c ∧ if c = false then tNever { nx := N, rt := Q } [some (V.ref p), none] H1 else N [some (V.ref p), none] H1) := by
      intro D H' hD h
      obtain ⟨a, bs, e, hs, z⟩ := last D H' hD h
      exact ⟨a, bs, e, hs, _, rfl, z⟩
    refine ⟨_, rfl, p, rfl, ?_⟩
    rcases hu.same s02 with hs | hs
    · refine .inl ⟨⟨_, hs⟩, fun D hD => ?_⟩
      exact lc_list (xs := us) (fun i H3 => Same H2 H3 ∧ H3 D = some (.lst ((List.replicate i true).map V.bl))) ⟨same_upd hD, upd_same⟩ (fun i H3 _ h => h.1.seq hs) (key D hD) (fun H' h => last' D H' hD h)
    · refine .inr ⟨⟨_, hs⟩, fun D hD => ?_⟩
      exact lc_tup (xs := us) (fun i H3 => Same H2 H3 ∧ H3 D = some (.lst ((List.replicate i true).map V.bl))) ⟨same_upd hD, upd_same⟩ (fun i H3 _ h => same_tup h.1 hs) (key D hD) (fun H' h => last' D H' hD h)
end
end Odd
namespace Odd
open PySem PySem.Spec PyProof.Rows L2
local macro_rules | `(tactic| walk_at "vc") => `(tactic| simp only [tSeq, tAsg, gName, tCB, tCons, tNil, tVar, tC, tOp, tUn, rI0, rI, rU, tTup, tLst, tIfS, tTest, tB, tRet, tNext, rGcd, L2.start, List.map, List.set, List.replicate, List.cons_append, List.nil_append, List.length_cons, List.length_nil, List.getElem?_cons_succ, List.getElem?_cons_zero, Option.some.injEq, exists_eq_left', exists_eq_left, List.append_nil, List.cons.injEq, V.int.injEq, exists_and_left, and_true, true_and, and_assoc, exists_const, V.bl.injEq, V.ref.injEq, Nat.sub_self, Nat.reduceAdd, Nat.reduceSub, List.replicate_succ, List.replicate_zero, tAnd, tOr, tNot, tAndV, tOrV, tNotV, tIf, tCall, tCallK, tDrop, rEq, rNe, decide_eq_true_eq, Bool.not_eq_true', decide_eq_false_iff_not, Bool.false_eq_true, if_true, if_false, reduceIte, reduceCtorEq, tMkLow, tRaiseLow, rIsB, rNotB, tBreak, tPar, gSub, rSetL, tChain, gTup, gCons, gNil, gSeq, cx_K, cx_Kn, optV, V.str.injEq, Bool.not_true, Bool.not_false, false_and, and_false, or_false, false_or, exists_false, tCallN, tCallS, tPairs])
section
variable {w : World} {K : PySem.W.Frag} {mg : Str → Option Value} {base : Heap} {A : Ads}
/-- a pair of two counts -/
def NumV (K : PySem.W.Frag) (H : Hp) (v : V) (q : Nat × Nat) : Prop := ∃ a, v = .ref a ∧ SqT K H a [.int (q.1 : Nat), .int (q.2 : Nat)]
theorem NumV.same {H H' : Hp} {v : V} {q : Nat × Nat} (s : Same H H') (h : NumV K H v q) : NumV K H' v q := by
  obtain ⟨a, e, h⟩ := h
  exact ⟨a, e, same_tup s h⟩
theorem NumV.keep {H : Hp} {D : Addr} {acc acc' : List V} {v : V} {q : Nat × Nat} (hD : H D = some (.lst acc)) (h : NumV K H v q) : NumV K (upd H D (.lst acc')) v q := by
  obtain ⟨a, e, h⟩ := h
  exact ⟨a, e, keep_tup hD h⟩
/-- the sides of the first i fences -/
def numP {α : Type} (pss : List (List α)) (i : Nat) : List (Nat × Nat) := (List.range i).flatMap fun k => (List.range (pss.getD k []).length).map fun j => (k, j)
theorem numP_succ {α : Type} (pss : List (List α)) (i : Nat) : numP pss (i + 1) = numP pss i ++ (List.range (pss.getD i []).length).map fun j => (i, j) := by
  unfold numP
  rw [List.range_succ, List.flatMap_append]
  simp
theorem numP_len {α : Type} {pss : List (List α)} (h : ∀ ps ∈ pss, ps.length ≤ 40) : ∀ i, (numP pss i).length ≤ 40 * i := by
  intro i
  induction i with
  | zero => simp [numP]
  | succ i ih =>
    rw [numP_succ, List.length_append, List.length_map, List.length_range]
    have : (pss.getD i []).length ≤ 40 := by
      rw [List.getD_eq_getElem?_getD]
      cases e : pss[i]? with
      | none => simp
      | some ps => exact h ps (List.mem_of_getElem? e)
    omega
def spNumbered (K : PySem.W.Frag) (C : Addr) : Sp := fun vs H Q _ => ∃ b us pss, vs = [.ref b] ∧ SqT K H b us ∧ Each (FenceV K C H) us pss ∧ pss.length ≤ 6 ∧ (∀ ps ∈ pss, ps.length ≤ 40) ∧ ∀ H' c ws, Same H H' → SqT K H' c ws → Each (NumV K H') ws (numP pss pss.length) → Q (.ref c) H'
theorem ok__numbered_sides (T : Txt K mg A) : FnOk PG w K mg base CX0 4 A.f__numbered_sides A.d__numbered_sides ["fences"] (spNumbered K A.C_Fence) := by
  refine T._numbered_sides.F.ok sc__numbered_sides (fun vs H Q E h => ?_) (fun cdv A' outer s H vs Q E hr h => ?_)
  · obtain ⟨_, _, _, rfl, _⟩ := h; rfl
  · obtain ⟨b, us, pss, rfl, hu, he, h6, h40, q⟩ := h
    have l1 := he.1
    refine ⟨_, (pss_one (ps_ret (pe_callTy call_tuple_of (by rfl) T.n_tuple bt_tuple (pa_cons (pe_lc2 (own := [("number", 1), ("fence", 2), ("side", 3)]) (vs1 := [3]) (g := gTup K 2 (gCons (gName 1) (gCons (gName 2) gNil))) (g1 := gName 3) (tt := tYes) (tt1 := tYes) rfl sc__numbered_sides.nd (OZ.pi_enumT (by rfl) T.n_enumerate (pa_cons (pv 0) pa_nil)) (blkOk_by (N := ["fences", "number", "fence", "side"]) (sc := defScope s__numbered_sides) (by decide +kernel)) (by decide) (fun _ _ _ _ _ => OZ.pg_tupK (K := K) (n := 2) rfl rfl (pgs_cons (pg_name (i := 1) sc__numbered_sides.nd rfl (Or.inl rfl)) (pgs_cons (pg_name (i := 2) sc__numbered_sides.nd rfl (Or.inl rfl)) pgs_nil))) (fun _ _ _ _ _ => pts_nil) (fun _ _ _ _ _ => (pi_range1 (by rfl) T.n_range (pa_cons (pe_callB (call_lenO T.len_Fence T.lenT ((ok_Fence_len T).raw T.Fence_len.b .nil) (hr.mono (by decide))) (by rfl) T.n_len bt_len (pa_cons (pv 2) pa_nil)) pa_nil))) (fun _ _ _ _ _ => pg_name (i := 3) sc__numbered_sides.nd rfl (Or.inl rfl)) (fun _ _ _ _ _ => pts_nil) (fun _ _ _ _ _ => (pe_tup (pa_cons (pv 1) (pa_cons (pv 3) pa_nil))))) pa_nil)))), ?_⟩
    walk_at "vc"
    simp only [tLc2]
    refine ⟨_, rfl, b, us, rfl, hu, fun D hD => OZ.wf_it OZ.walk_enumT (fun i H3 => Same H H3 ∧ ∃ acc, H3 D = some (.lst acc) ∧ Each (NumV K H3) acc (numP pss i)) ⟨same_upd hD, _, upd_same, rfl, fun i v x e => by simp at e⟩ (fun i H3 _ h => same_tup h.1 hu) ?_ ?_⟩
    · rintro i x H3 H4 hi ⟨s3, acc, e3, ea⟩ ⟨U, y, rfl, hU, rfl, hy⟩
      have s4 := same_upd (o := .tup [.int (i : Nat), y]) hU
      have hU4 : SqT K (upd H3 U (.tup [.int (i : Nat), y])) U [.int (i : Nat), y] := st_of upd_same
      have e4 := s4 _ _ e3
      generalize upd H3 U (.tup [.int (i : Nat), y]) = H4 at *
      have S4 := s3.trans s4
      obtain ⟨ps, hps, z, rfl, hF⟩ := he.of hy
      have hF4 := hF.same S4
      refine ⟨U, _, rfl, hU4, rfl, _, _, rfl, _, _, rfl, rfl, rfl, ?_⟩
      simp only [tYes, if_true]
      obtain ⟨dx, fs, _, _, _, _, hz, _⟩ := id hF4
      have hpl : ps.length ≤ 40 := h40 _ (List.mem_of_getElem? hps)
      have egd : pss.getD i [] = ps := by rw [List.getD_eq_getElem?_getD, hps]; rfl
      have hi6 : i < pss.length := (List.getElem?_eq_some_iff.mp hps).1
      refine ⟨_, rfl, z, dx, fs, rfl, hz, z, ps, rfl, hF4, _, rfl, by omega, by omega, _, rfl, by omega, by omega, OZ.wf_it walk_range (n := ((ps.length : Nat) : Int).toNat) (fun j H5 => Same H H5 ∧ ∃ acc, H5 D = some (.lst acc) ∧ Each (NumV K H5) acc (numP pss i ++ (List.range j).map fun j => (i, j))) ⟨S4, acc, e4, ?_⟩ (fun _ _ _ _ => trivial) ?_ ?_⟩
      · rw [List.range_zero, List.map_nil, List.append_nil]
        exact ea.imp fun v x z => z.same s4
      · rintro j x H5 H6 hj ⟨s5, acc5, e5, ea5⟩ ⟨rfl, rfl⟩
        show gName 3 (V.int (0 + (j : Nat))) _ _ _
        rw [show ((0 : Int) + (j : Nat)) = (j : Nat) by omega]
        refine ⟨rfl, _, rfl, _, rfl, (by show 2 ≤ sizeLine; decide), fun t ht => ⟨acc5, same_upd ht _ _ e5, ?_, fun c o ec => ?_, _, upd_same, ?_⟩⟩
        · rw [ea5.1, List.length_append, List.length_map, List.length_range]
          have := numP_len h40 i
          exact small1000 (by omega)
        · rw [upd_ne (ne_of_none ec hD)]
          exact same_upd ht _ _ (s5 _ _ ec)
        · have e6 : upd H6 t (.tup [.int (i : Nat), .int (j : Nat)]) D = some (.lst acc5) := same_upd ht _ _ e5
          rw [List.range_succ, List.map_append, ← List.append_assoc]
          exact each_snoc (ea5.imp fun v x z => (z.same (same_upd ht)).keep e6) (NumV.keep e6 ⟨t, rfl, st_of upd_same⟩)
      · rintro H5 ⟨s5, acc5, e5, ea5⟩
        refine ⟨s5, acc5, e5, ?_⟩
        rw [numP_succ, egd]
        exact ea5
    · rintro H3 ⟨s3, acc, e3, ea⟩
      rw [l1] at ea
      refine ⟨D, rfl, acc, .inl ⟨sl_of e3, fun l hl => ?_⟩⟩
      have s4 := same_upd (o := .tup acc) hl
      exact q _ _ _ (s3.trans s4) (st_of upd_same) (ea.imp fun v x z => z.same s4)
end
end Odd
namespace Odd
open PySem PySem.Spec PyProof.Rows L2
local macro_rules | `(tactic| walk_at "vc") => `(tactic| simp only [tSeq, tAsg, gName, tCB, tCons, tNil, tVar, tC, tOp, tUn, rI0, rI, rU, tTup, tLst, tIfS, tTest, tB, tRet, tNext, rGcd, L2.start, List.map, List.set, List.replicate, List.cons_append, List.nil_append, List.length_cons, List.length_nil, List.getElem?_cons_succ, List.getElem?_cons_zero, Option.some.injEq, exists_eq_left', exists_eq_left, List.append_nil, List.cons.injEq, V.int.injEq, exists_and_left, and_true, true_and, and_assoc, exists_const, V.bl.injEq, V.ref.injEq, Nat.sub_self, Nat.reduceAdd, Nat.reduceSub, List.replicate_succ, List.replicate_zero, tAnd, tOr, tNot, tAndV, tOrV, tNotV, tIf, tCall, tCallK, tDrop, rEq, rNe, decide_eq_true_eq, Bool.not_eq_true', decide_eq_false_iff_not, Bool.false_eq_true, if_true, if_false, reduceIte, reduceCtorEq, tMkLow, tRaiseLow, rIsB, rNotB, tBreak, tPar, gSub, rSetL, tChain, gTup, gCons, gNil, gSeq, cx_K, cx_Kn, optV, V.str.injEq, Bool.not_true, Bool.not_false, false_and, and_false, or_false, false_or, exists_false, tCallN, tCallS, tPairs])
section
variable {w : World} {K : PySem.W.Frag} {mg : Str → Option Value} {base : Heap} {A : Ads}
/-- fences apart from one another -/
structure WholeLot (pss : List (List P2)) : Prop where
  many : 1 ≤ pss.length ∧ pss.length ≤ 6
  lens : ∀ ps ∈ pss, ps.length ≤ 40
  pos : ∀ ps ∈ pss, 1 ≤ ps.length
  sm : ∀ ps ∈ pss, ∀ s ∈ sideL ps, SmS 900 s
  apart : ∀ (i j : Nat) (ps qs : List P2), i < j → pss[i]? = some ps → pss[j]? = some qs → ∀ s ∈ sideL ps, ∀ t ∈ sideL qs, Apart s t
theorem numP_mem {α : Type} {pss : List (List α)} {n : Nat} {q : Nat × Nat} (h : q ∈ numP pss n) : q.1 < n ∧ q.2 < (pss.getD q.1 []).length := by
  unfold numP at h
  rw [List.mem_flatMap] at h
  obtain ⟨k, hk, h⟩ := h
  rw [List.mem_map] at h
  obtain ⟨j, hj, rfl⟩ := h
  exact ⟨List.mem_range.mp hk, List.mem_range.mp hj⟩
def spJudgedF (K : PySem.W.Frag) (CF CA : Addr) : Sp := fun vs H Q _ => ∃ p us pss, vs = [.ref p] ∧ Sq K H p us ∧ Each (FenceV K CF H) us pss ∧ WholeLot pss ∧ ∀ H' x dx fs, Same H H' → H x = none → H' x = some (.ins CA dx fs) → Q (.ref x) H'
theorem ok_judged_fences (T : Txt K mg A) : FnOk PG w K mg base CX0 7 A.f_judged_fences A.d_judged_fences ["fences"] (spJudgedF K A.C_Fence A.C_Apart) := by
  refine T.judged_fences.F.ok sc_judged_fences (fun vs H Q E h => ?_) (fun cdv A' outer s H vs Q E hr h => ?_)
  · obtain ⟨_, _, _, rfl, _⟩ := h; rfl
  · obtain ⟨p, us, pss, rfl, hu, he, wh, q⟩ := h
    have l1 := he.1
    have hm := wh.many
    refine ⟨_, (pss_cons (ps_set (i := 1) sc_judged_fences.nd rfl (.inl rfl) (pe_call (ok__fences_in T) (hr.mono (by decide)) (by rfl) T._fences_in.g T._fences_in.F.kp T._fences_in.b .nil pass0 (pa_cons (pv 0) pa_nil)))
      (pss_cons (ps_set (i := 2) sc_judged_fences.nd rfl (.inl rfl) (pe_call (ok__numbered_sides T) (hr.mono (by decide)) (by rfl) T._numbered_sides.g T._numbered_sides.F.kp T._numbered_sides.b .nil pass0 (pa_cons (pv 1) pa_nil)))
      (pss_cons (ps_for PassesOwn.never rfl (pi_tup (pv 2)) (pg_name (i := 3) sc_judged_fences.nd rfl (.inl rfl)) (pss_cons (ps_set (i := 4) sc_judged_fences.nd rfl (.inl rfl) (pe_ix ix_tup (pe_fld (pe_ix ix_tup (pv 1) (pe_ix ix_tup (pv 3) pe_int (fun _ _ => rfl)) (fun _ _ => rfl)) rfl) (pe_ix ix_tup (pv 3) pe_int (fun _ _ => rfl)) (fun _ _ => rfl)))
      (pss_one (ps_for PassesOwn.never rfl (pi_tup (pv 2)) (pg_name (i := 5) sc_judged_fences.nd rfl (.inl rfl)) (pss_cons (ps_if (pt_cmpR op_le (pe_ix ix_tup (pv 5) pe_int (fun _ _ => rfl)) (pe_ix ix_tup (pv 3) pe_int (fun _ _ => rfl)) (nomark _)) (pss_one ps_continue) pss_nil)
      (pss_cons (ps_set (i := 6) sc_judged_fences.nd rfl (.inl rfl) (pe_call (ok_common_point T) (hr.mono (by decide)) (by rfl) T.common_point.g T.common_point.F.kp T.common_point.b .nil pass0 (pa_cons (pv 4) (pa_cons (pe_ix ix_tup (pe_fld (pe_ix ix_tup (pv 1) (pe_ix ix_tup (pv 5) pe_int (fun _ _ => rfl)) (fun _ _ => rfl)) rfl) (pe_ix ix_tup (pv 5) pe_int (fun _ _ => rfl)) (fun _ _ => rfl)) pa_nil))))
      (pss_one (ps_if (pt_cmpR op_notN (pv 6) pe_non (nomark _)) (pss_one ps_never) pss_nil))))))))
      (pss_one (ps_ret (pe_make0 T.mk_Apart (ok_Apart_init T) (hr.mono (by decide)) (by rfl) T.m_Apart T.b_Apart .nil pass0)))))), ?_⟩
    refine seq_by fun N hN => ?_
    walk_at "vc"
    refine ⟨p, us, pss, rfl, hu, he, hm.1, hm.2, fun H1 b s1 hb => ?_⟩
    have he1 : Each (FenceV K A.C_Fence H1) us pss := he.imp fun v x z => z.same s1
    subst hN
    refine seq_by fun N hN => ?_
    walk_at "vc"
    refine ⟨b, us, pss, rfl, hb, he1, hm.2, wh.lens, fun H2 c ws s2 hc ew => ?_⟩
    have he2 : Each (FenceV K A.C_Fence H2) us pss := he1.imp fun v x z => z.same s2
    have hb2 := same_tup s2 hb
    have s02 := s1.trans s2
    subst hN
    refine seq_by fun N hN => ?_
    walk_at "vc"
    -- a side by its number
    have side : ∀ {H3 : Hp} {i : Nat} {v : V}, Same H2 H3 → ws[i]? = some v → ∃ (m n : Nat) (ps : List P2) (sd : P2 × P2), pss[m]? = some ps ∧ (sideL ps)[n]? = some sd ∧ ∃ a, v = .ref a ∧ SqT K H3 a [.int (m : Nat), .int (n : Nat)] ∧
        ∃ z dx fs d xs y, us[m]? = some (.ref z) ∧ H3 z = some (.ins A.C_Fence dx fs) ∧ fs.lookup ("sides" : Str) = some (.ref d) ∧ SqT K H3 d xs ∧ xs[n]? = some y ∧ Sd K H3 y sd := by
      intro H3 i v s3 hv
      obtain ⟨⟨m, n⟩, hq, a, rfl, ha⟩ := ew.of hv
      obtain ⟨hm1, hn1⟩ := numP_mem (List.mem_of_getElem? hq)
      obtain ⟨ps, hps⟩ : ∃ ps, pss[m]? = some ps := ⟨_, List.getElem?_eq_getElem hm1⟩
      have egd : pss.getD m [] = ps := by rw [List.getD_eq_getElem?_getD, hps]; rfl
      have hn2 : n < ps.length := by rw [← egd]; exact hn1
      obtain ⟨sd, hsd⟩ : ∃ sd, (sideL ps)[n]? = some sd := ⟨_, sideL_at hn2⟩
      obtain ⟨v2, hv2, z, rfl, hF⟩ := he2.at hps
      obtain ⟨dx, fs, a1, us1, d, xs, h1, h2, h3, h4, h5, h6, h7⟩ := hF.same s3
      obtain ⟨y, hy, hS⟩ := h7.at hsd
      exact ⟨m, n, ps, sd, hps, hsd, a, rfl, same_tup s3 ha, z, dx, fs, d, xs, y, hv2, h1, h5, h6, hy, hS⟩
    refine ⟨_, rfl, c, rfl, ⟨_, hc⟩, for_tup (xs := ws) (fun i σ H3 => Same H2 H3 ∧ ∃ o4 o5 o6 o7, σ = [some (.ref p), some (.ref b), some (.ref c), o4, o5, o6, o7]) ⟨Same.refl _, _, _, _, _, rfl⟩ (fun i σ H3 _ h => same_tup h.1 hc) ?_ ?_⟩
    · rintro i v σ H3 hv ⟨s3, o4, o5, o6, o7, rfl⟩
      obtain ⟨m, n, ps, sd, hps, hsd, a, rfl, ha, z, dx, fs, d, xs, y, hz, h1, h5, h6, hy, hS⟩ := side s3 hv
      have hb3 := same_tup s3 hb2
      walk_at "vc"
      simp only [tFld]
      walk_at "vc"
      refine ixT (i := 0) ha rfl ?_
      refine ixT hb3 (atI_nat hz) ?_
      refine ⟨z, rfl, A.C_Fence, dx, fs, h1, T.cl_Fence, T.no_Fence_sides, _, h5, ?_⟩
      refine ixT (i := 1) ha rfl ?_
      refine ixT h6 (atI_nat hy) ?_
      refine ⟨_, rfl, c, rfl, ⟨_, same_tup s3 hc⟩, for_tup (xs := ws) (fun i σ H4 => Same H3 H4 ∧ ∃ o5 o6, σ = [some (.ref p), some (.ref b), some (.ref c), some (.ref a), some y, o5, o6]) ⟨Same.refl _, _, _, rfl⟩ (fun i σ H4 _ h => same_tup (s3.trans h.1) hc) ?_ ?_⟩
      · rintro i2 v2 σ H4 hv2 ⟨s4, p5, p6, rfl⟩
        obtain ⟨m2, n2, qs, td, hqs, htd, a2, rfl, ha2, z2, dx2, fs2, d2, xs2, y2, hz2, h12, h52, h62, hy2, hS2⟩ := side (s3.trans s4) hv2
        have hb4 := same_tup s4 hb3
        have ha4 := same_tup s4 ha
        walk_at "vc"
        refine ixT (i := 0) ha2 rfl ?_
        refine ixT (i := 0) ha4 rfl ?_
        refine ⟨_, rfl, _, rfl, ?_⟩
        split
        · exact ⟨s4, _, _, rfl⟩
        · rename_i hle
          have hlt : m < m2 := by omega
          simp only [tFld]
          walk_at "vc"
          refine ixT (i := 0) ha2 rfl ?_
          refine ixT hb4 (atI_nat hz2) ?_
          refine ⟨z2, rfl, A.C_Fence, dx2, fs2, h12, T.cl_Fence, T.no_Fence_sides, _, h52, ?_⟩
          refine ixT (i := 1) ha2 rfl ?_
          refine ixT h62 (atI_nat hy2) ?_
          refine ⟨_, _, sd, td, rfl, hS.same s4, hS2, wh.sm _ (List.mem_of_getElem? hps) _ (List.mem_of_getElem? hsd), wh.sm _ (List.mem_of_getElem? hqs) _ (List.mem_of_getElem? htd), wh.apart m m2 ps qs hlt hps hqs sd (List.mem_of_getElem? hsd) td (List.mem_of_getElem? htd), fun H5 s5 => ?_⟩
          show (if ¬ (V.non = V.non) then _ else _)
          rw [if_neg (fun (z : ¬ (V.non = V.non)) => z rfl)]
          exact ⟨s4.trans s5, _, rfl⟩
      · rintro σ H4 ⟨s4, p5, p6, rfl⟩
        exact ⟨s3.trans s4, _, _, _, _, rfl⟩
    · rintro σ H3 ⟨s3, o4, o5, o6, o7, rfl⟩
      show N _ _
      subst hN
      walk_at "vc"
      simp only [tMake]
      intro x dx hx hdx hne
      refine ⟨x, dx, rfl, upd_same, fun H4 fs kp hx4 => ⟨rfl, ?_⟩⟩
      have s03 := s02.trans s3
      refine q H4 x dx fs (fun e o he => ?_) ?_ hx4
      · have e3 := s03 e o he
        have cx : e ≠ x := ne_of_none e3 hx
        refine kp e o cx ?_
        rw [upd_ne cx, upd_ne (ne_of_none e3 hdx)]
        exact e3
      · cases e : H x with
        | none => rfl
        | some o =>
          rw [s03 x o e] at hx
          cases hx
end
end Odd
namespace Odd
open PySem PySem.Spec PyProof.Rows L2
local macro_rules | `(tactic| walk_at "vc") => `(tactic| simp only [tSeq, tAsg, gName, tCB, tCons, tNil, tVar, tC, tOp, tUn, rI0, rI, rU, tTup, tLst, tIfS, tTest, tB, tRet, tNext, rGcd, L2.start, List.map, List.set, List.replicate, List.cons_append, List.nil_append, List.length_cons, List.length_nil, List.getElem?_cons_succ, List.getElem?_cons_zero, Option.some.injEq, exists_eq_left', exists_eq_left, List.append_nil, List.cons.injEq, V.int.injEq, exists_and_left, and_true, true_and, and_assoc, exists_const, V.bl.injEq, V.ref.injEq, Nat.sub_self, Nat.reduceAdd, Nat.reduceSub, List.replicate_succ, List.replicate_zero, tAnd, tOr, tNot, tAndV, tOrV, tNotV, tIf, tCall, tCallK, tDrop, rEq, rNe, decide_eq_true_eq, Bool.not_eq_true', decide_eq_false_iff_not, Bool.false_eq_true, if_true, if_false, reduceIte, reduceCtorEq, tMkLow, tRaiseLow, rIsB, rNotB, tBreak, tPar, gSub, rSetL, tChain, gTup, gCons, gNil, gSeq, cx_K, cx_Kn, optV, V.str.injEq, Bool.not_true, Bool.not_false, false_and, and_false, or_false, false_or, exists_false, tCallN, tCallS, tPairs])
section
variable {w : World} {K : PySem.W.Frag} {mg : Str → Option Value} {base : Heap} {A : Ads}
theorem FenceAt.keepI {C : Addr} {H : Hp} {x C2 dx2 : Addr} {fs fs' : List (Str × V)} {y : Addr} {ps : List P2} (hx : H x = some (.ins C2 dx2 fs)) (hl : fs.lookup ("corners" : Str) = none) (h : FenceAt K C H y ps) : FenceAt K C (upd H x (.ins C2 dx2 fs')) y ps := by
  obtain ⟨dx, gs, a, us, b, ws, h1, h2, h3, h4, h5, h6, h7⟩ := h
  have ne : y ≠ x := fun z => by
    rw [z, hx] at h1
    cases h1
    rw [hl] at h2
    cases h2
  exact ⟨dx, gs, a, us, b, ws, by rw [upd_ne ne]; exact h1, h2, keep_tupI hx h3, h4.imp fun v z => pp_keepI hx, h5, keep_tupI hx h6, h7.imp fun v z => sd_keepI hx⟩
/-- at x: a lot of these fences -/
def LotAt (K : PySem.W.Frag) (CF CL : Addr) (H : Hp) (x : Addr) (us : List V) (pss : List (List P2)) : Prop := ∃ dx fs b, H x = some (.ins CL dx fs) ∧ fs.lookup ("fences" : Str) = some (.ref b) ∧ SqT K H b us ∧ Each (FenceV K CF H) us pss ∧ WholeLot pss ∧ (∃ c ws, fs.lookup ("sides" : Str) = some (.ref c) ∧ SqT K H c ws ∧ Each (NumV K H) ws (numP pss pss.length)) ∧ ∀ m : Str, m ≠ "sides" → m ≠ "fences" → fs.lookup m = none
theorem LotAt.same {CF CL : Addr} {H H' : Hp} {x : Addr} {us : List V} {pss : List (List P2)} (s : Same H H') (h : LotAt K CF CL H x us pss) : LotAt K CF CL H' x us pss := by
  obtain ⟨dx, fs, b, h1, h2, h3, h4, h5, ⟨c, ws, h6, h7, h8⟩, h9⟩ := h
  exact ⟨dx, fs, b, s _ _ h1, h2, same_tup s h3, h4.imp fun v x z => z.same s, h5, ⟨c, ws, h6, same_tup s h7, h8.imp fun v x z => z.same s⟩, h9⟩
def spLotInit (K : PySem.W.Frag) (CF CL : Addr) : Sp := fun vs H Q _ => ∃ x dx p us pss, vs = [.ref x, .ref p] ∧ H x = some (.ins CL dx []) ∧ Sq K H p us ∧ Each (FenceV K CF H) us pss ∧ WholeLot pss ∧ (numP pss pss.length).length ≤ 60 ∧
  ∀ H', (∀ c o, c ≠ x → H c = some o → H' c = some o) → LotAt K CF CL H' x us pss → Q .non H'
theorem ok_Lot_init (T : Txt K mg A) : FnOk PG w K mg base CX0 8 A.f_Lot_init A.d_Lot_init ["self", "fences"] (spLotInit K A.C_Fence A.C_Lot) := by
  obtain ⟨tkM, hMost⟩ := T.g_MOST_SIDES
  refine T.Lot_init.F.ok sc_Lot_init (fun vs H Q E h => ?_) (fun cdv A' outer s H vs Q E hr h => ?_)
  · obtain ⟨_, _, _, _, _, rfl, _⟩ := h; rfl
  · obtain ⟨x, dx, p, us, pss, rfl, hx, hu, he, wh, h60, q⟩ := h
    have hm := wh.many
    refine ⟨_, (pss_cons (ps_fld (pv 0) (pe_call (ok__fences_in T) (hr.mono (by decide)) (by rfl) T._fences_in.g T._fences_in.F.kp T._fences_in.b .nil pass0 (pa_cons (pv 1) pa_nil)) rfl)
      (pss_cons (ps_fld (pv 0) (pe_call (ok__numbered_sides T) (hr.mono (by decide)) (by rfl) T._numbered_sides.g T._numbered_sides.F.kp T._numbered_sides.b .nil pass0 (pa_cons (pe_fld (pv 0) rfl) pa_nil)) rfl)
      (pss_cons (ps_set (i := 2) sc_Lot_init.nd rfl (.inl rfl) (pe_call (ok_judged_fences T) (hr.mono (by decide)) (by rfl) T.judged_fences.g T.judged_fences.F.kp T.judged_fences.b .nil pass0 (pa_cons (pe_fld (pv 0) rfl) pa_nil)))
      (pss_cons (ps_if (pt_not (pt_boolO T.bool_Apart T.boolT ((ok_Paper_bool T).raw T.Paper_bool.b .nil) (hr.mono (by decide)) (pv 2))) (pss_one ps_never) pss_nil)
      (pss_one (ps_if (pt_cmpR op_gt (pe_callB call_len_seq (by rfl) T.n_len bt_len (pa_cons (pe_fld (pv 0) rfl) pa_nil)) (pe_glob (v := .int 60) (by rfl) hMost ⟨tkM, rfl⟩) (nomark _)) (pss_one ps_never) pss_nil)))))), ?_⟩
    -- the fences
    refine seq_by fun N hN => ?_
    walk_at "vc"
    refine ⟨_, rfl, p, us, pss, rfl, hu, he, hm.1, hm.2, fun H1 b s1 hb => ⟨_, rfl, x, A.C_Lot, dx, [], rfl, s1 _ _ hx, T.cl_Lot, T.no_Lot_fences, by decide, ?_⟩⟩
    have hx1 := s1 _ _ hx
    have kp2 : ∀ c o, c ≠ x → H c = some o → upd H1 x (.ins A.C_Lot dx (putF "fences" (.ref b) [])) c = some o := fun c o nc e => by rw [upd_ne nc]; exact s1 _ _ e
    have hb2 := keep_tupI (fs' := putF "fences" (.ref b) []) hx1 hb
    have he2 : Each (FenceV K A.C_Fence (upd H1 x (.ins A.C_Lot dx (putF "fences" (.ref b) [])))) us pss := he.imp fun v z ⟨y, e, hF⟩ => ⟨y, e, (hF.same s1).keepI hx1 rfl⟩
    have hx2 : upd H1 x (.ins A.C_Lot dx (putF "fences" (.ref b) [])) x = some (.ins A.C_Lot dx (putF "fences" (.ref b) [])) := upd_same
    generalize upd H1 x (.ins A.C_Lot dx (putF "fences" (.ref b) [])) = H2 at *
    clear hx1 s1 hb he hu
    show N _ _
    subst hN
    -- the sides
    refine seq_by fun N hN => ?_
    walk_at "vc"
    have lk2 : (putF ("fences" : Str) (V.ref b) []).lookup ("fences" : Str) = some (V.ref b) := by rw [lookup_putF, if_pos rfl]
    refine ⟨_, rfl, x, A.C_Lot, dx, _, .ref b, rfl, hx2, T.cl_Lot, T.no_Lot_fences, lk2, b, us, pss, rfl, hb2, he2, hm.2, wh.lens, fun H3 c ws s3 hc hw => ⟨_, rfl, x, A.C_Lot, dx, _, rfl, s3 _ _ hx2, T.cl_Lot, T.no_Lot_sides, (by show 1 < 1000; decide), ?_⟩⟩
    have hx3 := s3 _ _ hx2
    have lk3 : (putF ("fences" : Str) (V.ref b) []).lookup ("corners" : Str) = none := by rw [lookup_putF, if_neg (by decide)]; rfl
    have kp4 : ∀ c' o, c' ≠ x → H c' = some o → upd H3 x (.ins A.C_Lot dx (putF "sides" (.ref c) (putF "fences" (.ref b) []))) c' = some o := fun c' o nc e => by rw [upd_ne nc]; exact s3 _ _ (kp2 _ _ nc e)
    have hb4 := keep_tupI (fs' := putF "sides" (.ref c) (putF "fences" (.ref b) [])) hx3 (same_tup s3 hb2)
    have he4 : Each (FenceV K A.C_Fence (upd H3 x (.ins A.C_Lot dx (putF "sides" (.ref c) (putF "fences" (.ref b) []))))) us pss := he2.imp fun v z ⟨y, e, hF⟩ => ⟨y, e, (hF.same s3).keepI hx3 lk3⟩
    have hc4 := keep_tupI (fs' := putF "sides" (.ref c) (putF "fences" (.ref b) [])) hx3 hc
    have hx4 : upd H3 x (.ins A.C_Lot dx (putF "sides" (.ref c) (putF "fences" (.ref b) []))) x = some (.ins A.C_Lot dx (putF "sides" (.ref c) (putF "fences" (.ref b) []))) := upd_same
    have lw := hw.1
    have hw4 : Each (NumV K (upd H3 x (.ins A.C_Lot dx (putF "sides" (.ref c) (putF "fences" (.ref b) []))))) ws (numP pss pss.length) := hw.imp fun v y z => by
      obtain ⟨a, e, h⟩ := z
      exact ⟨a, e, keep_tupI hx3 h⟩
    generalize upd H3 x (.ins A.C_Lot dx (putF "sides" (.ref c) (putF "fences" (.ref b) []))) = H4 at *
    clear hx3 s3 hc hw hb2 he2 hx2 kp2
    have lk4 : (putF ("sides" : Str) (V.ref c) (putF ("fences" : Str) (V.ref b) [])).lookup ("fences" : Str) = some (V.ref b) := by rw [lookup_putF, if_neg (by decide)]; exact lk2
    have lk5 : (putF ("sides" : Str) (V.ref c) (putF ("fences" : Str) (V.ref b) [])).lookup ("sides" : Str) = some (V.ref c) := by rw [lookup_putF, if_pos rfl]
    have lk6 : ∀ m : Str, m ≠ "sides" → m ≠ "fences" → (putF ("sides" : Str) (V.ref c) (putF ("fences" : Str) (V.ref b) [])).lookup m = none := fun m h1 h2 => by rw [lookup_putF, if_neg h1, lookup_putF, if_neg h2]; rfl
    show N _ _
    subst hN
    -- the check
    refine seq_by fun N hN => ?_
    walk_at "vc"
    refine ⟨_, rfl, x, A.C_Lot, dx, _, .ref b, rfl, hx4, T.cl_Lot, T.no_Lot_fences, lk4, b, us, pss, rfl, .inr hb4, he4, wh, fun H5 y dy fy s5 hy hy5 => ?_⟩
    subst hN
    refine seq_by fun N hN => ?_
    walk_at "vc"
    simp only [tBoolO]
    refine ⟨_, rfl, y, dy, fy, rfl, hy5, y, rfl, true, rfl, ?_⟩
    walk_at "vc"
    subst hN
    walk_at "vc"
    refine ⟨_, rfl, x, A.C_Lot, dx, _, .ref c, rfl, s5 _ _ hx4, T.cl_Lot, T.no_Lot_sides, lk5, c, rfl, ws, .inr (same_tup s5 hc4), ?_⟩
    rw [if_neg (by rw [lw]; omega)]
    exact q _ (fun c' o nc e => s5 _ _ (kp4 _ _ nc e)) ⟨dx, _, b, s5 _ _ hx4, lk4, same_tup s5 hb4, he4.imp fun v z w => w.same s5, wh, ⟨c, ws, lk5, same_tup s5 hc4, hw4.imp fun v y z => z.same s5⟩, lk6⟩
end
end Odd
namespace Odd
open PySem PySem.Spec PyProof.Rows L2
local macro_rules | `(tactic| walk_at "vc") => `(tactic| simp only [tSeq, tAsg, gName, tCB, tCons, tNil, tVar, tC, tOp, tUn, rI0, rI, rU, tTup, tLst, tIfS, tTest, tB, tRet, tNext, rGcd, L2.start, List.map, List.set, List.replicate, List.cons_append, List.nil_append, List.length_cons, List.length_nil, List.getElem?_cons_succ, List.getElem?_cons_zero, Option.some.injEq, exists_eq_left', exists_eq_left, List.append_nil, List.cons.injEq, V.int.injEq, exists_and_left, and_true, true_and, and_assoc, exists_const, V.bl.injEq, V.ref.injEq, Nat.sub_self, Nat.reduceAdd, Nat.reduceSub, List.replicate_succ, List.replicate_zero, tAnd, tOr, tNot, tAndV, tOrV, tNotV, tIf, tCall, tCallK, tDrop, rEq, rNe, decide_eq_true_eq, Bool.not_eq_true', decide_eq_false_iff_not, Bool.false_eq_true, if_true, if_false, reduceIte, reduceCtorEq, tMkLow, tRaiseLow, rIsB, rNotB, tBreak, tPar, gSub, rSetL, tChain, gTup, gCons, gNil, gSeq, cx_K, cx_Kn, optV, V.str.injEq, Bool.not_true, Bool.not_false, false_and, and_false, or_false, false_or, exists_false, tCallN, tCallS, tPairs])
section
variable {w : World} {K : PySem.W.Frag} {mg : Str → Option Value} {base : Heap} {A : Ads}
def spIsSide (K : PySem.W.Frag) (CF CL : Addr) : Sp := fun vs H Q _ => ∃ l v us pss m n ps, vs = [.ref l, v] ∧ LotAt K CF CL H l us pss ∧ NumV K H v (m, n) ∧ pss[m]? = some ps ∧ n < ps.length ∧ RetV H (.bl true) Q
theorem ok_is_side (T : Txt K mg A) : FnOk PG w K mg base CX0 3 A.f_is_side A.d_is_side ["lot", "at"] (spIsSide K A.C_Fence A.C_Lot) := by
  refine T.is_side.F.ok sc_is_side (fun vs H Q E h => ?_) (fun cdv A' outer s H vs Q E hr h => ?_)
  · obtain ⟨_, _, _, _, _, _, _, rfl, _⟩ := h; rfl
  · obtain ⟨l, v, us, pss, m, n, ps, rfl, hl, ⟨a, rfl, ha⟩, hps, hn, ret⟩ := h
    refine ⟨_, (pss_cons (ps_if (PW.pt (pw_or (pt_not (pt_val (pe_call (ok_is_pair T) (hr.mono (by decide)) (by rfl) T.is_pair.g T.is_pair.F.kp T.is_pair.b .nil pass0 (pa_cons (pv 1) pa_nil)))) (pw_or1 (pt_not (pt_val (pe_call (ok_is_within T) (hr.mono (by decide)) (by rfl) T.is_within.g T.is_within.F.kp T.is_within.b .nil pass0 (pa_cons (pe_ix ix_any (pv 1) pe_int (fun _ _ => rfl)) (pa_cons pe_int (pa_cons (pe_op op_sub (pe_callB call_len_seq (by rfl) T.n_len bt_len (pa_cons (pe_fld (pv 0) rfl) pa_nil)) pe_int) pa_nil))))))))) (pss_one (ps_ret pe_bl)) pss_nil)
      (pss_one (ps_ret (pe_call (ok_is_within T) (hr.mono (by decide)) (by rfl) T.is_within.g T.is_within.F.kp T.is_within.b .nil pass0 (pa_cons (pe_ix ix_any (pv 1) pe_int (fun _ _ => rfl)) (pa_cons pe_int (pa_cons (pe_op op_sub (pe_callB (call_lenO T.len_Fence T.lenT ((ok_Fence_len T).raw T.Fence_len.b .nil) (hr.mono (by decide))) (by rfl) T.n_len bt_len (pa_cons (pe_ix ix_tup (pe_fld (pv 0) rfl) (pe_ix ix_any (pv 1) pe_int (fun _ _ => rfl)) (fun _ _ => rfl)) pa_nil)) pe_int) pa_nil))))))), ?_⟩
    refine seq_by fun N hN => ?_
    walk_at "vc"
    refine ⟨_, rfl, .inr ⟨a, _, rfl, .inr ha, fun H1 s1 => ⟨_, rfl, ?_⟩⟩⟩
    obtain ⟨dx, fs, b, h1, h2, h3, h4, h5⟩ := id (hl.same s1)
    have hm : m < us.length := by rw [h4.1]; exact (List.getElem?_eq_some_iff.mp hps).1
    refine iteF' rfl (ixA (.inr (same_tup s1 ha)) rfl ?_)
    refine ⟨_, rfl, l, A.C_Lot, dx, fs, .ref b, rfl, h1, T.cl_Lot, T.no_Lot_fences, h2, b, rfl, us, .inr h3, ?_⟩
    refine ⟨_, some 0, some ((us.length : Int) - 1), rfl, .inr ⟨_, rfl, fun H2 s2 => ⟨_, rfl, ?_⟩⟩⟩
    have eb : ((some (0 : Int)).all (fun l => decide (l ≤ ((m : Nat) : Int))) && (some ((us.length : Int) - 1)).all (fun k => decide (((m : Nat) : Int) ≤ k))) = true := by
      rw [Option.all_some, Option.all_some, ← Bool.decide_and]
      exact decide_eq_true (by omega)
    rw [eb]
    refine iteF' rfl ?_
    have s02 := s1.trans s2
    obtain ⟨v, hv, z, rfl, hF⟩ := (h4.imp fun v x z => z.same s2 : Each (FenceV K A.C_Fence H2) us pss).at hps
    have h3' := same_tup s2 h3
    subst hN
    walk_at "vc"
    obtain ⟨dy, fy, _, _, _, _, hz, _⟩ := id hF
    refine ixA (.inr (same_tup s02 ha)) rfl ?_
    refine ⟨_, rfl, l, A.C_Lot, dx, fs, .ref b, rfl, s2 _ _ h1, T.cl_Lot, T.no_Lot_fences, h2, ?_⟩
    refine ixA (.inr (same_tup s02 ha)) rfl ?_
    refine ixT h3' (atI_nat hv) ?_
    have hl40 : ps.length ≤ 40 := h5.1.lens _ (List.mem_of_getElem? hps)
    refine ⟨z, dy, fy, rfl, hz, z, ps, rfl, hF, _, rfl, by omega, by omega, _, rfl, _, some 0, some ((ps.length : Int) - 1), rfl, .inr ⟨_, rfl, ?_⟩⟩
    have eb : ((some (0 : Int)).all (fun l => decide (l ≤ ((n : Nat) : Int))) && (some ((ps.length : Int) - 1)).all (fun k => decide (((n : Nat) : Int) ≤ k))) = true := by
      rw [Option.all_some, Option.all_some, ← Bool.decide_and]
      exact decide_eq_true (by omega)
    rw [eb]
    exact ret.same s02
def spLotSide (K : PySem.W.Frag) (CF CL : Addr) : Sp := fun vs H Q _ => ∃ l v us m n pss ps sd, vs = [.ref l, v] ∧ LotAt K CF CL H l us pss ∧ NumV K H v (m, n) ∧ pss[m]? = some ps ∧ (sideL ps)[n]? = some sd ∧ ∀ H' u, Same H H' → Sd K H' u sd → Q u H'
theorem ok_Lot_side (T : Txt K mg A) : FnOk PG w K mg base CX0 4 A.f_Lot_side A.d_Lot_side ["self", "at"] (spLotSide K A.C_Fence A.C_Lot) := by
  refine T.Lot_side.F.ok sc_Lot_side (fun vs H Q E h => ?_) (fun cdv A' outer s H vs Q E hr h => ?_)
  · obtain ⟨_, _, _, _, _, _, _, _, rfl, _⟩ := h; rfl
  · obtain ⟨l, v, us, m, n, pss, ps, sd, rfl, hl, hv0, hps, hsd, q⟩ := h
    refine ⟨_, (pss_cons (ps_if (pt_not (pt_val (pe_call (ok_is_side T) (hr.mono (by decide)) (by rfl) T.is_side.g T.is_side.F.kp T.is_side.b .nil pass0 (pa_cons (pv 0) (pa_cons (pv 1) pa_nil))))) (pss_one ps_never) pss_nil)
      (pss_one (ps_ret (pe_ix ix_tup (pe_fld (pe_ix ix_tup (pe_fld (pv 0) rfl) (pe_ix ix_any (pv 1) pe_int (fun _ _ => rfl)) (fun _ _ => rfl)) rfl) (pe_ix ix_any (pv 1) pe_int (fun _ _ => rfl)) (fun _ _ => rfl))))), ?_⟩
    refine seq_by fun N hN => ?_
    walk_at "vc"
    have hn : n < ps.length := by
      have := (List.getElem?_eq_some_iff.mp hsd).1
      rw [sideL_len] at this
      exact this
    refine ⟨l, v, us, pss, m, n, ps, rfl, hl, hv0, hps, hn, fun H1 s1 => ⟨_, rfl, ?_⟩⟩
    refine iteF' rfl ?_
    obtain ⟨a, rfl, hA⟩ := hv0.same s1
    obtain ⟨dx, fs, b, h1, h2, h3, h4, h5⟩ := hl.same s1
    obtain ⟨v, hv, z, rfl, hF⟩ := h4.at hps
    obtain ⟨dy, fy, _, _, d, xs, g1, g2, g3, g4, g5, g6, g7⟩ := id hF
    obtain ⟨y, hy, hS⟩ := g7.at hsd
    subst hN
    walk_at "vc"
    simp only [tFld]
    walk_at "vc"
    refine ⟨_, rfl, l, A.C_Lot, dx, fs, .ref b, rfl, h1, T.cl_Lot, T.no_Lot_fences, h2, ?_⟩
    refine ixA (.inr hA) rfl ?_
    refine ixT h3 (atI_nat hv) ?_
    refine ⟨z, rfl, A.C_Fence, dy, fy, g1, T.cl_Fence, T.no_Fence_sides, _, g5, ?_⟩
    refine ixA (.inr hA) rfl ?_
    refine ixT g6 (atI_nat hy) ?_
    exact q _ _ s1 hS
/-- p is a side of the lot -/
def SideOf (pss : List (List P2)) (p : Nat × Nat) : Prop := p.1 < pss.length ∧ p.2 < (pss.getD p.1 []).length
def nbB (pss : List (List P2)) (p q : Nat × Nat) : Bool := decide (p.1 = q.1) && nextB p.2 q.2 (pss.getD p.1 []).length
theorem getD_some {α : Type} {d : α} {xs : List α} {i : Nat} (h : i < xs.length) : xs[i]? = some (xs.getD i d) := by
  rw [List.getD_eq_getElem?_getD, List.getElem?_eq_getElem h]
  rfl
def spNb (K : PySem.W.Frag) (CF CL : Addr) : Sp := fun vs H Q _ => ∃ l v u us pss p q, vs = [.ref l, v, u] ∧ LotAt K CF CL H l us pss ∧ (∀ ps ∈ pss, 3 ≤ ps.length) ∧ NumV K H v p ∧ NumV K H u q ∧ SideOf pss p ∧ SideOf pss q ∧ RetV H (.bl (nbB pss p q)) Q
theorem ok_are_neighbours (T : Txt K mg A) : FnOk PG w K mg base CX0 4 A.f_are_neighbours A.d_are_neighbours ["lot", "one", "other"] (spNb K A.C_Fence A.C_Lot) := by
  refine T.are_neighbours.F.ok sc_are_neighbours (fun vs H Q E h => ?_) (fun cdv A' outer s H vs Q E hr h => ?_)
  · obtain ⟨_, _, _, _, _, _, _, rfl, _⟩ := h; rfl
  · obtain ⟨l, v, u, us, pss, p, q, rfl, hl, h3', ⟨a, rfl, ha⟩, ⟨b, rfl, hb⟩, hp, hq, ret⟩ := h
    refine ⟨_, (pss_one (ps_ret (pe_and (pe_cmpR op_eq (pe_ix ix_tup (pv 1) pe_int (fun _ _ => rfl)) (pe_ix ix_tup (pv 2) pe_int (fun _ _ => rfl)) (nomark _)) (pe_one (pe_call (ok_are_next T) (hr.mono (by decide)) (by rfl) T.are_next.g T.are_next.F.kp T.are_next.b .nil pass0 (pa_cons (pe_ix ix_tup (pv 1) pe_int (fun _ _ => rfl)) (pa_cons (pe_ix ix_tup (pv 2) pe_int (fun _ _ => rfl)) (pa_cons (pe_callB (call_lenO T.len_Fence T.lenT ((ok_Fence_len T).raw T.Fence_len.b .nil) (hr.mono (by decide))) (by rfl) T.n_len bt_len (pa_cons (pe_ix ix_tup (pe_fld (pv 0) rfl) (pe_ix ix_tup (pv 1) pe_int (fun _ _ => rfl)) (fun _ _ => rfl)) pa_nil)) pa_nil)))))))), ?_⟩
    walk_at "vc"
    refine ixT ha rfl (ixT hb rfl ⟨rfl, ?_⟩)
    split
    · rename_i e
      have e : p.1 = q.1 := by
        injection e with e
        exact Int.ofNat.inj e
      refine ixT ha rfl (ixT hb rfl ?_)
      obtain ⟨dx, fs, b', h1, h2, h3, h4, h5⟩ := id hl
      have hps : pss[p.1]? = some (pss.getD p.1 []) := getD_some hp.1
      have w3 := h3' _ (List.mem_of_getElem? hps)
      have w40 := h5.1.lens _ (List.mem_of_getElem? hps)
      obtain ⟨v, hv, z, rfl, hF⟩ := h4.at hps
      obtain ⟨dy, fy, _, _, _, _, hz, _⟩ := id hF
      simp only [tFld]
      walk_at "vc"
      refine ⟨A.C_Lot, dx, fs, h1, T.cl_Lot, T.no_Lot_fences, _, h2, ixT ha rfl (ixT h3 (atI_nat hv) ?_)⟩
      refine ⟨z, dy, fy, rfl, hz, z, _, rfl, hF, _, rfl, by omega, by omega, p.2, q.2, _, rfl, w3, by omega, hp.2, by rw [e]; exact hq.2, ?_⟩
      unfold nbB at ret
      rw [decide_eq_true e, Bool.true_and] at ret
      exact ret
    · rename_i e
      have e : p.1 ≠ q.1 := fun z => e (by rw [z])
      unfold nbB at ret
      rw [decide_eq_false e, Bool.false_and] at ret
      exact ret _ (fun _ _ h => h)
def spCheckLot (K : PySem.W.Frag) (CF CL : Addr) : Sp := fun vs H Q _ => ∃ l us pss, vs = [.ref l] ∧ LotAt K CF CL H l us pss ∧ Q .non H
theorem ok_check_lot (T : Txt K mg A) : FnOk PG w K mg base CX0 4 A.f_check_lot A.d_check_lot ["lot"] (spCheckLot K A.C_Fence A.C_Lot) := by
  refine T.check_lot.F.ok sc_check_lot (fun vs H Q E h => ?_) (fun cdv A' outer s H vs Q E hr h => ?_)
  · obtain ⟨_, _, _, rfl, _⟩ := h; rfl
  · obtain ⟨l, us, pss, rfl, ⟨dx, fs, b, h1, h2⟩, q⟩ := h
    refine ⟨_, (pss_one (ps_if (pt_not (pt_val (pe_callB call_isi (by rfl) T.n_isinstance bt_isinstance (pa_cons (pv 0) (pa_cons (pe_glob (v := .ref A.C_Lot) (by rfl) T.m_Lot rfl) pa_nil))))) (pss_one ps_never) pss_nil)), ?_⟩
    walk_at "vc"
    refine ⟨.ref l, .ref A.C_Lot, _, _, true, rfl, .own _, .base (.ins h1 T.is_Lot.cl T.is_Lot.ha T.is_Lot.hn T.is_Lot.htk T.is_Lot.hm), T.ki_Lot_Lot, true, rfl, ?_⟩
    rw [if_neg (by decide)]
    exact q
end
end Odd
/-! integer points: sides told apart by an affine function -/
namespace GeoZ
abbrev Z2 := Int × Int
/-- twice the area of p, q, r -/
def cr (p q r : Z2) : Int := (q.1 - p.1) * (r.2 - p.2) - (q.2 - p.2) * (r.1 - p.1)
def af (α β γ : Int) (p : Z2) : Int := α * p.1 + β * p.2 + γ
theorem af_id (α β γ : Int) (s1 s2 t1 t2 : Z2) : cr s1 s2 t2 * af α β γ t1 - cr s1 s2 t1 * af α β γ t2 = -(cr t1 t2 s2 * af α β γ s1 - cr t1 t2 s1 * af α β γ s2) := by
  unfold cr af
  grind
theorem cr_id (s1 s2 t1 t2 : Z2) : cr s1 s2 t2 - cr s1 s2 t1 = -(cr t1 t2 s2 - cr t1 t2 s1) := by
  unfold cr
  grind
/-- b1 ≤ 0 ≤ b2: no common point -/
theorem sep_one {b1 b2 c1 c2 f1 f2 g1 g2 : Int} (e1 : b2 * g1 - b1 * g2 = -(c2 * f1 - c1 * f2)) (e2 : b2 - b1 = -(c2 - c1)) (hf1 : 0 < f1) (hf2 : 0 < f2) (hg1 : g1 < 0) (hg2 : g2 < 0) (hb1 : b1 ≤ 0) (hb2 : 0 ≤ b2) (hb : b1 < b2) (hc1 : 0 ≤ c1) (hc2 : c2 ≤ 0) : False := by
  have h1 : b2 * g1 ≤ 0 := Int.mul_nonpos_of_nonneg_of_nonpos hb2 (by omega)
  have h2 : 0 ≤ b1 * g2 := Int.mul_nonneg_of_nonpos_of_nonpos hb1 (by omega)
  have h3 : 0 ≤ c1 * f2 := Int.mul_nonneg hc1 (by omega)
  have h4 : c2 * f1 ≤ 0 := Int.mul_nonpos_of_nonpos_of_nonneg hc2 (by omega)
  have z1 : b2 * g1 = 0 := by omega
  have z2 : b1 * g2 = 0 := by omega
  have y1 : b2 = 0 := by
    rcases Int.mul_eq_zero.mp z1 with h | h
    · exact h
    · omega
  have y2 : b1 = 0 := by
    rcases Int.mul_eq_zero.mp z2 with h | h
    · exact h
    · omega
  omega
theorem sep_cross {s1 s2 t1 t2 : Z2} {α β γ : Int} (hs1 : 0 < af α β γ s1) (hs2 : 0 < af α β γ s2) (ht1 : af α β γ t1 < 0) (ht2 : af α β γ t2 < 0) (hne : ¬ ((cr s1 s2 t1).sign = 0 ∧ (cr s1 s2 t2).sign = 0)) :
    (cr s1 s2 t1).sign = (cr s1 s2 t2).sign ∨ 0 < (cr t1 t2 s1).sign * (cr t1 t2 s2).sign := by
  have e1 := af_id α β γ s1 s2 t1 t2
  have e2 := cr_id s1 s2 t1 t2
  generalize cr s1 s2 t1 = b1 at *
  generalize cr s1 s2 t2 = b2 at *
  generalize cr t1 t2 s1 = c1 at *
  generalize cr t1 t2 s2 = c2 at *
  generalize af α β γ s1 = f1 at *
  generalize af α β γ s2 = f2 at *
  generalize af α β γ t1 = g1 at *
  generalize af α β γ t2 = g2 at *
  rcases Int.lt_trichotomy b1 0 with h1 | h1 | h1 <;> rcases Int.lt_trichotomy b2 0 with h2 | h2 | h2
  · exact .inl (by rw [Int.sign_eq_neg_one_of_neg h1, Int.sign_eq_neg_one_of_neg h2])
  all_goals first
    | exact .inl (by rw [Int.sign_eq_one_of_pos h1, Int.sign_eq_one_of_pos h2])
    | (exact absurd ⟨by rw [h1]; rfl, by rw [h2]; rfl⟩ hne)
    | skip
  all_goals
    refine .inr ?_
    rcases Int.lt_trichotomy c1 0 with k1 | k1 | k1 <;> rcases Int.lt_trichotomy c2 0 with k2 | k2 | k2 <;> first
      | (rw [Int.sign_eq_neg_one_of_neg k1, Int.sign_eq_neg_one_of_neg k2]; decide)
      | (rw [Int.sign_eq_one_of_pos k1, Int.sign_eq_one_of_pos k2]; decide)
      | exact (sep_one e1 e2 hs1 hs2 ht1 ht2 (by omega) (by omega) (by omega) (by omega) (by omega)).elim
      | exact (sep_one (b1 := -b1) (b2 := -b2) (c1 := -c1) (c2 := -c2) (by rw [Int.neg_mul, Int.neg_mul, Int.neg_mul, Int.neg_mul]; omega) (by omega) hs1 hs2 ht1 ht2 (by omega) (by omega) (by omega) (by omega) (by omega)).elim
      | (exfalso; omega)
end GeoZ
/-! fractions of integers by one under: sums, crosses, bends, order -/
namespace Odd
open PySem PySem.Spec PyProof.Rows L2 GeoZ
def scP (un : Int) (p : Int × Int) : P2 := (low p.1 un, low p.2 un)
theorem low_eq {t u t' u' : Int} (h : u ≠ 0) (h' : u' ≠ 0) (e : t * u' = t' * u) : low t u = low t' u' := by
  refine IsLow.uniq h (low_is h).1 ⟨(low_is h').1.1, ?_⟩
  have k := (low_is (t := t') h').1.2
  generalize low t' u' = p at *
  refine Int.eq_of_mul_eq_mul_right h' ?_
  grind
theorem low_form {t u : Int} (h : 0 < u) : ∃ g P U : Int, 0 < g ∧ t = g * P ∧ u = g * U ∧ 0 < U ∧ low t u = (P, U) := by
  obtain ⟨g, g0, e1, e2, _⟩ := low_pos (t := t) h
  refine ⟨g, _, _, g0, e1, e2, ?_, rfl⟩
  exact (low_is (by omega)).1.1.1
theorem low_add {a u b v : Int} (hu : 0 < u) (hv : 0 < v) : fAdd (low a u) (low b v) = low (a * v + b * u) (u * v) := by
  obtain ⟨g, A, U, g0, rfl, rfl, U0, e1⟩ := low_form (t := a) hu
  obtain ⟨k, B, V, k0, rfl, rfl, V0, e2⟩ := low_form (t := b) hv
  rw [e1, e2]
  exact low_eq (Int.mul_ne_zero (by omega) (by omega)) (Int.mul_ne_zero (by omega) (by omega)) (by dsimp only; grind)
theorem low_sub {a u b v : Int} (hu : 0 < u) (hv : 0 < v) : fSub (low a u) (low b v) = low (a * v - b * u) (u * v) := by
  obtain ⟨g, A, U, g0, rfl, rfl, U0, e1⟩ := low_form (t := a) hu
  obtain ⟨k, B, V, k0, rfl, rfl, V0, e2⟩ := low_form (t := b) hv
  rw [e1, e2]
  exact low_eq (Int.mul_ne_zero (by omega) (by omega)) (Int.mul_ne_zero (by omega) (by omega)) (by dsimp only; grind)
theorem low_mul {a u b v : Int} (hu : 0 < u) (hv : 0 < v) : fMul (low a u) (low b v) = low (a * b) (u * v) := by
  obtain ⟨g, A, U, g0, rfl, rfl, U0, e1⟩ := low_form (t := a) hu
  obtain ⟨k, B, V, k0, rfl, rfl, V0, e2⟩ := low_form (t := b) hv
  rw [e1, e2]
  exact low_eq (Int.mul_ne_zero (by omega) (by omega)) (Int.mul_ne_zero (by omega) (by omega)) (by dsimp only; grind)
theorem low_negF {a u : Int} (hu : 0 < u) : fNeg (low a u) = low (-a) u := by
  obtain ⟨g, A, U, g0, rfl, rfl, U0, e1⟩ := low_form (t := a) hu
  rw [e1]
  show (-A, U) = _
  have c := (low_is (t := g * A) (u := g * U) (by omega)).1
  rw [e1] at c
  refine (IsLow.uniq (by omega) (low_is (by omega)).1 ⟨fNeg_canon c.1, ?_⟩).symm
  show -A * (g * U) = -(g * A) * U
  grind
theorem low_sign {a u : Int} (hu : 0 < u) : (low a u).1.sign = a.sign := by
  obtain ⟨g, A, U, g0, rfl, rfl, U0, e1⟩ := low_form (t := a) hu
  rw [e1, Int.sign_mul, Int.sign_eq_one_of_pos g0, Int.one_mul]
theorem low_zero {a u : Int} (hu : 0 < u) : low a u = (0, 1) ↔ a = 0 := by
  constructor
  · intro h
    have := low_sign (a := a) hu
    rw [h] at this
    exact Int.sign_eq_zero_iff_zero.mp this.symm
  · rintro rfl
    exact IsLow.uniq (by omega) (low_is (by omega)).1 ⟨⟨by decide, by decide⟩, by simp⟩
theorem low_inj {a b u : Int} (hu : 0 < u) : low a u = low b u ↔ a = b := by
  constructor
  · intro h
    have k1 := (low_is (t := a) (u := u) (by omega)).1.2
    have k2 := (low_is (t := b) (u := u) (by omega)).1
    rw [h] at k1
    have k3 := k2.2
    have k4 := k2.1.1
    generalize low b u = p at *
    refine Int.eq_of_mul_eq_mul_right (show p.2 ≠ 0 by omega) ?_
    rw [← k1, ← k3]
  · rintro rfl; rfl
theorem low_lt {a b u : Int} (hu : 0 < u) : fLt (low a u) (low b u) = decide (a < b) := by
  unfold fLt
  obtain ⟨g, A, U, g0, e1, e2, U0, e3⟩ := low_form (t := a) hu
  obtain ⟨k, B, V, k0, f1, f2, V0, f3⟩ := low_form (t := b) hu
  rw [e3, f3]
  dsimp only
  have key : (A * V < B * U) ↔ a < b := by
    have m : 0 < g * k := Int.mul_pos g0 k0
    have q1 : (A * V) * (g * k) = a * u := by
      calc (A * V) * (g * k) = (g * A) * (k * V) := by grind
        _ = a * u := by rw [← e1, ← f2]
    have q2 : (B * U) * (g * k) = b * u := by
      calc (B * U) * (g * k) = (k * B) * (g * U) := by grind
        _ = b * u := by rw [← f1, ← e2]
    constructor
    · intro h
      have := Int.mul_lt_mul_of_pos_right h m
      rw [q1, q2] at this
      exact Int.lt_of_mul_lt_mul_right this (by omega)
    · intro h
      have := Int.mul_lt_mul_of_pos_right h hu
      rw [← q1, ← q2] at this
      exact Int.lt_of_mul_lt_mul_right this (by omega)
  exact decide_eq_decide.mpr key
def lexZ (p q : Int × Int) : Bool := decide (p.1 < q.1) || (decide (p.1 = q.1) && decide (p.2 < q.2))
theorem lex_sc {un : Int} (h : 0 < un) (p q : Int × Int) : lexB (scP un p) (scP un q) = lexZ p q := by
  unfold lexB lexZ scP
  rw [low_lt h, low_lt h, decide_eq_decide.mpr (low_inj h)]
/-- the sign of a bend is that of the integer points -/
theorem bd_sc {un : Int} (h : 0 < un) (p q r : Int × Int) : (bdN (scP un p) (scP un q) (scP un r)).sign = (cr p q r).sign := by
  obtain ⟨g1, P1, U1, m1, a1, b1, z1, e1⟩ := low_form (t := p.1) h
  obtain ⟨g2, P2, U2, m2, a2, b2, z2, e2⟩ := low_form (t := p.2) h
  obtain ⟨g3, P3, U3, m3, a3, b3, z3, e3⟩ := low_form (t := q.1) h
  obtain ⟨g4, P4, U4, m4, a4, b4, z4, e4⟩ := low_form (t := q.2) h
  obtain ⟨g5, P5, U5, m5, a5, b5, z5, e5⟩ := low_form (t := r.1) h
  obtain ⟨g6, P6, U6, m6, a6, b6, z6, e6⟩ := low_form (t := r.2) h
  unfold bdN scP lsA cr
  rw [e1, e2, e3, e4, e5, e6]
  dsimp only
  have ls : ∀ {a b gA gB A B UA UB : Int}, a = gA * A → un = gA * UA → b = gB * B → un = gB * UB → (A * UB - B * UA) * (gA * gB) = (a - b) * un := by
    intro a b gA gB A B UA UB x1 x2 x3 x4
    have y1 : a * un = (gA * A) * (gB * UB) := by rw [← x1, ← x4]
    have y2 : b * un = (gB * B) * (gA * UA) := by rw [← x3, ← x2]
    rw [Int.sub_mul, Int.sub_mul, y1, y2]
    grind
  have k1 := ls a3 b3 a1 b1
  have k2 := ls a6 b6 a2 b2
  have k3 := ls a4 b4 a2 b2
  have k4 := ls a5 b5 a1 b1
  generalize P3 * U1 - P1 * U3 = L1 at *
  generalize P6 * U2 - P2 * U6 = L2 at *
  generalize P4 * U2 - P2 * U4 = L3 at *
  generalize P5 * U1 - P1 * U5 = L4 at *
  have G0 : 0 < (g3 * g1) * (g6 * g2) * ((g4 * g2) * (g5 * g1)) := Int.mul_pos (Int.mul_pos (Int.mul_pos m3 m1) (Int.mul_pos m6 m2)) (Int.mul_pos (Int.mul_pos m4 m2) (Int.mul_pos m5 m1))
  have u6 : 0 < un * un * un * (un * un * un) := Int.mul_pos (Int.mul_pos (Int.mul_pos h h) h) (Int.mul_pos (Int.mul_pos h h) h)
  have main : (L1 * L2 * (U4 * U2) * (U5 * U1) - L3 * L4 * (U3 * U1) * (U6 * U2)) * ((g3 * g1) * (g6 * g2) * ((g4 * g2) * (g5 * g1))) = (un * un * un * (un * un * un)) * ((q.1 - p.1) * (r.2 - p.2) - (q.2 - p.2) * (r.1 - p.1)) := by
    have w1 : (g4 * U4) * (g2 * U2) * ((g5 * U5) * (g1 * U1)) = un * un * (un * un) := by rw [← b4, ← b2, ← b5, ← b1]
    have w2 : (g3 * U3) * (g1 * U1) * ((g6 * U6) * (g2 * U2)) = un * un * (un * un) := by rw [← b3, ← b1, ← b6, ← b2]
    have s1 : (L1 * L2 * (U4 * U2) * (U5 * U1)) * ((g3 * g1) * (g6 * g2) * ((g4 * g2) * (g5 * g1))) = (L1 * (g3 * g1)) * (L2 * (g6 * g2)) * ((g4 * U4) * (g2 * U2) * ((g5 * U5) * (g1 * U1))) := by grind
    have s2 : (L3 * L4 * (U3 * U1) * (U6 * U2)) * ((g3 * g1) * (g6 * g2) * ((g4 * g2) * (g5 * g1))) = (L3 * (g4 * g2)) * (L4 * (g5 * g1)) * ((g3 * U3) * (g1 * U1) * ((g6 * U6) * (g2 * U2))) := by grind
    rw [Int.sub_mul, s1, s2, k1, k2, k3, k4, w1, w2]
    grind
  have e := congrArg Int.sign main
  rw [Int.sign_mul, Int.sign_eq_one_of_pos G0, Int.mul_one, Int.sign_mul, Int.sign_eq_one_of_pos u6, Int.one_mul] at e
  exact e
end Odd
/-! sides told apart by an affine function have no point in common -/
namespace Odd
open PySem PySem.Spec PyProof.Rows L2 GeoZ
def LexP (v : Int × Int) : Prop := 0 < v.1 ∨ (v.1 = 0 ∧ 0 < v.2)
theorem lexZ_iff (p q : Int × Int) : lexZ p q = true ↔ LexP (q.1 - p.1, q.2 - p.2) := by
  unfold lexZ LexP
  simp only [Bool.or_eq_true, Bool.and_eq_true, decide_eq_true_eq]
  constructor
  · rintro (h | ⟨h1, h2⟩)
    · exact .inl (by omega)
    · exact .inr ⟨by omega, by omega⟩
  · rintro (h | ⟨h1, h2⟩)
    · exact .inl (by omega)
    · exact .inr ⟨by omega, by omega⟩
theorem lexZ_asym {p q : Int × Int} (h : lexZ p q = true) : lexZ q p = false := by
  cases e : lexZ q p with
  | false => rfl
  | true =>
    rw [lexZ_iff] at h e
    unfold LexP at h e
    dsimp only at h e
    omega
theorem pos_of_mul {a W b D : Int} (e : a * W = b * D) (hW : 0 < W) (hD : 0 < D) (hb : 0 < b) : 0 < a := by
  have h : 0 < a * W := by rw [e]; exact Int.mul_pos hb hD
  exact Int.pos_of_mul_pos_left h (by omega) |> fun x => x
theorem lexP_of {v w : Int × Int} {W D : Int} (e1 : v.1 * W = w.1 * D) (e2 : v.2 * W = w.2 * D) (hW : 0 < W) (hD : 0 < D) (h : LexP w) : LexP v := by
  rcases h with h | ⟨h1, h2⟩
  · exact .inl (pos_of_mul e1 hW hD h)
  · refine .inr ⟨?_, pos_of_mul e2 hW hD h2⟩
    rw [h1, Int.zero_mul] at e1
    rcases Int.mul_eq_zero.mp e1 with h | h
    · exact h
    · omega
theorem sq_nonneg' (a : Int) : 0 ≤ a * a := by
  rcases Int.le_total 0 a with h | h
  · exact Int.mul_nonneg h h
  · exact Int.mul_nonneg_of_nonpos_of_nonpos h h
theorem turn1 {u a W q D : Int} (e : (u - a) * W = q * D) : (a - u) * W = -q * D := by
  rw [show a - u = -(u - a) by omega, Int.neg_mul, Int.neg_mul, e]
theorem turn2 {u a W q D : Int} (e : (u - a) * W = q * D) : (a - u) * W = q * -D := by
  rw [show a - u = -(u - a) by omega, Int.neg_mul, Int.mul_neg, e]
theorem turn3 {p W q D : Int} (e : p * W = q * D) : p * W = -q * -D := by
  rw [Int.neg_mul_neg, e]
theorem noShare_ahead {un : Int} (h : 0 < un) {s1 s2 t1 t2 : Int × Int} (a11 : lexZ s1 t1 = true) (a12 : lexZ s1 t2 = true) (a21 : lexZ s2 t1 = true) (a22 : lexZ s2 t2 = true) :
    noShare (scP un s1, scP un s2) (scP un t1, scP un t2) := by
  have b11 := lexZ_asym a11
  have b12 := lexZ_asym a12
  have b21 := lexZ_asym a21
  have b22 := lexZ_asym a22
  unfold noShare ordS
  dsimp only
  rw [lex_sc h, lex_sc h]
  cases e1 : lexZ s2 s1 <;> cases e2 : lexZ t2 t1 <;> simp [lex_sc h, a11, a12, a21, a22, b11, b12, b21, b22]
theorem noShare_behind {un : Int} (h : 0 < un) {s1 s2 t1 t2 : Int × Int} (a11 : lexZ t1 s1 = true) (a12 : lexZ t2 s1 = true) (a21 : lexZ t1 s2 = true) (a22 : lexZ t2 s2 = true) :
    noShare (scP un s1, scP un s2) (scP un t1, scP un t2) := by
  have b11 := lexZ_asym a11
  have b12 := lexZ_asym a12
  have b21 := lexZ_asym a21
  have b22 := lexZ_asym a22
  unfold noShare ordS
  dsimp only
  rw [lex_sc h, lex_sc h]
  cases e1 : lexZ s2 s1 <;> cases e2 : lexZ t2 t1 <;> simp [lex_sc h, a11, a12, a21, a22, b11, b12, b21, b22]
theorem apart_sc {un : Int} (h : 0 < un) {s1 s2 t1 t2 : Int × Int} {α β γ : Int} (hne : s1 ≠ s2) (hs1 : 0 < af α β γ s1) (hs2 : 0 < af α β γ s2) (ht1 : af α β γ t1 < 0) (ht2 : af α β γ t2 < 0) :
    Apart (scP un s1, scP un s2) (scP un t1, scP un t2) := by
  unfold Apart
  dsimp only
  rw [bd_sc h, bd_sc h, bd_sc h, bd_sc h]
  split
  · rename_i c
    obtain ⟨c1, c2⟩ := c
    have c1 := Int.sign_eq_zero_iff_zero.mp c1
    have c2 := Int.sign_eq_zero_iff_zero.mp c2
    obtain ⟨x1, y1⟩ := s1
    obtain ⟨x2, y2⟩ := s2
    obtain ⟨z1, w1⟩ := t1
    obtain ⟨z2, w2⟩ := t2
    unfold cr at c1 c2
    unfold af at hs1 hs2 ht1 ht2
    dsimp only at c1 c2 hs1 hs2 ht1 ht2
    have key : ∀ (a b u v : Int), (x2 - x1) * (v - b) - (y2 - y1) * (u - a) = 0 → α * (u - a) + β * (v - b) < 0 →
        (u - a) * ((x2 - x1) * (x2 - x1) + (y2 - y1) * (y2 - y1)) = (x2 - x1) * ((u - a) * (x2 - x1) + (v - b) * (y2 - y1)) ∧
        (v - b) * ((x2 - x1) * (x2 - x1) + (y2 - y1) * (y2 - y1)) = (y2 - y1) * ((u - a) * (x2 - x1) + (v - b) * (y2 - y1)) ∧
        (α * (x2 - x1) + β * (y2 - y1)) * ((u - a) * (x2 - x1) + (v - b) * (y2 - y1)) < 0 ∨ (x2 - x1) * (x2 - x1) + (y2 - y1) * (y2 - y1) ≤ 0 := by
      intro a b u v hc hf
      generalize u - a = p at *
      generalize v - b = q at *
      generalize x2 - x1 = X at *
      generalize y2 - y1 = Y at *
      by_cases hW : X * X + Y * Y ≤ 0
      · exact .inr hW
      · refine .inl ⟨by grind, by grind, ?_⟩
        have : (α * X + β * Y) * (p * X + q * Y) = (α * p + β * q) * (X * X + Y * Y) := by grind
        rw [this]
        exact Int.mul_neg_of_neg_of_pos hf (by omega)
    have hW : 0 < (x2 - x1) * (x2 - x1) + (y2 - y1) * (y2 - y1) := by
      have q1 : 0 ≤ (x2 - x1) * (x2 - x1) := sq_nonneg' _
      have q2 : 0 ≤ (y2 - y1) * (y2 - y1) := sq_nonneg' _
      refine Int.lt_iff_le_and_ne.mpr ⟨by omega, fun z => hne ?_⟩
      have r1 : (x2 - x1) * (x2 - x1) = 0 := by omega
      have r2 : (y2 - y1) * (y2 - y1) = 0 := by omega
      have r1 := (Int.mul_eq_zero.mp r1).elim id id
      have r2 := (Int.mul_eq_zero.mp r2).elim id id
      rw [show x1 = x2 by omega, show y1 = y2 by omega]
    have no : ¬ ((x2 - x1) * (x2 - x1) + (y2 - y1) * (y2 - y1) ≤ 0) := by omega
    have k11 := (key x1 y1 z1 w1 (by grind) (by grind)).resolve_right no
    have k12 := (key x1 y1 z2 w2 (by grind) (by grind)).resolve_right no
    have k21 := (key x2 y2 z1 w1 (by grind) (by grind)).resolve_right no
    have k22 := (key x2 y2 z2 w2 (by grind) (by grind)).resolve_right no
    have hLex : LexP (x2 - x1, y2 - y1) ∨ LexP (-(x2 - x1), -(y2 - y1)) := by
      unfold LexP
      dsimp only
      have : ¬ (x2 - x1 = 0 ∧ y2 - y1 = 0) := fun ⟨r1, r2⟩ => hne (by rw [show x1 = x2 by omega, show y1 = y2 by omega])
      omega
    generalize (x2 - x1) * (x2 - x1) + (y2 - y1) * (y2 - y1) = W at *
    generalize α * (x2 - x1) + β * (y2 - y1) = g at *
    have one : ∀ {a b u v D : Int}, (u - a) * W = (x2 - x1) * D ∧ (v - b) * W = (y2 - y1) * D ∧ g * D < 0 →
        (g < 0 → LexP (x2 - x1, y2 - y1) → lexZ (a, b) (u, v) = true) ∧ (g < 0 → LexP (-(x2 - x1), -(y2 - y1)) → lexZ (u, v) (a, b) = true) ∧
        (0 < g → LexP (x2 - x1, y2 - y1) → lexZ (u, v) (a, b) = true) ∧ (0 < g → LexP (-(x2 - x1), -(y2 - y1)) → lexZ (a, b) (u, v) = true) := by
      intro a b u v D ⟨e1, e2, e3⟩
      have dP : g < 0 → 0 < D := fun hg => by
        rcases Int.lt_trichotomy D 0 with d | d | d
        · have := Int.mul_pos_of_neg_of_neg hg d
          omega
        · rw [d, Int.mul_zero] at e3; omega
        · exact d
      have dN : 0 < g → D < 0 := fun hg => by
        rcases Int.lt_trichotomy D 0 with d | d | d
        · exact d
        · rw [d, Int.mul_zero] at e3; omega
        · have := Int.mul_pos hg d
          omega
      refine ⟨fun hg hl => ?_, fun hg hl => ?_, fun hg hl => ?_, fun hg hl => ?_⟩
      · rw [lexZ_iff]
        exact lexP_of (v := (u - a, v - b)) e1 e2 hW (dP hg) hl
      · rw [lexZ_iff]
        exact lexP_of (v := (a - u, b - v)) (w := (-(x2 - x1), -(y2 - y1))) (turn1 e1) (turn1 e2) hW (dP hg) hl
      · rw [lexZ_iff]
        exact lexP_of (v := (a - u, b - v)) (w := (x2 - x1, y2 - y1)) (D := -D) (turn2 e1) (turn2 e2) hW (by have := dN hg; omega) hl
      · rw [lexZ_iff]
        exact lexP_of (v := (u - a, v - b)) (w := (-(x2 - x1), -(y2 - y1))) (D := -D) (turn3 e1) (turn3 e2) hW (by have := dN hg; omega) hl
    have o11 := one k11
    have o12 := one k12
    have o21 := one k21
    have o22 := one k22
    have hg : g ≠ 0 := by
      rintro rfl
      have := k11.2.2
      rw [Int.zero_mul] at this
      omega
    rcases Int.lt_or_gt_of_ne hg with hg | hg <;> rcases hLex with hl | hl
    · exact noShare_ahead h (o11.1 hg hl) (o12.1 hg hl) (o21.1 hg hl) (o22.1 hg hl)
    · exact noShare_behind h (o11.2.1 hg hl) (o12.2.1 hg hl) (o21.2.1 hg hl) (o22.2.1 hg hl)
    · exact noShare_behind h (o11.2.2.1 hg hl) (o12.2.2.1 hg hl) (o21.2.2.1 hg hl) (o22.2.2.1 hg hl)
    · exact noShare_ahead h (o11.2.2.2 hg hl) (o12.2.2.2 hg hl) (o21.2.2.2 hg hl) (o22.2.2.2 hg hl)
  · rename_i c
    exact sep_cross hs1 hs2 ht1 ht2 c
end Odd
/-! closed rows of integer points, corner by corner and round again -/
namespace Odd
open GeoZ
def cyc (zs : List (Int × Int)) (i : Nat) : Int × Int := zs.getD (i % zs.length) (0, 0)
def x0 (p q : Int × Int) : Int := p.1 * q.2 - p.2 * q.1
def SepZ (a b c d : Int × Int) : Prop := ∃ α β γ, 0 < af α β γ a ∧ 0 < af α β γ b ∧ af α β γ c < 0 ∧ af α β γ d < 0
def AheadZ (a b c : Int × Int) : Prop := ∃ α β : Int, 0 < α * (b.1 - a.1) + β * (b.2 - a.2) ∧ 0 < α * (c.1 - b.1) + β * (c.2 - b.2)
structure Poly (zs : List (Int × Int)) : Prop where
  len : 3 ≤ zs.length
  ahead : ∀ i, AheadZ (cyc zs i) (cyc zs (i + 1)) (cyc zs (i + 2))
  sep : ∀ i d, 2 ≤ d → d + 2 ≤ zs.length → SepZ (cyc zs i) (cyc zs (i + 1)) (cyc zs (i + d)) (cyc zs (i + d + 1))
def sumN (g : Nat → Int) : Nat → Int
  | 0 => 0
  | n + 1 => sumN g n + g n
def arC (zs : List (Int × Int)) : Int := sumN (fun i => x0 (cyc zs i) (cyc zs (i + 1))) zs.length
def lfC (zs : List (Int × Int)) : Int := sumN (fun i => if 0 < cr (cyc zs i) (cyc zs (i + 1)) (cyc zs (i + 2)) then 1 else 0) zs.length
structure Fine (zs : List (Int × Int)) : Prop where
  poly : Poly zs
  area : 0 < arC zs
  left : 3 ≤ lfC zs
theorem SepZ.neg {a b c d : Int × Int} (s : SepZ a b c d) : SepZ c d a b := by
  obtain ⟨α, β, γ, h1, h2, h3, h4⟩ := s
  have e : ∀ p, af (-α) (-β) (-γ) p = - af α β γ p := fun p => by unfold af; grind
  exact ⟨-α, -β, -γ, by rw [e]; omega, by rw [e]; omega, by rw [e]; omega, by rw [e]; omega⟩
theorem SepZ.swap {a b c d : Int × Int} (s : SepZ a b c d) : SepZ b a d c := by
  obtain ⟨α, β, γ, h1, h2, h3, h4⟩ := s
  exact ⟨α, β, γ, h2, h1, h4, h3⟩
theorem AheadZ.turn {a b c : Int × Int} (s : AheadZ a b c) : AheadZ c b a := by
  obtain ⟨α, β, h1, h2⟩ := s
  exact ⟨-α, -β, by grind, by grind⟩
theorem AheadZ.ne {a b c : Int × Int} (s : AheadZ a b c) : a ≠ b := by
  rintro rfl
  obtain ⟨α, β, h1, h2⟩ := s
  grind
theorem cyc_mod (zs : List (Int × Int)) (i : Nat) : cyc zs (i % zs.length) = cyc zs i := by
  unfold cyc
  rw [Nat.mod_mod]
theorem cyc_per (zs : List (Int × Int)) (i : Nat) : cyc zs (i + zs.length) = cyc zs i := by
  unfold cyc
  rw [Nat.add_mod_right]
theorem cyc_modA (zs : List (Int × Int)) (i k : Nat) : cyc zs (i % zs.length + k) = cyc zs (i + k) := by
  unfold cyc
  rw [Nat.mod_add_mod]
theorem cyc_lt {zs : List (Int × Int)} {i : Nat} (h : i < zs.length) : zs[i]? = some (cyc zs i) := by
  unfold cyc
  rw [Nat.mod_eq_of_lt h, List.getD_eq_getElem?_getD, List.getElem?_eq_getElem h]
  rfl
theorem cyc_eq {zs : List (Int × Int)} {i : Nat} {p : Int × Int} (h : zs[i]? = some p) : cyc zs i = p := by
  have hi := (List.getElem?_eq_some_iff.mp h).1
  rw [cyc_lt hi] at h
  exact Option.some.inj h
theorem cyc_mem {zs : List (Int × Int)} (h : 0 < zs.length) (i : Nat) : cyc zs i ∈ zs := by
  have e := cyc_lt (zs := zs) (i := i % zs.length) (Nat.mod_lt _ h)
  rw [cyc_mod] at e
  exact List.mem_of_getElem? e
theorem cyc_map {zs : List (Int × Int)} (h : 0 < zs.length) (φ : Int × Int → Int × Int) (i : Nat) : cyc (zs.map φ) i = φ (cyc zs i) := by
  rw [← cyc_mod zs, ← cyc_mod (zs.map φ), List.length_map]
  refine cyc_eq ?_
  rw [List.getElem?_map, cyc_lt (Nat.mod_lt _ h)]
  rfl
theorem cyc_rot {zs : List (Int × Int)} {k : Nat} (h : 0 < zs.length) (hk : k ≤ zs.length) (i : Nat) : cyc (zs.drop k ++ zs.take k) i = cyc zs (i + k) := by
  have hl : (zs.drop k ++ zs.take k).length = zs.length := by
    rw [List.length_append, List.length_drop, List.length_take]
    omega
  rw [← cyc_mod, hl, ← cyc_modA]
  have hi := Nat.mod_lt i h
  generalize i % zs.length = j at *
  refine cyc_eq ?_
  by_cases c : j < zs.length - k
  · rw [List.getElem?_append_left (by rw [List.length_drop]; exact c), List.getElem?_drop, Nat.add_comm k j, cyc_lt (by omega)]
  · rw [List.getElem?_append_right (by rw [List.length_drop]; omega), List.length_drop, List.getElem?_take, if_pos (by omega), cyc_lt (by omega)]
    rw [← cyc_per zs (j - (zs.length - k)), show j - (zs.length - k) + zs.length = j + k by omega]
theorem cyc_back {zs : List (Int × Int)} (h : 0 < zs.length) (i : Nat) : cyc (zs.take 1 ++ (zs.drop 1).reverse) i = cyc zs (zs.length - i % zs.length) := by
  have hl : (zs.take 1 ++ (zs.drop 1).reverse).length = zs.length := by
    rw [List.length_append, List.length_reverse, List.length_drop, List.length_take]
    omega
  rw [← cyc_mod, hl]
  have hi := Nat.mod_lt i h
  generalize i % zs.length = j at *
  refine cyc_eq ?_
  by_cases c : j = 0
  · subst c
    rw [List.getElem?_append_left (by rw [List.length_take]; omega), List.getElem?_take, if_pos (by omega), cyc_lt h, Nat.sub_zero, ← cyc_per zs 0, Nat.zero_add]
  · have hlt : (zs.take 1).length = 1 := by rw [List.length_take]; omega
    rw [List.getElem?_append_right (by omega), hlt, List.getElem?_reverse (by rw [List.length_drop]; omega), List.getElem?_drop, List.length_drop, cyc_lt (by omega)]
    rw [show 1 + (zs.length - 1 - 1 - (j - 1)) = zs.length - j by omega]
theorem sumN_congr {g f : Nat → Int} {n : Nat} (h : ∀ i, i < n → g i = f i) : sumN g n = sumN f n := by
  induction n with
  | zero => rfl
  | succ n ih =>
    show sumN g n + g n = sumN f n + f n
    rw [ih fun i hi => h i (by omega), h n (by omega)]
theorem sumN_head (g : Nat → Int) (n : Nat) : sumN g (n + 1) = g 0 + sumN (fun i => g (i + 1)) n := by
  induction n with
  | zero => show 0 + g 0 = g 0 + 0; omega
  | succ n ih =>
    show sumN g (n + 1) + g (n + 1) = g 0 + (sumN (fun i => g (i + 1)) n + g (n + 1))
    omega
theorem sumN_one {g : Nat → Int} {n : Nat} (h : g n = g 0) : sumN (fun i => g (i + 1)) n = sumN g n := by
  have := sumN_head g n
  have e : sumN g (n + 1) = sumN g n + g n := rfl
  omega
theorem sumN_shift {g : Nat → Int} {n : Nat} (h : ∀ i, g (i + n) = g i) (k : Nat) : sumN (fun i => g (i + k)) n = sumN g n := by
  induction k with
  | zero => rfl
  | succ k ih =>
    rw [← ih, ← sumN_one (g := fun i => g (i + k)) (n := n) (by show g (n + k) = g (0 + k); rw [Nat.add_comm n k, h, Nat.zero_add])]
    exact sumN_congr fun i _ => by show g (i + (k + 1)) = g (i + 1 + k); rw [show i + (k + 1) = i + 1 + k by omega]
theorem sumN_rev (g : Nat → Int) (n : Nat) : sumN (fun i => g (n - 1 - i)) n = sumN g n := by
  induction n with
  | zero => rfl
  | succ n ih =>
    rw [sumN_head]
    show g n + _ = sumN g n + g n
    rw [← ih, Int.add_comm]
    refine congrArg (· + g n) (sumN_congr fun i hi => ?_)
    show g (n + 1 - 1 - (i + 1)) = g (n - 1 - i)
    rw [show n + 1 - 1 - (i + 1) = n - 1 - i by omega]
theorem sumN_mul (c : Int) (g : Nat → Int) (n : Nat) : sumN (fun i => c * g i) n = c * sumN g n := by
  induction n with
  | zero => show 0 = c * 0; omega
  | succ n ih =>
    show sumN (fun i => c * g i) n + c * g n = c * (sumN g n + g n)
    rw [ih, Int.mul_add]
theorem sumN_tele (h : Nat → Int) (g : Nat → Int) (n : Nat) : sumN (fun i => g i + (h (i + 1) - h i)) n = sumN g n + (h n - h 0) := by
  induction n with
  | zero => show (0 : Int) = 0 + (h 0 - h 0); omega
  | succ n ih =>
    show sumN (fun i => g i + (h (i + 1) - h i)) n + (g n + (h (n + 1) - h n)) = sumN g n + g n + (h (n + 1) - h 0)
    rw [ih]
    omega
theorem sumN_nonneg {g : Nat → Int} (h : ∀ i, 0 ≤ g i) (n : Nat) : 0 ≤ sumN g n := by
  induction n with
  | zero => exact Int.le_refl 0
  | succ n ih => exact Int.add_nonneg ih (h n)
theorem sumN_up {g : Nat → Int} (h : ∀ i, 0 ≤ g i) {k n : Nat} (hk : k ≤ n) : sumN g k ≤ sumN g n := by
  induction n with
  | zero => rw [show k = 0 by omega]; exact Int.le_refl _
  | succ n ih =>
    by_cases c : k = n + 1
    · rw [c]; exact Int.le_refl _
    · have := ih (by omega)
      have := h n
      show sumN g k ≤ sumN g n + g n
      omega
theorem sumN_three {g : Nat → Int} (h : ∀ i, 0 ≤ g i) {i j k n : Nat} (hij : i < j) (hjk : j < k) (hk : k < n) (hi : 1 ≤ g i) (hj : 1 ≤ g j) (hkk : 1 ≤ g k) : 3 ≤ sumN g n := by
  have a := sumN_nonneg h i
  have b : sumN g (i + 1) ≤ sumN g j := sumN_up h (by omega)
  have c : sumN g (j + 1) ≤ sumN g k := sumN_up h (by omega)
  have d : sumN g (k + 1) ≤ sumN g n := sumN_up h (by omega)
  have e1 : sumN g (i + 1) = sumN g i + g i := rfl
  have e2 : sumN g (j + 1) = sumN g j + g j := rfl
  have e3 : sumN g (k + 1) = sumN g k + g k := rfl
  omega
theorem sumN_three' {g : Nat → Int} (h : ∀ i, 0 ≤ g i) {i j k n : Nat} (hij : i ≠ j) (hjk : j ≠ k) (hik : i ≠ k) (h1 : i < n) (h2 : j < n) (h3 : k < n) (hi : 1 ≤ g i) (hj : 1 ≤ g j) (hkk : 1 ≤ g k) : 3 ≤ sumN g n := by
  rcases Nat.lt_or_gt_of_ne hij with a | a <;> rcases Nat.lt_or_gt_of_ne hjk with b | b <;> rcases Nat.lt_or_gt_of_ne hik with c | c
  · exact sumN_three h a b h3 hi hj hkk
  · omega
  · exact sumN_three h c b h2 hi hkk hj
  · exact sumN_three h c a h2 hkk hi hj
  · exact sumN_three h a c h3 hj hi hkk
  · exact sumN_three h b c h1 hj hkk hi
  · omega
  · exact sumN_three h b a h1 hkk hj hi
/-- enough for the sides told in their order -/
theorem poly_of {zs : List (Int × Int)} (h3 : 3 ≤ zs.length) (ha : ∀ i, i < zs.length → AheadZ (cyc zs i) (cyc zs (i + 1)) (cyc zs (i + 2)))
    (hs : ∀ i j, i + 2 ≤ j → j < zs.length → ¬ (i = 0 ∧ j + 1 = zs.length) → SepZ (cyc zs i) (cyc zs (i + 1)) (cyc zs j) (cyc zs (j + 1))) : Poly zs := by
  refine ⟨h3, fun i => ?_, fun i d h1 h2 => ?_⟩
  · have := ha (i % zs.length) (Nat.mod_lt _ (by omega))
    rwa [cyc_mod, cyc_modA, cyc_modA] at this
  · have hi := Nat.mod_lt i (show 0 < zs.length by omega)
    rw [← cyc_mod zs i, ← cyc_modA zs i 1, Nat.add_assoc i d 1, ← cyc_modA zs i d, ← cyc_modA zs i (d + 1)]
    generalize i % zs.length = r at *
    by_cases c : r + d < zs.length
    · exact hs r (r + d) (by omega) c (by omega)
    · have := (hs (r + d - zs.length) r (by omega) hi (by omega)).neg
      rw [← cyc_per zs (r + d - zs.length), ← cyc_per zs (r + d - zs.length + 1), show r + d - zs.length + zs.length = r + d by omega, show r + d - zs.length + 1 + zs.length = r + (d + 1) by omega] at this
      exact this
/-- an affine map -/
def affZ (A B E C D F : Int) (p : Int × Int) : Int × Int := (A * p.1 + B * p.2 + E, C * p.1 + D * p.2 + F)
theorem SepZ.aff {A B E C D F : Int} (hd : 0 < A * D - B * C) {a b c d : Int × Int} (s : SepZ a b c d) : SepZ (affZ A B E C D F a) (affZ A B E C D F b) (affZ A B E C D F c) (affZ A B E C D F d) := by
  obtain ⟨α, β, γ, h1, h2, h3, h4⟩ := s
  have e : ∀ p, af (α * D - β * C) (β * A - α * B) ((A * D - B * C) * γ - (α * D - β * C) * E - (β * A - α * B) * F) (affZ A B E C D F p) = (A * D - B * C) * af α β γ p := fun p => by
    unfold af affZ
    dsimp only
    grind
  refine ⟨α * D - β * C, β * A - α * B, (A * D - B * C) * γ - (α * D - β * C) * E - (β * A - α * B) * F, ?_, ?_, ?_, ?_⟩ <;> rw [e]
  · exact Int.mul_pos hd h1
  · exact Int.mul_pos hd h2
  · exact Int.mul_neg_of_pos_of_neg hd h3
  · exact Int.mul_neg_of_pos_of_neg hd h4
theorem AheadZ.aff {A B E C D F : Int} (hd : 0 < A * D - B * C) {a b c : Int × Int} (s : AheadZ a b c) : AheadZ (affZ A B E C D F a) (affZ A B E C D F b) (affZ A B E C D F c) := by
  obtain ⟨α, β, h1, h2⟩ := s
  have e : ∀ p q : Int × Int, (α * D - β * C) * ((affZ A B E C D F q).1 - (affZ A B E C D F p).1) + (β * A - α * B) * ((affZ A B E C D F q).2 - (affZ A B E C D F p).2) = (A * D - B * C) * (α * (q.1 - p.1) + β * (q.2 - p.2)) := fun p q => by
    unfold affZ
    dsimp only
    grind
  refine ⟨α * D - β * C, β * A - α * B, ?_, ?_⟩ <;> rw [e]
  · exact Int.mul_pos hd h1
  · exact Int.mul_pos hd h2
theorem cr_aff (A B E C D F : Int) (p q r : Int × Int) : cr (affZ A B E C D F p) (affZ A B E C D F q) (affZ A B E C D F r) = (A * D - B * C) * cr p q r := by
  unfold cr affZ
  dsimp only
  grind
theorem pos_mul_iff {a b : Int} (h : 0 < a) : 0 < a * b ↔ 0 < b := ⟨fun k => Int.pos_of_mul_pos_right k (by omega) |> fun x => x, fun k => Int.mul_pos h k⟩
theorem Poly.aff {A B E C D F : Int} (hd : 0 < A * D - B * C) {zs : List (Int × Int)} (h : Poly zs) : Poly (zs.map (affZ A B E C D F)) := by
  have h3 := h.len
  have h0 : 0 < zs.length := by omega
  refine ⟨by rw [List.length_map]; exact h.len, fun i => ?_, fun i d h1 h2 => ?_⟩
  · rw [cyc_map h0, cyc_map h0, cyc_map h0]
    exact (h.ahead i).aff hd
  · rw [List.length_map] at h2
    rw [cyc_map h0, cyc_map h0, cyc_map h0, cyc_map h0]
    exact (h.sep i d h1 h2).aff hd
theorem arC_aff (A B E C D F : Int) {zs : List (Int × Int)} (h0 : 0 < zs.length) : arC (zs.map (affZ A B E C D F)) = (A * D - B * C) * arC zs := by
  unfold arC
  rw [List.length_map, ← sumN_mul]
  have t := sumN_tele (fun i => E * (C * (cyc zs i).1 + D * (cyc zs i).2) - F * (A * (cyc zs i).1 + B * (cyc zs i).2)) (fun i => (A * D - B * C) * x0 (cyc zs i) (cyc zs (i + 1))) zs.length
  have p : cyc zs zs.length = cyc zs 0 := by rw [← cyc_per zs 0, Nat.zero_add]
  rw [p, Int.sub_self, Int.add_zero] at t
  rw [← t]
  refine sumN_congr fun i hi => ?_
  rw [cyc_map h0, cyc_map h0]
  unfold x0 affZ
  dsimp only
  grind
theorem lfC_aff {A B E C D F : Int} (hd : 0 < A * D - B * C) {zs : List (Int × Int)} (h0 : 0 < zs.length) : lfC (zs.map (affZ A B E C D F)) = lfC zs := by
  unfold lfC
  rw [List.length_map]
  refine sumN_congr fun i hi => ?_
  rw [cyc_map h0, cyc_map h0, cyc_map h0, cr_aff]
  simp only [pos_mul_iff hd]
theorem Fine.aff {A B E C D F : Int} (hd : 0 < A * D - B * C) {zs : List (Int × Int)} (h : Fine zs) : Fine (zs.map (affZ A B E C D F)) := by
  have h3 := h.poly.len
  refine ⟨h.poly.aff hd, ?_, ?_⟩
  · rw [arC_aff _ _ _ _ _ _ (by omega)]
    exact Int.mul_pos hd h.area
  · rw [lfC_aff hd (by omega)]
    exact h.left
theorem rot_len {zs : List (Int × Int)} {k : Nat} (hk : k ≤ zs.length) : (zs.drop k ++ zs.take k).length = zs.length := by
  rw [List.length_append, List.length_drop, List.length_take]
  omega
theorem back_len {zs : List (Int × Int)} : (zs.take 1 ++ (zs.drop 1).reverse).length = zs.length := by
  rw [List.length_append, List.length_reverse, List.length_drop, List.length_take]
  omega
theorem Fine.rot {zs : List (Int × Int)} {k : Nat} (h : Fine zs) (hk : k ≤ zs.length) : Fine (zs.drop k ++ zs.take k) := by
  have h3 := h.poly.len
  have c := cyc_rot (zs := zs) (k := k) (by omega) hk
  refine ⟨⟨by rw [rot_len hk]; exact h3, fun i => ?_, fun i d h1 h2 => ?_⟩, ?_, ?_⟩
  · have := h.poly.ahead (i + k)
    rw [c, c, c, show i + 1 + k = i + k + 1 by omega, show i + 2 + k = i + k + 2 by omega]
    exact this
  · rw [rot_len hk] at h2
    have := h.poly.sep (i + k) d h1 h2
    rw [c, c, c, c, show i + 1 + k = i + k + 1 by omega, show i + d + k = i + k + d by omega, show i + d + 1 + k = i + k + d + 1 by omega]
    exact this
  · unfold arC
    rw [rot_len hk]
    refine Int.lt_of_lt_of_le h.area (Int.le_of_eq ?_)
    unfold arC
    rw [← sumN_shift (g := fun i => x0 (cyc zs i) (cyc zs (i + 1))) (fun i => by show x0 (cyc zs (i + zs.length)) (cyc zs (i + zs.length + 1)) = _; rw [cyc_per, Nat.add_right_comm, cyc_per]) k]
    refine sumN_congr fun i _ => ?_
    rw [c, c, Nat.add_right_comm i 1 k]
  · unfold lfC
    rw [rot_len hk]
    refine Int.le_trans h.left (Int.le_of_eq ?_)
    unfold lfC
    rw [← sumN_shift (g := fun i => if 0 < cr (cyc zs i) (cyc zs (i + 1)) (cyc zs (i + 2)) then (1 : Int) else 0) (fun i => by
      show (if 0 < cr (cyc zs (i + zs.length)) (cyc zs (i + zs.length + 1)) (cyc zs (i + zs.length + 2)) then (1 : Int) else 0) = _
      rw [cyc_per, Nat.add_right_comm, cyc_per, Nat.add_right_comm, cyc_per]) k]
    refine sumN_congr fun i _ => ?_
    rw [c, c, c, Nat.add_right_comm i 1 k, Nat.add_right_comm i 2 k]
theorem Poly.back {zs : List (Int × Int)} (h : Poly zs) : Poly (zs.take 1 ++ (zs.drop 1).reverse) := by
  have h3 := h.len
  have c := cyc_back (zs := zs) (by omega)
  have c' : ∀ i, i ≤ zs.length → cyc (zs.take 1 ++ (zs.drop 1).reverse) i = cyc zs (zs.length - i) := fun i hi => by
    rw [c]
    by_cases e : i = zs.length
    · rw [e, Nat.mod_self, Nat.sub_self, Nat.sub_zero, ← cyc_per zs 0, Nat.zero_add]
    · rw [Nat.mod_eq_of_lt (by omega)]
  have c2 : ∀ i, i ≤ zs.length → cyc (zs.take 1 ++ (zs.drop 1).reverse) (i + 1) = cyc zs (2 * zs.length - i - 1) := fun i hi => by
    by_cases e : i = zs.length
    · rw [e, ← back_len (zs := zs), Nat.add_comm, cyc_per, back_len, c' 1 (by omega), show 2 * zs.length - zs.length - 1 = zs.length - 1 by omega]
    · rw [c' _ (by omega), ← cyc_per, show zs.length - (i + 1) + zs.length = 2 * zs.length - i - 1 by omega]
  refine poly_of (by rw [back_len]; exact h3) (fun i hi => ?_) (fun i j h1 h2 h4 => ?_)
  · rw [back_len] at hi
    have := (h.ahead (2 * zs.length - i - 2)).turn
    rw [show 2 * zs.length - i - 2 + 1 = 2 * zs.length - i - 1 by omega, show 2 * zs.length - i - 2 + 2 = zs.length - i + zs.length by omega, cyc_per] at this
    rw [c' i (by omega), c2 i (by omega), c2 (i + 1) (by omega), show 2 * zs.length - (i + 1) - 1 = 2 * zs.length - i - 2 by omega]
    exact this
  · rw [back_len] at h2 h4
    have := (h.sep (zs.length - j - 1) (j - i) (by omega) (by omega)).neg.swap
    rw [show zs.length - j - 1 + (j - i) + 1 = zs.length - i by omega, show zs.length - j - 1 + (j - i) = zs.length - (i + 1) by omega, show zs.length - j - 1 + 1 = zs.length - j by omega] at this
    rw [c' i (by omega), c' (i + 1) (by omega), c' j (by omega), c' (j + 1) (by omega)]
    exact this
theorem arC_back {zs : List (Int × Int)} (h0 : 0 < zs.length) : arC (zs.take 1 ++ (zs.drop 1).reverse) = - arC zs := by
  unfold arC
  rw [back_len, ← sumN_rev (fun i => x0 (cyc zs i) (cyc zs (i + 1)))]
  rw [show -sumN (fun i => (fun i => x0 (cyc zs i) (cyc zs (i + 1))) (zs.length - 1 - i)) zs.length = sumN (fun i => -1 * (fun i => x0 (cyc zs i) (cyc zs (i + 1))) (zs.length - 1 - i)) zs.length by rw [sumN_mul]; omega]
  refine sumN_congr fun i hi => ?_
  dsimp only
  rw [cyc_back h0, cyc_back h0, Nat.mod_eq_of_lt hi]
  rw [show zs.length - 1 - i + 1 = zs.length - i by omega]
  have : cyc zs (zs.length - (i + 1) % zs.length) = cyc zs (zs.length - 1 - i) := by
    by_cases e : i + 1 = zs.length
    · rw [e, Nat.mod_self, Nat.sub_zero, show zs.length - 1 - i = 0 by omega, ← cyc_per zs 0, Nat.zero_add]
    · rw [Nat.mod_eq_of_lt (by omega), show zs.length - (i + 1) = zs.length - 1 - i by omega]
  rw [this]
  unfold x0
  grind
end Odd
/-! what is fine makes fences, either way round -/
namespace Odd
open PySem PySem.Spec PyProof.Rows L2 GeoZ
theorem sub_sc {un : Int} (h : 0 < un) (p q : Int × Int) : vSub (scP un q) (scP un p) = scP un (q.1 - p.1, q.2 - p.2) := by
  have k : ∀ a b : Int, fSub (low b un) (low a un) = low (b - a) un := fun a b => by
    rw [low_sub h h]
    exact low_eq (Int.mul_ne_zero (by omega) (by omega)) (by omega) (by grind)
  unfold vSub scP
  dsimp only
  rw [k, k]
theorem cross_sc {un : Int} (h : 0 < un) (p q : Int × Int) : vCross (scP un p) (scP un q) = low (p.1 * q.2 - p.2 * q.1) (un * un) := by
  have h2 := Int.mul_pos h h
  unfold vCross scP
  dsimp only
  rw [low_mul h h, low_mul h h, low_sub h2 h2]
  exact low_eq (Int.mul_ne_zero (by omega) (by omega)) (by omega) (by grind)
theorem dot_sc {un : Int} (h : 0 < un) (p q : Int × Int) : vDot (scP un p) (scP un q) = low (p.1 * q.1 + p.2 * q.2) (un * un) := by
  have h2 := Int.mul_pos h h
  unfold vDot scP
  dsimp only
  rw [low_mul h h, low_mul h h, low_add h2 h2]
  exact low_eq (Int.mul_ne_zero (by omega) (by omega)) (by omega) (by grind)
theorem add_low {a b w : Int} (h : 0 < w) : fAdd (low a w) (low b w) = low (a + b) w := by
  rw [low_add h h]
  exact low_eq (Int.mul_ne_zero (by omega) (by omega)) (by omega) (by grind)
theorem sc_inj {un : Int} (h : 0 < un) {p q : Int × Int} (e : scP un p = scP un q) : p = q := by
  unfold scP at e
  injection e with e1 e2
  exact Prod.ext ((low_inj h).mp e1) ((low_inj h).mp e2)
theorem ahead_back {un : Int} (h : 0 < un) {a b c : Int × Int} (s : AheadZ a b c) : backB (scP un a, scP un b) (scP un b, scP un c) = false := by
  have h2 := Int.mul_pos h h
  obtain ⟨α, β, s1, s2⟩ := s
  unfold backB wayS
  dsimp only
  rw [sub_sc h, sub_sc h, cross_sc h, dot_sc h]
  dsimp only
  rw [Bool.and_eq_false_iff, decide_eq_false_iff_not, decide_eq_false_iff_not, low_zero h2]
  by_cases c0 : (b.1 - a.1) * (c.2 - b.2) - (b.2 - a.2) * (c.1 - b.1) = 0
  · refine .inr fun hn => ?_
    have hs : ((b.1 - a.1) * (c.1 - b.1) + (b.2 - a.2) * (c.2 - b.2)).sign = -1 := by
      rw [← low_sign h2]
      exact Int.sign_eq_neg_one_of_neg hn
    have hd := Int.neg_of_sign_eq_neg_one hs
    have q1 := sq_nonneg' (b.1 - a.1)
    have q2 := sq_nonneg' (b.2 - a.2)
    generalize b.1 - a.1 = X at *
    generalize b.2 - a.2 = Y at *
    generalize c.1 - b.1 = Z at *
    generalize c.2 - b.2 = W at *
    have i1 : (α * Z + β * W) * (X * X + Y * Y) = (α * X + β * Y) * (X * Z + Y * W) + (β * X - α * Y) * (X * W - Y * Z) := by grind
    rw [c0, Int.mul_zero, Int.add_zero] at i1
    have n1 := Int.mul_neg_of_pos_of_neg s1 hd
    have n2 := Int.mul_nonneg (a := α * Z + β * W) (b := X * X + Y * Y) (by omega) (by omega)
    omega
  · exact .inl c0
theorem SepZ.apart {un : Int} (h : 0 < un) {a b c d : Int × Int} (hne : a ≠ b) (s : SepZ a b c d) : Apart (scP un a, scP un b) (scP un c, scP un d) := by
  obtain ⟨α, β, γ, h1, h2, h3, h4⟩ := s
  exact apart_sc h hne h1 h2 h3 h4
def NearZ (p : Int × Int) : Prop := p.1.natAbs < 2 ^ 60 ∧ p.2.natAbs < 2 ^ 60
theorem sc_near {un : Int} (h : 0 < un) (h2 : un < 1000) {p : Int × Int} (s : NearZ p) : CanonP (scP un p) ∧ SmP 60 (scP un p) := by
  have k : ∀ a : Int, a.natAbs < 2 ^ 60 → Canon (low a un) ∧ Sm 60 (low a un) := fun a ha => by
    have l := low_is (t := a) (u := un) (by omega)
    refine ⟨l.1.1, ?_, ?_⟩
    · exact Nat.lt_of_le_of_lt l.2.1 ha
    · exact Nat.lt_of_le_of_lt l.2.2 (by omega)
  exact ⟨⟨(k _ s.1).1, (k _ s.2).1⟩, (k _ s.1).2, (k _ s.2).2⟩
theorem side_sc {zs : List (Int × Int)} (un : Int) {i : Nat} (hi : i < zs.length) : (sideL (zs.map (scP un)))[i]? = some (scP un (cyc zs i), scP un (cyc zs (i + 1))) := by
  have hi' : i < (zs.map (scP un)).length := by rw [List.length_map]; exact hi
  rw [sideL_at hi']
  have e : ∀ k (hk : k < (zs.map (scP un)).length), (zs.map (scP un))[k] = scP un (cyc zs k) := fun k hk => by
    have := cyc_lt (zs := zs) (i := k) (by rwa [List.length_map] at hk)
    rw [List.getElem_map]
    rw [List.getElem?_eq_getElem (by rwa [List.length_map] at hk)] at this
    rw [Option.some.inj this]
  rw [e, e]
  rw [List.length_map, cyc_mod]
theorem map_back {α β : Type} (f : α → β) (zs : List α) : (zs.take 1 ++ (zs.drop 1).reverse).map f = (zs.map f).take 1 ++ ((zs.map f).drop 1).reverse := by
  rw [List.map_append, List.map_reverse, List.map_take, List.map_drop]
theorem area_part_sc {zs : List (Int × Int)} {un : Int} (hu : 0 < un) : ∀ n, n ≤ zs.length → areaL ((sideL (zs.map (scP un))).take n) = low (sumN (fun i => x0 (cyc zs i) (cyc zs (i + 1))) n) (un * un) := by
    have w2 := Int.mul_pos hu hu
    intro n
    induction n with
    | zero => intro _; exact ((low_zero w2).mpr rfl).symm
    | succ n ih =>
      intro hn
      rw [List.take_add_one, side_sc un (by omega)]
      unfold areaL at ih ⊢
      rw [List.foldl_append, ih (by omega)]
      show fAdd _ (vCross (scP un (cyc zs n)) (scP un (cyc zs (n + 1)))) = _
      rw [cross_sc hu, add_low w2]
      rfl
theorem area_sc {zs : List (Int × Int)} (h0 : 0 < zs.length) {un : Int} (hu : 0 < un) : areaL (sideL (zs.map (scP un))) = low (arC zs) (un * un) := by
  have := area_part_sc (zs := zs) hu zs.length (Nat.le_refl _)
  rwa [List.take_of_length_le (by rw [sideL_len, List.length_map]; exact Nat.le_refl _)] at this
theorem sumN_abs {g : Nat → Int} {B : Nat} {n : Nat} (h : ∀ i, i < n → (g i).natAbs ≤ B) : (sumN g n).natAbs ≤ n * B := by
  induction n with
  | zero => show (0 : Int).natAbs ≤ _; simp
  | succ n ih =>
    have a := ih fun i hi => h i (by omega)
    have b := h n (by omega)
    have e : sumN g (n + 1) = sumN g n + g n := rfl
    rw [e, Nat.add_mul n 1, Nat.one_mul]
    omega
theorem areaSm_sc {zs : List (Int × Int)} (h0 : 0 < zs.length) (h40 : zs.length ≤ 40) (h : ∀ z ∈ zs, NearZ z) {un : Int} (hu : 0 < un) (hu2 : un < 1000) : AreaSm (zs.map (scP un)) := by
  intro i hi
  rw [List.length_map] at hi
  rw [area_part_sc hu i hi]
  have w : 0 < un * un := Int.mul_pos hu hu
  have b : (sumN (fun i => x0 (cyc zs i) (cyc zs (i + 1))) i).natAbs ≤ i * 2 ^ 122 := sumN_abs fun i hi => by
    obtain ⟨a1, a2⟩ := h _ (cyc_mem h0 i)
    obtain ⟨b1, b2⟩ := h _ (cyc_mem h0 (i + 1))
    unfold x0
    have m1 : ((cyc zs i).1 * (cyc zs (i + 1)).2).natAbs ≤ 2 ^ 60 * 2 ^ 60 := by rw [Int.natAbs_mul]; exact Nat.mul_le_mul (Nat.le_of_lt a1) (Nat.le_of_lt b2)
    have m2 : ((cyc zs i).2 * (cyc zs (i + 1)).1).natAbs ≤ 2 ^ 60 * 2 ^ 60 := by rw [Int.natAbs_mul]; exact Nat.mul_le_mul (Nat.le_of_lt a2) (Nat.le_of_lt b1)
    have e : (2 : Nat) ^ 60 * 2 ^ 60 = 1329227995784915872903807060280344576 := by decide +kernel
    have e2 : (2 : Nat) ^ 122 = 5316911983139663491615228241121378304 := by decide +kernel
    omega
  have c : i * 2 ^ 122 ≤ 40 * 2 ^ 122 := Nat.mul_le_mul_right _ (by omega)
  have d : (40 : Nat) * 2 ^ 122 < 2 ^ 200 := by decide +kernel
  have l := low_is (t := sumN (fun i => x0 (cyc zs i) (cyc zs (i + 1))) i) (u := un * un) (by omega)
  have m : (un * un).natAbs ≤ 1000 * 1000 := by rw [Int.natAbs_mul]; exact Nat.mul_le_mul (by omega) (by omega)
  exact ⟨Nat.lt_of_le_of_lt l.2.1 (Nat.lt_of_lt_of_le (show _ < 2 ^ 200 by omega) (Nat.pow_le_pow_right (by decide) (by decide))), Nat.lt_of_le_of_lt l.2.2 (Nat.lt_of_le_of_lt m (Nat.lt_of_lt_of_le (show 1000 * 1000 < 2 ^ 20 by decide) (Nat.pow_le_pow_right (by decide) (by decide))))⟩
theorem Poly.whole {zs : List (Int × Int)} (g : Poly zs) (h11 : zs.length ≤ 40) (hs : ∀ p ∈ zs, NearZ p) {un : Int} (hu : 0 < un) (hu2 : un < 1000) : Whole 60 (zs.map (scP un)) := by
  have h3 := g.len
  have ne : ∀ i, scP un (cyc zs i) ≠ scP un (cyc zs (i + 1)) := fun i e => (g.ahead i).ne (sc_inj hu e)
  refine ⟨⟨by rw [List.length_map]; omega, by rw [List.length_map]; omega⟩, fun p hp => ?_, by decide, areaSm_sc (by omega) h11 hs hu hu2, ?_, fun s hm => ?_, fun i s t e1 e2 => ?_, fun i j s t hij e1 e2 hn => ?_⟩
  · obtain ⟨q, hq, rfl⟩ := List.mem_map.mp hp
    exact sc_near hu hu2 (hs q hq)
  · rw [← map_back]
    refine areaSm_sc (by rw [back_len]; omega) (by rw [back_len]; exact h11) (fun p hp => ?_) hu hu2
    rcases List.mem_append.mp hp with h | h
    · exact hs p (List.mem_of_mem_take h)
    · exact hs p (List.mem_of_mem_drop (List.mem_reverse.mp h))
  · obtain ⟨i, hi, e⟩ := List.mem_iff_getElem?.mp hm |> fun ⟨i, e⟩ => (⟨i, (List.getElem?_eq_some_iff.mp e).1, e⟩ : ∃ i, ∃ _ : i < (sideL (zs.map (scP un))).length, (sideL (zs.map (scP un)))[i]? = some s)
    rw [sideL_len, List.length_map] at hi
    rw [side_sc un hi] at e
    obtain rfl := Option.some.inj e
    exact ne i
  · have hi := (List.getElem?_eq_some_iff.mp e2).1
    rw [sideL_len, List.length_map] at hi
    rw [List.length_map, side_sc un (Nat.mod_lt _ (by omega))] at e1
    rw [side_sc un hi] at e2
    obtain rfl := Option.some.inj e1
    obtain rfl := Option.some.inj e2
    have := g.ahead (i + zs.length - 1)
    rw [show i + zs.length - 1 + 1 = i + zs.length by omega, show i + zs.length - 1 + 2 = i + 1 + zs.length by omega, cyc_per, cyc_per] at this
    rw [cyc_mod, cyc_modA, show i + zs.length - 1 + 1 = i + zs.length by omega, cyc_per]
    exact ahead_back hu this
  · have hi := (List.getElem?_eq_some_iff.mp e1).1
    have hj := (List.getElem?_eq_some_iff.mp e2).1
    rw [sideL_len, List.length_map] at hi hj
    rw [side_sc un hi] at e1
    rw [side_sc un hj] at e2
    obtain rfl := Option.some.inj e1
    obtain rfl := Option.some.inj e2
    rw [sideL_len, List.length_map] at hn
    unfold nextB at hn
    simp only [Bool.or_eq_false_iff, decide_eq_false_iff_not] at hn
    obtain ⟨⟨n1, n2⟩, n3⟩ := hn
    have l1 : j ≠ i + 1 := fun e => n3 (by rw [← e]; exact Nat.mod_eq_of_lt hj)
    have l2 : ¬ (i = 0 ∧ j + 1 = zs.length) := fun ⟨e, e'⟩ => n2 (by rw [e', e, Nat.mod_self])
    have s := g.sep i (j - i) (by omega) (by omega)
    rw [show i + (j - i) = j by omega] at s
    exact s.apart hu (g.ahead i).ne
theorem low_posI {a w : Int} (h : 0 < w) : 0 < (low a w).1 ↔ 0 < a := by
  constructor
  · intro k
    have := Int.sign_eq_one_of_pos k
    rw [low_sign h] at this
    exact Int.pos_of_sign_eq_one this
  · intro k
    refine Int.pos_of_sign_eq_one ?_
    rw [low_sign h]
    exact Int.sign_eq_one_of_pos k
theorem back_back {α : Type} (zs : List α) : ((zs.take 1 ++ (zs.drop 1).reverse).take 1 ++ ((zs.take 1 ++ (zs.drop 1).reverse).drop 1).reverse) = zs := by
  cases zs with
  | nil => rfl
  | cons z zs => simp
theorem Fine.roundOne {zs : List (Int × Int)} (g : Fine zs) {un : Int} (hu : 0 < un) : roundL (zs.map (scP un)) = zs.map (scP un) := by
  have h3 := g.poly.len
  unfold roundL
  rw [area_sc (by omega) hu, if_pos ((low_posI (Int.mul_pos hu hu)).mpr g.area)]
theorem Fine.roundBack {zs : List (Int × Int)} (g : Fine zs) {un : Int} (hu : 0 < un) : roundL ((zs.map (scP un)).take 1 ++ ((zs.map (scP un)).drop 1).reverse) = zs.map (scP un) := by
  have h3 := g.poly.len
  have ha := g.area
  rw [← map_back]
  unfold roundL
  rw [area_sc (by rw [back_len]; omega) hu, if_neg (fun k => by
    have := (low_posI (Int.mul_pos hu hu)).mp k
    rw [arC_back (by omega)] at this
    omega), ← map_back, back_back]
theorem Fine.whole {zs : List (Int × Int)} (g : Fine zs) (h11 : zs.length ≤ 40) (hs : ∀ p ∈ zs, NearZ p) {un : Int} (hu : 0 < un) (hu2 : un < 1000) : Whole 60 (zs.map (scP un)) := g.poly.whole h11 hs hu hu2
theorem Fine.wholeBack {zs : List (Int × Int)} (g : Fine zs) (h11 : zs.length ≤ 40) (hs : ∀ p ∈ zs, NearZ p) {un : Int} (hu : 0 < un) (hu2 : un < 1000) : Whole 60 ((zs.map (scP un)).take 1 ++ ((zs.map (scP un)).drop 1).reverse) := by
  rw [← map_back]
  refine g.poly.back.whole (by rw [back_len]; exact h11) (fun p hp => ?_) hu hu2
  rcases List.mem_append.mp hp with h | h
  · exact hs p (List.mem_of_mem_take h)
  · exact hs p (List.mem_of_mem_drop (List.mem_reverse.mp h))
end Odd
/-! where a point is: by the sides above it, and by the sides to the right of it -/
namespace Odd
open GeoZ
def onB (a b s : Int × Int) : Bool := decide (cr a b s = 0 ∧ (s.1 - a.1) * (s.1 - b.1) + (s.2 - a.2) * (s.2 - b.2) ≤ 0)
/-- the side passes above: with its left end, without its right one -/
def upB (a b s : Int × Int) : Bool := decide ((a.1 < b.1 ∧ a.1 ≤ s.1 ∧ s.1 < b.1 ∧ cr a b s < 0) ∨ (¬ a.1 < b.1 ∧ b.1 ≤ s.1 ∧ s.1 < a.1 ∧ cr b a s < 0))
/-- the side passes to the right -/
def riB (a b s : Int × Int) : Bool := (decide (s.2 < b.2) != decide (s.2 < a.2)) && (decide (0 < cr a b s) == decide (s.2 < b.2))
def qB (s p : Int × Int) : Bool := decide (s.1 < p.1 ∧ s.2 < p.2)
theorem prod_sg (x y : Int) : (0 < x → 0 < y → 0 < x * y) ∧ (0 < x → y ≤ 0 → x * y ≤ 0) ∧ (x ≤ 0 → 0 < y → x * y ≤ 0) ∧ (x ≤ 0 → y ≤ 0 → 0 ≤ x * y) :=
  ⟨fun a b => Int.mul_pos a b, fun a b => Int.mul_nonpos_of_nonneg_of_nonpos (by omega) b, fun a b => Int.mul_nonpos_of_nonpos_of_nonneg a (by omega), fun a b => Int.mul_nonneg_of_nonpos_of_nonpos a b⟩
theorem bne_dec (P Q : Prop) [Decidable P] [Decidable Q] : (decide P != decide Q) = decide (¬ (P ↔ Q)) := by
  by_cases p : P <;> by_cases q : Q <;> simp [p, q]
theorem ri_dec (a b c : Prop) [Decidable a] [Decidable b] [Decidable c] : ((decide a != decide b) && (decide c == decide a)) = decide (¬ (a ↔ b) ∧ (c ↔ a)) := by
  by_cases p : a <;> by_cases q : b <;> by_cases r : c <;> simp [p, q, r]
theorem par_one {a b s : Int × Int} (h : onB a b s = false) : (upB a b s != riB a b s) = (qB s a != qB s b) := by
  have h := of_decide_eq_false h
  have e1 : cr a b s = (a.1 - s.1) * (b.2 - s.2) - (a.2 - s.2) * (b.1 - s.1) := by unfold cr; grind
  have e2 : cr b a s = -((a.1 - s.1) * (b.2 - s.2) - (a.2 - s.2) * (b.1 - s.1)) := by unfold cr; grind
  have e3 : (s.1 - a.1) * (s.1 - b.1) + (s.2 - a.2) * (s.2 - b.2) = (a.1 - s.1) * (b.1 - s.1) + (a.2 - s.2) * (b.2 - s.2) := by grind
  unfold upB riB qB
  rw [e1, e3] at h
  rw [e1, e2]
  obtain ⟨a1, a2⟩ := a
  obtain ⟨b1, b2⟩ := b
  obtain ⟨s1, s2⟩ := s
  dsimp only at *
  obtain ⟨p1, rfl⟩ : ∃ p, a1 = s1 + p := ⟨a1 - s1, by omega⟩
  obtain ⟨p2, rfl⟩ : ∃ p, a2 = s2 + p := ⟨a2 - s2, by omega⟩
  obtain ⟨q1, rfl⟩ : ∃ p, b1 = s1 + p := ⟨b1 - s1, by omega⟩
  obtain ⟨q2, rfl⟩ : ∃ p, b2 = s2 + p := ⟨b2 - s2, by omega⟩
  rw [show s1 + p1 - s1 = p1 by omega, show s2 + p2 - s2 = p2 by omega, show s1 + q1 - s1 = q1 by omega, show s2 + q2 - s2 = q2 by omega] at *
  have m1 := prod_sg p1 q2
  have m2 := prod_sg p2 q1
  have m3 := prod_sg p1 q1
  have m4 := prod_sg p2 q2
  have z1 : p2 * q1 = 0 → 0 < p2 → q1 = 0 := fun e h => (Int.mul_eq_zero.mp e).resolve_left (by omega)
  have z3 : p1 * q2 = 0 → 0 < q2 → p1 = 0 := fun e h => (Int.mul_eq_zero.mp e).resolve_right (by omega)
  have z5 : p1 * q2 = 0 → 0 < p1 → q2 = 0 := fun e h => (Int.mul_eq_zero.mp e).resolve_left (by omega)
  have z7 : p2 * q1 = 0 → 0 < q1 → p2 = 0 := fun e h => (Int.mul_eq_zero.mp e).resolve_right (by omega)
  have y1 : p1 = 0 → p1 * q1 = 0 := fun e => by rw [e, Int.zero_mul]
  have y2 : q1 = 0 → p1 * q1 = 0 := fun e => by rw [e, Int.mul_zero]
  have y3 : p2 = 0 → p2 * q2 = 0 := fun e => by rw [e, Int.zero_mul]
  have y4 : q2 = 0 → p2 * q2 = 0 := fun e => by rw [e, Int.mul_zero]
  generalize p1 * q2 = A at *
  generalize p2 * q1 = B at *
  generalize p1 * q1 = C at *
  generalize p2 * q2 = D at *
  have f1 : (s1 + p1 < s1 + q1 ∧ s1 + p1 ≤ s1 ∧ s1 < s1 + q1 ∧ A - B < 0 ∨ ¬s1 + p1 < s1 + q1 ∧ s1 + q1 ≤ s1 ∧ s1 < s1 + p1 ∧ -(A - B) < 0) ↔ (p1 ≤ 0 ∧ 0 < q1 ∧ A < B) ∨ (q1 ≤ 0 ∧ 0 < p1 ∧ B < A) := by omega
  have f2 : (s2 < s2 + q2 ↔ 0 < q2) := by omega
  have f3 : (s2 < s2 + p2 ↔ 0 < p2) := by omega
  have f4 : (s1 < s1 + q1 ↔ 0 < q1) := by omega
  have f5 : (s1 < s1 + p1 ↔ 0 < p1) := by omega
  have f6 : (0 < A - B ↔ B < A) := by omega
  rw [ri_dec, bne_dec, bne_dec]
  refine decide_eq_decide.mpr ?_
  rw [f1, f2, f3, f4, f5, f6]
  clear f1 f2 f3 f4 f5 f6
  have h : A - B = 0 → 0 < C + D := fun e => by
    refine Classical.byContradiction fun n => h ⟨e, by omega⟩
  rcases (by omega : (0 < p1 ∧ ¬ p1 ≤ 0) ∨ (¬ 0 < p1 ∧ p1 ≤ 0)) with ⟨u1, v1⟩ | ⟨u1, v1⟩ <;> rcases (by omega : (0 < p2 ∧ ¬ p2 ≤ 0) ∨ (¬ 0 < p2 ∧ p2 ≤ 0)) with ⟨u2, v2⟩ | ⟨u2, v2⟩ <;> rcases (by omega : (0 < q1 ∧ ¬ q1 ≤ 0) ∨ (¬ 0 < q1 ∧ q1 ≤ 0)) with ⟨u3, v3⟩ | ⟨u3, v3⟩ <;> rcases (by omega : (0 < q2 ∧ ¬ q2 ≤ 0) ∨ (¬ 0 < q2 ∧ q2 ≤ 0)) with ⟨u4, v4⟩ | ⟨u4, v4⟩ <;>
    simp only [u1, v1, u2, v2, u3, v3, u4, v4, true_and, false_and, and_true, and_false, false_or, or_false, true_iff, false_iff, iff_true, iff_false, not_true_eq_false, not_false_eq_true, forall_const, false_implies, implies_true, true_implies, or_self] at m1 m2 m3 m4 z1 z3 z5 z7 ⊢ <;>
    first | (clear y1 y2 y3 y4 z1 z3 z5 z7 u1 u2 u3 u4 v1 v2 v3 v4; omega) | (clear y1 y3 y4 z3 z5 z7 u1 u2 u3 u4 v1 v2 v3 v4; omega) | omega
def xr (f : Nat → Bool) : Nat → Bool
  | 0 => false
  | n + 1 => xr f n != f n
theorem xr_congr {f g : Nat → Bool} {n : Nat} (h : ∀ i, i < n → f i = g i) : xr f n = xr g n := by
  induction n with
  | zero => rfl
  | succ n ih =>
    show (xr f n != f n) = (xr g n != g n)
    rw [ih fun i hi => h i (by omega), h n (by omega)]
theorem xr_tele (q : Nat → Bool) (n : Nat) : xr (fun i => q i != q (i + 1)) n = (q 0 != q n) := by
  induction n with
  | zero => show false = (q 0 != q 0); cases q 0 <;> rfl
  | succ n ih =>
    show (xr (fun i => q i != q (i + 1)) n != (q n != q (n + 1))) = _
    rw [ih]
    cases q 0 <;> cases q n <;> cases q (n + 1) <;> rfl
theorem xr_xor (f g : Nat → Bool) (n : Nat) : xr (fun i => f i != g i) n = (xr f n != xr g n) := by
  induction n with
  | zero => rfl
  | succ n ih =>
    show (xr (fun i => f i != g i) n != (f n != g n)) = ((xr f n != f n) != (xr g n != g n))
    rw [ih]
    cases xr f n <;> cases xr g n <;> cases f n <;> cases g n <;> rfl
/-- above and to the right: as many, but for two -/
theorem par_all {zs : List (Int × Int)} {s : Int × Int} (h : ∀ i, i < zs.length → onB (cyc zs i) (cyc zs (i + 1)) s = false) :
    xr (fun i => upB (cyc zs i) (cyc zs (i + 1)) s) zs.length = xr (fun i => riB (cyc zs i) (cyc zs (i + 1)) s) zs.length := by
  have t := xr_xor (fun i => upB (cyc zs i) (cyc zs (i + 1)) s) (fun i => riB (cyc zs i) (cyc zs (i + 1)) s) zs.length
  rw [xr_congr (g := fun i => (fun i => qB s (cyc zs i)) i != (fun i => qB s (cyc zs i)) (i + 1)) fun i hi => par_one (h i hi), xr_tele] at t
  have e : cyc zs zs.length = cyc zs 0 := by rw [← cyc_per zs 0, Nat.zero_add]
  rw [e, bne_self_eq_false] at t
  have t := t.symm
  generalize xr _ _ = x at *
  generalize xr _ _ = y at *
  cases x <;> cases y <;> first | rfl | cases t
/-- on a line: between both ends in the order of left to right, up -/
def lexLt (p q : Int × Int) : Bool := decide (p.1 < q.1) || (decide (p.1 = q.1) && decide (p.2 < q.2))
theorem on_lex {a b s : Int × Int} (hab : a ≠ b) : onB a b s = (decide (cr a b s = 0) && (if lexLt b a = true then !lexLt s b && !lexLt a s else !lexLt s a && !lexLt b s)) := by
  have e1 : cr a b s = (a.1 - s.1) * (b.2 - s.2) - (a.2 - s.2) * (b.1 - s.1) := by unfold cr; grind
  have e3 : (s.1 - a.1) * (s.1 - b.1) + (s.2 - a.2) * (s.2 - b.2) = (a.1 - s.1) * (b.1 - s.1) + (a.2 - s.2) * (b.2 - s.2) := by grind
  unfold onB lexLt
  rw [e1, e3]
  by_cases c0 : (a.1 - s.1) * (b.2 - s.2) - (a.2 - s.2) * (b.1 - s.1) = 0
  · have hne : ¬ (a.1 = b.1 ∧ a.2 = b.2) := fun h => hab (Prod.ext h.1 h.2)
    obtain ⟨a1, a2⟩ := a
    obtain ⟨b1, b2⟩ := b
    obtain ⟨s1, s2⟩ := s
    dsimp only at *
    obtain ⟨p1, rfl⟩ : ∃ p, a1 = s1 + p := ⟨a1 - s1, by omega⟩
    obtain ⟨p2, rfl⟩ : ∃ p, a2 = s2 + p := ⟨a2 - s2, by omega⟩
    obtain ⟨q1, rfl⟩ : ∃ p, b1 = s1 + p := ⟨b1 - s1, by omega⟩
    obtain ⟨q2, rfl⟩ : ∃ p, b2 = s2 + p := ⟨b2 - s2, by omega⟩
    rw [show s1 + p1 - s1 = p1 by omega, show s2 + p2 - s2 = p2 by omega, show s1 + q1 - s1 = q1 by omega, show s2 + q2 - s2 = q2 by omega] at *
    have key : p1 * q1 + p2 * q2 ≤ 0 ↔ ¬ ((0 < p1 ∨ (p1 = 0 ∧ 0 < p2)) ∧ (0 < q1 ∨ (q1 = 0 ∧ 0 < q2))) ∧ ¬ ((p1 < 0 ∨ (p1 = 0 ∧ p2 < 0)) ∧ (q1 < 0 ∨ (q1 = 0 ∧ q2 < 0))) := by
      have sq : (p1 * q1) * (p2 * q2) = (p2 * q1) * (p2 * q1) := by
        have : p1 * q2 = p2 * q1 := by omega
        calc (p1 * q1) * (p2 * q2) = (p1 * q2) * (p2 * q1) := by grind
          _ = _ := by rw [this]
      have nn : 0 ≤ (p2 * q1) * (p2 * q1) := by rcases Int.le_total 0 (p2 * q1) with h | h; exact Int.mul_nonneg h h; exact Int.mul_nonneg_of_nonpos_of_nonpos h h
      rcases Int.lt_trichotomy p1 0 with x | x | x <;> rcases Int.lt_trichotomy q1 0 with y | y | y
      · have h1 := Int.mul_pos_of_neg_of_neg x y
        have h2 : 0 ≤ p2 * q2 := by
          refine Classical.byContradiction fun n => ?_
          have := Int.mul_neg_of_pos_of_neg h1 (show p2 * q2 < 0 by omega)
          omega
        omega
      · subst y
        have : q2 = 0 := by
          have h : p1 * q2 = 0 := by omega
          exact (Int.mul_eq_zero.mp h).resolve_left (by omega)
        subst this
        simp only [Int.mul_zero]
        omega
      · have h1 := Int.mul_neg_of_neg_of_pos x y
        have h2 : p2 * q2 ≤ 0 := by
          refine Classical.byContradiction fun n => ?_
          have := Int.mul_neg_of_neg_of_pos h1 (show 0 < p2 * q2 by omega)
          omega
        omega
      · subst x
        have : p2 = 0 := by
          have h : p2 * q1 = 0 := by omega
          exact (Int.mul_eq_zero.mp h).resolve_right (by omega)
        subst this
        simp only [Int.zero_mul]
        omega
      · subst x; subst y
        rcases Int.lt_trichotomy p2 0 with u | u | u <;> rcases Int.lt_trichotomy q2 0 with v | v | v
        · have := Int.mul_pos_of_neg_of_neg u v; omega
        · subst v; omega
        · have := Int.mul_neg_of_neg_of_pos u v; omega
        · subst u; omega
        · subst u; omega
        · subst u; omega
        · have := Int.mul_neg_of_pos_of_neg u v; omega
        · subst v; omega
        · have := Int.mul_pos u v; omega
      · subst x
        have : p2 = 0 := by
          have h : p2 * q1 = 0 := by omega
          exact (Int.mul_eq_zero.mp h).resolve_right (by omega)
        subst this
        simp only [Int.zero_mul]
        omega
      · have h1 := Int.mul_neg_of_pos_of_neg x y
        have h2 : p2 * q2 ≤ 0 := by
          refine Classical.byContradiction fun n => ?_
          have := Int.mul_neg_of_neg_of_pos h1 (show 0 < p2 * q2 by omega)
          omega
        omega
      · subst y
        have : q2 = 0 := by
          have h : p1 * q2 = 0 := by omega
          exact (Int.mul_eq_zero.mp h).resolve_left (by omega)
        subst this
        simp only [Int.mul_zero]
        omega
      · have h1 := Int.mul_pos x y
        have h2 : 0 ≤ p2 * q2 := by
          refine Classical.byContradiction fun n => ?_
          have := Int.mul_neg_of_pos_of_neg h1 (show p2 * q2 < 0 by omega)
          omega
        omega
    have c0' : decide (p1 * q2 - p2 * q1 = 0) = true := decide_eq_true c0
    rw [c0', Bool.true_and, Bool.eq_iff_iff]
    rw [decide_eq_true_eq]
    constructor
    · rintro ⟨_, h⟩
      have h := key.mp h
      split <;> rename_i g <;> simp only [Bool.or_eq_true, Bool.and_eq_true, decide_eq_true_eq, Bool.not_eq_true', Bool.or_eq_false_iff, Bool.and_eq_false_iff, decide_eq_false_iff_not] at g ⊢ <;> omega
    · intro h
      refine ⟨c0, key.mpr ?_⟩
      split at h <;> rename_i g <;> simp only [Bool.or_eq_true, Bool.and_eq_true, decide_eq_true_eq, Bool.not_eq_true', Bool.or_eq_false_iff, Bool.and_eq_false_iff, decide_eq_false_iff_not] at g h <;> omega
  · rw [decide_eq_false c0, Bool.false_and]
    exact decide_eq_false fun h => c0 h.1
end Odd
namespace Odd
open PySem PySem.Spec PyProof.Rows L2
local macro_rules | `(tactic| walk_at "vc") => `(tactic| simp only [tSeq, tAsg, gName, tCB, tCons, tNil, tVar, tC, tOp, tUn, rI0, rI, rU, tTup, tLst, tIfS, tTest, tB, tRet, tNext, rGcd, L2.start, List.map, List.set, List.replicate, List.cons_append, List.nil_append, List.length_cons, List.length_nil, List.getElem?_cons_succ, List.getElem?_cons_zero, Option.some.injEq, exists_eq_left', exists_eq_left, List.append_nil, List.cons.injEq, V.int.injEq, exists_and_left, and_true, true_and, and_assoc, exists_const, V.bl.injEq, V.ref.injEq, Nat.sub_self, Nat.reduceAdd, Nat.reduceSub, List.replicate_succ, List.replicate_zero, tAnd, tOr, tNot, tAndV, tOrV, tNotV, tIf, tCall, tCallK, tDrop, rEq, rNe, decide_eq_true_eq, Bool.not_eq_true', decide_eq_false_iff_not, Bool.false_eq_true, if_true, if_false, reduceIte, reduceCtorEq, tMkLow, tRaiseLow, rIsB, rNotB, tBreak, tPar, gSub, rSetL, tChain, gTup, gCons, gNil, gSeq, cx_K, cx_Kn, optV, V.str.injEq, Bool.not_true, Bool.not_false, false_and, and_false, or_false, false_or, exists_false, tCallN, tCallS, tPairs])
section
variable {P : Program} {w : World} {K : PySem.W.Frag} {mg : Str → Option Value} {base : Heap} {A : Ads}
theorem ok_quotient (T : Txt K mg A) : FnOk P w K mg base CX0 2 A.f_quotient A.d_quotient ["one", "other"] (spPP K fDiv okD) := by
  refine T.quotient.F.ok sc_quotient (fun vs H Q E h => ?_) (fun cdv A' outer s H vs Q E hr h => ?_)
  · obtain ⟨t, u, _, _, rfl, _⟩ := h; rfl
  · obtain ⟨v, u, a, b, rfl, ⟨p, rfl, hp⟩, ⟨r, rfl, hq⟩, ⟨a1, a2⟩, ⟨b1, b2⟩, ⟨h3, h4⟩, q⟩ := h
    refine ⟨_, (pss_one (ps_ret (pe_call (ok_lowest T) (hr.mono (by decide)) (by rfl) T.lowest.g T.lowest.F.kp T.lowest.b .nil pass0 (pa_cons (pe_op op_mulW (pe_ix ix_tup (pv 0) pe_int (fun _ _ => rfl)) (pe_ix ix_tup (pv 1) pe_int (fun _ _ => rfl))) (pa_cons (pe_op op_mulW (pe_ix ix_tup (pv 0) pe_int (fun _ _ => rfl)) (pe_ix ix_tup (pv 1) pe_int (fun _ _ => rfl))) pa_nil))))), ?_⟩
    walk_at "vc"
    refine ixT hp rfl (ixT hq rfl ⟨_, rfl, _, rfl, mul4 a1 b2, ixT hp rfl (ixT hq rfl ⟨_, rfl, _, rfl, mul4 a2 b1, ?_⟩)⟩)
    exact ⟨_, _, rfl, Int.mul_ne_zero h3 h4, mul8 a2 b1, q⟩
theorem ok_joined (T : Txt K mg A) : FnOk P w K mg base CX0 3 A.f_joined A.d_joined ["one", "other"] (spVV K vAdd) := by
  refine T.joined.F.ok sc_joined (fun vs H Q E h => ?_) (fun cdv A' outer s H vs Q E hr h => ?_)
  · obtain ⟨_, _, _, _, rfl, _⟩ := h; rfl
  · obtain ⟨v, u, p, q, rfl, ⟨a, x, y, rfl, ha, hx, hy⟩, ⟨b, z, t, rfl, hb, hz, ht⟩, cp, cq, sp, sq, ret⟩ := h
    refine ⟨_, (pss_one (ps_ret (pe_tup (pa_cons (pe_call (ok_sum_of T) (hr.mono (by decide)) (by rfl) T.sum_of.g T.sum_of.F.kp T.sum_of.b .nil pass0 (pa_cons (pe_ix ix_tup (pv 0) pe_int (fun _ _ => rfl)) (pa_cons (pe_ix ix_tup (pv 1) pe_int (fun _ _ => rfl)) pa_nil))) (pa_cons (pe_call (ok_sum_of T) (hr.mono (by decide)) (by rfl) T.sum_of.g T.sum_of.F.kp T.sum_of.b .nil pass0 (pa_cons (pe_ix ix_tup (pv 0) pe_int (fun _ _ => rfl)) (pa_cons (pe_ix ix_tup (pv 1) pe_int (fun _ _ => rfl)) pa_nil))) pa_nil))))), ?_⟩
    walk_at "vc"
    refine ixT ha rfl (ixT hb rfl ⟨x, z, _, _, rfl, hx, hz, sp.1, sq.1, ⟨canon_ne cp.1, canon_ne cq.1⟩, fun H1 r1 s1 t1 => ?_⟩)
    refine ixT (same_tup s1 ha) rfl (ixT (same_tup s1 hb) rfl ⟨y, t, _, _, rfl, hy.same s1, ht.same s1, sp.2, sq.2, ⟨canon_ne cp.2, canon_ne cq.2⟩, fun H2 r2 s2 t2 => ⟨by decide, fun r hr => ?_⟩⟩)
    exact ret _ _ ((s1.trans s2).trans (same_upd hr)) (pp_new hr ⟨r1, rfl, same_tup s2 t1⟩ ⟨r2, rfl, t2⟩)
def spVS (K : PySem.W.Frag) : Sp := fun vs H Q _ => ∃ v u p f, vs = [v, u] ∧ PP K H v p ∧ Pr K H u f ∧ CanonP p ∧ Canon f ∧ SmP 4000 p ∧ Sm 4000 f ∧ RetPP K H (vMul p f) Q
theorem ok_stretched (T : Txt K mg A) : FnOk P w K mg base CX0 3 A.f_stretched A.d_stretched ["way", "factor"] (spVS K) := by
  refine T.stretched.F.ok sc_stretched (fun vs H Q E h => ?_) (fun cdv A' outer s H vs Q E hr h => ?_)
  · obtain ⟨_, _, _, _, rfl, _⟩ := h; rfl
  · obtain ⟨v, u, p, f, rfl, ⟨a, x, y, rfl, ha, hx, hy⟩, hf, cp, cf, sp, sf, ret⟩ := h
    refine ⟨_, (pss_one (ps_ret (pe_tup (pa_cons (pe_call (ok_product_of T) (hr.mono (by decide)) (by rfl) T.product_of.g T.product_of.F.kp T.product_of.b .nil pass0 (pa_cons (pe_ix ix_tup (pv 0) pe_int (fun _ _ => rfl)) (pa_cons (pv 1) pa_nil))) (pa_cons (pe_call (ok_product_of T) (hr.mono (by decide)) (by rfl) T.product_of.g T.product_of.F.kp T.product_of.b .nil pass0 (pa_cons (pe_ix ix_tup (pv 0) pe_int (fun _ _ => rfl)) (pa_cons (pv 1) pa_nil))) pa_nil))))), ?_⟩
    walk_at "vc"
    refine ixT ha rfl ⟨x, u, _, _, rfl, hx, hf, sp.1, sf, ⟨canon_ne cp.1, canon_ne cf⟩, fun H1 r1 s1 t1 => ?_⟩
    refine ixT (same_tup s1 ha) rfl ⟨y, u, _, _, rfl, hy.same s1, hf.same s1, sp.2, sf, ⟨canon_ne cp.2, canon_ne cf⟩, fun H2 r2 s2 t2 => ⟨by decide, fun r hr => ?_⟩⟩
    exact ret _ _ ((s1.trans s2).trans (same_upd hr)) (pp_new hr ⟨r1, rfl, same_tup s2 t1⟩ ⟨r2, rfl, t2⟩)
def spMoved (K : PySem.W.Frag) : Sp := fun vs H Q _ => ∃ v u f p q s, vs = [v, u, f] ∧ PP K H v p ∧ PP K H u q ∧ Pr K H f s ∧ CanonP p ∧ CanonP q ∧ Canon s ∧ SmP 2000 p ∧ SmP 2000 q ∧ Sm 2000 s ∧ RetPP K H (vAdd p (vMul q s)) Q
theorem ok_moved (T : Txt K mg A) : FnOk P w K mg base CX0 4 A.f_moved A.d_moved ["start", "way", "share"] (spMoved K) := by
  refine T.moved.F.ok sc_moved (fun vs H Q E h => ?_) (fun cdv A' outer s H vs Q E hr h => ?_)
  · obtain ⟨_, _, _, _, _, _, rfl, _⟩ := h; rfl
  · obtain ⟨v, u, f, p, q, sh, rfl, hv, hu, hf, cp, cq, cs, sp, sq, ss, ret⟩ := h
    refine ⟨_, (pss_one (ps_ret (pe_call (ok_joined T) (hr.mono (by decide)) (by rfl) T.joined.g T.joined.F.kp T.joined.b .nil pass0 (pa_cons (pv 0) (pa_cons (pe_call (ok_stretched T) (hr.mono (by decide)) (by rfl) T.stretched.g T.stretched.F.kp T.stretched.b .nil pass0 (pa_cons (pv 1) (pa_cons (pv 2) pa_nil))) pa_nil))))), ?_⟩
    walk_at "vc"
    refine ⟨u, f, q, sh, rfl, hu, hf, cq, cs, sq.up (by decide), ss.up (by decide), fun H1 z s1 hz => ?_⟩
    exact ⟨v, z, p, _, rfl, hv.same s1, hz, cp, vMul_canon cq cs, sp.up (by decide), vMul_sm cq cs sq ss, ret.same s1⟩
def spSquared (K : PySem.W.Frag) : Sp := fun vs H Q _ => ∃ v p, vs = [v] ∧ PP K H v p ∧ CanonP p ∧ SmP 400 p ∧ RetP K H (vDot p p) Q
theorem ok__squared (T : Txt K mg A) : FnOk P w K mg base CX0 5 A.f__squared A.d__squared ["way"] (spSquared K) := by
  refine T._squared.F.ok sc__squared (fun vs H Q E h => ?_) (fun cdv A' outer s H vs Q E hr h => ?_)
  · obtain ⟨_, _, rfl, _⟩ := h; rfl
  · obtain ⟨v, p, rfl, hp, cp, sp, ret⟩ := h
    refine ⟨_, (pss_one (ps_ret (pe_call (ok_dot_of T) (hr.mono (by decide)) (by rfl) T.dot_of.g T.dot_of.F.kp T.dot_of.b .nil pass0 (pa_cons (pv 0) (pa_cons (pv 0) pa_nil))))), ?_⟩
    walk_at "vc"
    exact ⟨v, v, p, p, rfl, hp, hp, cp, cp, sp.up (by decide), sp.up (by decide), ret⟩
def dtZ (a b p : Int × Int) : Int := (b.1 - a.1) * (p.1 - a.1) + (b.2 - a.2) * (p.2 - a.2)
def lnZ (a b : Int × Int) : Int := (b.1 - a.1) * (b.1 - a.1) + (b.2 - a.2) * (b.2 - a.2)
/-- the foot of p on the side from a to b: its squared distance (a number over another one), itself -/
def ftN (p a b : Int × Int) : Int := if dtZ a b p ≤ 0 then lnZ a p else if lnZ a b ≤ dtZ a b p then lnZ b p else GeoZ.cr a b p * GeoZ.cr a b p
def ftD (p a b : Int × Int) : Int := if dtZ a b p ≤ 0 then 1 else if lnZ a b ≤ dtZ a b p then 1 else lnZ a b
def ftX (p a b : Int × Int) : Int × Int := if dtZ a b p ≤ 0 then a else if lnZ a b ≤ dtZ a b p then b else (a.1 * lnZ a b + (b.1 - a.1) * dtZ a b p, a.2 * lnZ a b + (b.2 - a.2) * dtZ a b p)
theorem fDiv_canon {a b : Int × Int} (ca : Canon a) (h : b.1 ≠ 0) : Canon (fDiv a b) := (low_is (Int.mul_ne_zero (canon_ne ca) h)).1.1
theorem fDiv_sm {n : Nat} {a b : Int × Int} (ca : Canon a) (h : b.1 ≠ 0) (sa : Sm n a) (sb : Sm n b) : Sm (n + n) (fDiv a b) := by
  obtain ⟨_, h2, h3⟩ := low_is (t := a.1 * b.2) (Int.mul_ne_zero (canon_ne ca) h)
  exact ⟨Nat.lt_of_le_of_lt h2 (wide_lt sa.1 sb.2), Nat.lt_of_le_of_lt h3 (wide_lt sa.2 sb.1)⟩
theorem low_sm {t u : Int} {n : Nat} (hu : u ≠ 0) (h1 : t.natAbs < 2 ^ n) (h2 : u.natAbs < 2 ^ n) : Sm n (low t u) :=
  ⟨Nat.lt_of_le_of_lt (low_is hu).2.1 h1, Nat.lt_of_le_of_lt (low_is hu).2.2 h2⟩
theorem low_div {x u y v : Int} (hu : 0 < u) (hv : 0 < v) (hy : y ≠ 0) : fDiv (low x u) (low y v) = low (x * v) (u * y) := by
  obtain ⟨g, A, U, g0, rfl, rfl, U0, e1⟩ := low_form (t := x) hu
  obtain ⟨k, B, V, k0, rfl, rfl, V0, e2⟩ := low_form (t := y) hv
  have B0 : B ≠ 0 := fun z => hy (by rw [z, Int.mul_zero])
  rw [e1, e2]
  exact low_eq (Int.mul_ne_zero (by omega) B0) (Int.mul_ne_zero (by omega) hy) (by dsimp only; grind)
theorem ln_pos {a b : Int × Int} (h : a ≠ b) : 0 < lnZ a b := by
  have q1 : 0 ≤ (b.1 - a.1) * (b.1 - a.1) := by rcases Int.le_total 0 (b.1 - a.1) with h | h; exact Int.mul_nonneg h h; exact Int.mul_nonneg_of_nonpos_of_nonpos h h
  have q2 : 0 ≤ (b.2 - a.2) * (b.2 - a.2) := by rcases Int.le_total 0 (b.2 - a.2) with h | h; exact Int.mul_nonneg h h; exact Int.mul_nonneg_of_nonpos_of_nonpos h h
  unfold lnZ
  refine Int.lt_iff_le_and_ne.mpr ⟨by omega, fun z => h ?_⟩
  have r1 := (Int.mul_eq_zero.mp (show (b.1 - a.1) * (b.1 - a.1) = 0 by omega)).elim id id
  have r2 := (Int.mul_eq_zero.mp (show (b.2 - a.2) * (b.2 - a.2) = 0 by omega)).elim id id
  exact Prod.ext (by omega) (by omega)
theorem ft_bds {p a b : Int × Int} (np : NearZ p) (na : NearZ a) (nb : NearZ b) : (dtZ a b p).natAbs < 2 ^ 124 ∧ (lnZ a b).natAbs < 2 ^ 124 ∧ (GeoZ.cr a b p).natAbs < 2 ^ 124 := by
  unfold NearZ at np na nb
  have m : ∀ x y : Int, x.natAbs < 2 ^ 61 → y.natAbs < 2 ^ 61 → (x * y).natAbs < 2 ^ 122 := fun x y h1 h2 => by
    rw [Int.natAbs_mul, show (2 : Nat) ^ 122 = 2 ^ 61 * 2 ^ 61 by decide]
    exact Nat.mul_lt_mul'' h1 h2
  have e1 := m (b.1 - a.1) (p.1 - a.1) (by omega) (by omega)
  have e2 := m (b.2 - a.2) (p.2 - a.2) (by omega) (by omega)
  have e3 := m (b.1 - a.1) (b.1 - a.1) (by omega) (by omega)
  have e4 := m (b.2 - a.2) (b.2 - a.2) (by omega) (by omega)
  have e5 := m (b.1 - a.1) (p.2 - a.2) (by omega) (by omega)
  have e6 := m (b.2 - a.2) (p.1 - a.1) (by omega) (by omega)
  unfold dtZ lnZ GeoZ.cr
  omega
def spNearest (K : PySem.W.Frag) : Sp := fun vs H Q _ => ∃ v u un p a b, vs = [v, u] ∧ PP K H v (scP un p) ∧ Sd K H u (scP un a, scP un b) ∧ 0 < un ∧ un < 1000 ∧ a ≠ b ∧ NearZ p ∧ NearZ a ∧ NearZ b ∧
  ∀ H' t x y, Same H H' → SqT K H' t [x, y] → Pr K H' x (low (ftN p a b) (ftD p a b * (un * un))) → PP K H' y (scP (un * ftD p a b) (ftX p a b)) → Q (.ref t) H'
theorem ok__nearest (T : Txt K mg A) : FnOk P w K mg base CX0 6 A.f__nearest A.d__nearest ["point", "side"] (spNearest K) := by
  refine T._nearest.F.ok sc__nearest (fun vs H Q E h => ?_) (fun cdv A' outer s H vs Q E hr h => ?_)
  · obtain ⟨_, _, _, _, _, _, rfl, _⟩ := h; rfl
  · obtain ⟨v, u, un, p, a, b, rfl, hp, ⟨d, y, z, rfl, hd, hy, hz⟩, u0, u1, hab, np, na, nb, q⟩ := h
    have sp := sc_near u0 u1 np
    have sa := sc_near u0 u1 na
    have sb := sc_near u0 u1 nb
    refine ⟨_, (pss_cons (ps_set (i := 2) sc__nearest.nd rfl (.inl rfl) (pe_call (ok_way_between T) (hr.mono (by decide)) (by rfl) T.way_between.g T.way_between.F.kp T.way_between.b .nil pass0 (pa_cons (pe_ix ix_tup (pv 1) pe_int (fun _ _ => rfl)) (pa_cons (pe_ix ix_tup (pv 1) pe_int (fun _ _ => rfl)) pa_nil))))
      (pss_cons (ps_set (i := 3) sc__nearest.nd rfl (.inl rfl) (pe_call (ok_way_between T) (hr.mono (by decide)) (by rfl) T.way_between.g T.way_between.F.kp T.way_between.b .nil pass0 (pa_cons (pe_ix ix_tup (pv 1) pe_int (fun _ _ => rfl)) (pa_cons (pv 0) pa_nil))))
      (pss_cons (ps_set (i := 4) sc__nearest.nd rfl (.inl rfl) (pe_call (ok_dot_of T) (hr.mono (by decide)) (by rfl) T.dot_of.g T.dot_of.F.kp T.dot_of.b .nil pass0 (pa_cons (pv 2) (pa_cons (pv 3) pa_nil))))
      (pss_cons (ps_if (pt_cmpR op_le (pe_ix ix_tup (pv 4) pe_int (fun _ _ => rfl)) pe_int (nomark _)) (pss_one (ps_ret (pe_tup (pa_cons (pe_call (ok__squared T) (hr.mono (by decide)) (by rfl) T._squared.g T._squared.F.kp T._squared.b .nil pass0 (pa_cons (pv 3) pa_nil)) (pa_cons (pe_ix ix_tup (pv 1) pe_int (fun _ _ => rfl)) pa_nil))))) pss_nil)
      (pss_cons (ps_set (i := 5) sc__nearest.nd rfl (.inl rfl) (pe_call (ok__squared T) (hr.mono (by decide)) (by rfl) T._squared.g T._squared.F.kp T._squared.b .nil pass0 (pa_cons (pv 2) pa_nil)))
      (pss_cons (ps_if (pt_not (pt_val (pe_call (ok_is_below T) (hr.mono (by decide)) (by rfl) T.is_below.g T.is_below.F.kp T.is_below.b .nil pass0 (pa_cons (pv 4) (pa_cons (pv 5) pa_nil))))) (pss_one (ps_ret (pe_tup (pa_cons (pe_call (ok__squared T) (hr.mono (by decide)) (by rfl) T._squared.g T._squared.F.kp T._squared.b .nil pass0 (pa_cons (pe_call (ok_way_between T) (hr.mono (by decide)) (by rfl) T.way_between.g T.way_between.F.kp T.way_between.b .nil pass0 (pa_cons (pe_ix ix_tup (pv 1) pe_int (fun _ _ => rfl)) (pa_cons (pv 0) pa_nil))) pa_nil)) (pa_cons (pe_ix ix_tup (pv 1) pe_int (fun _ _ => rfl)) pa_nil))))) pss_nil)
      (pss_cons (ps_set (i := 6) sc__nearest.nd rfl (.inl rfl) (pe_call (ok_cross_of T) (hr.mono (by decide)) (by rfl) T.cross_of.g T.cross_of.F.kp T.cross_of.b .nil pass0 (pa_cons (pv 2) (pa_cons (pv 3) pa_nil))))
      (pss_one (ps_ret (pe_tup (pa_cons (pe_call (ok_quotient T) (hr.mono (by decide)) (by rfl) T.quotient.g T.quotient.F.kp T.quotient.b .nil pass0 (pa_cons (pe_call (ok_product_of T) (hr.mono (by decide)) (by rfl) T.product_of.g T.product_of.F.kp T.product_of.b .nil pass0 (pa_cons (pv 6) (pa_cons (pv 6) pa_nil))) (pa_cons (pv 5) pa_nil))) (pa_cons (pe_call (ok_moved T) (hr.mono (by decide)) (by rfl) T.moved.g T.moved.F.kp T.moved.b .nil pass0 (pa_cons (pe_ix ix_tup (pv 1) pe_int (fun _ _ => rfl)) (pa_cons (pv 2) (pa_cons (pe_call (ok_quotient T) (hr.mono (by decide)) (by rfl) T.quotient.g T.quotient.F.kp T.quotient.b .nil pass0 (pa_cons (pv 4) (pa_cons (pv 5) pa_nil))) pa_nil)))) pa_nil)))))))))))), ?_⟩
    refine seq_by fun N hN => ?_
    walk_at "vc"
    refine ixT hd rfl (ixT hd rfl ⟨_, _, _, _, rfl, hy, hz, sa.1, sb.1, sa.2.up (by decide), sb.2.up (by decide), fun H1 w1 s1 hw => ?_⟩)
    have w2 := Int.mul_pos u0 u0
    have wc := vSub_canon sb.1 sa.1
    have wm := vSub_sm sb.1 sa.1 sb.2 sa.2
    replace hw : PP K H1 w1 (vSub (scP un b) (scP un a)) := hw
    rw [sub_sc u0] at hw wc wm
    show N _ _
    subst hN
    refine seq_by fun N hN => ?_
    walk_at "vc"
    refine ixT (same_tup s1 hd) rfl ⟨_, _, _, _, rfl, hy.same s1, hp.same s1, sa.1, sp.1, sa.2.up (by decide), sp.2.up (by decide), fun H2 t1 s2 ht => ?_⟩
    have tc := vSub_canon sp.1 sa.1
    have tm := vSub_sm sp.1 sa.1 sp.2 sa.2
    replace ht : PP K H2 t1 (vSub (scP un p) (scP un a)) := ht
    rw [sub_sc u0] at ht tc tm
    show N _ _
    subst hN
    refine seq_by fun N hN => ?_
    walk_at "vc"
    refine ⟨w1, t1, _, _, rfl, hw.same s2, ht, wc, tc, wm.up (by decide), tm.up (by decide), fun H3 al s3 hal => ?_⟩
    rw [dot_sc u0] at hal
    have s13 := s1.trans (s2.trans s3)
    have e1 : (b.1 - a.1) * (p.1 - a.1) + (b.2 - a.2) * (p.2 - a.2) = dtZ a b p := rfl
    dsimp only at hal
    rw [e1] at hal
    show N _ _
    subst hN
    refine seq_by fun N hN => ?_
    walk_at "vc"
    refine ixT hal rfl ⟨_, rfl, ?_⟩
    have hs1 : (low (dtZ a b p) (un * un)).1 ≤ 0 ↔ dtZ a b p ≤ 0 := by
      have := low_posI (a := dtZ a b p) w2
      omega
    split
    · rename_i c
      have c := hs1.mp c
      refine ⟨t1, _, rfl, ht.same s3, tc, tm.up (by decide), fun H4 sq s4 hsq => ?_⟩
      rw [dot_sc u0] at hsq
      have s14 := s13.trans s4
      refine ixT (same_tup s14 hd) rfl ⟨by decide, fun t ht' => ?_⟩
      have s5 := same_upd (o := .tup [.ref sq, y]) ht'
      refine q _ t _ _ (s14.trans s5) (st_of upd_same) ⟨sq, rfl, ?_⟩ ?_
      · unfold ftN ftD
        rw [if_pos c, if_pos c, Int.one_mul]
        exact same_tup s5 hsq
      · unfold ftD ftX
        rw [if_pos c, if_pos c, Int.mul_one]
        exact hy.same (s14.trans s5)
    · rename_i c
      have c := fun h => c (hs1.mpr h)
      subst hN
      walk_at "vc"
      refine ⟨w1, _, rfl, hw.same (s2.trans s3), wc, wm.up (by decide), fun H4 wh s4 hwh => ?_⟩
      rw [dot_sc u0] at hwh
      have e2 : (b.1 - a.1) * (b.1 - a.1) + (b.2 - a.2) * (b.2 - a.2) = lnZ a b := rfl
      dsimp only at hwh
      rw [e2] at hwh
      have s14 := s13.trans s4
      have bds := ft_bds np na nb
      have u2 : (un * un).natAbs < 2 ^ 250 := Nat.lt_of_lt_of_le (show (un * un).natAbs < 2 ^ 20 by
        rw [Int.natAbs_mul, show (2 : Nat) ^ 20 = 2 ^ 10 * 2 ^ 10 by decide]
        exact Nat.mul_lt_mul'' (show un.natAbs < 2 ^ 10 by omega) (show un.natAbs < 2 ^ 10 by omega)) (Nat.pow_le_pow_right (by decide) (by decide))
      have sal : Sm 250 (low (dtZ a b p) (un * un)) := low_sm (by omega) (Nat.lt_of_lt_of_le bds.1 (by decide)) u2
      have swh : Sm 250 (low (lnZ a b) (un * un)) := low_sm (by omega) (Nat.lt_of_lt_of_le bds.2.1 (by decide)) u2
      have cal : Canon (low (dtZ a b p) (un * un)) := (low_is (by omega)).1.1
      have cwh : Canon (low (lnZ a b) (un * un)) := (low_is (by omega)).1.1
      have Lp : 0 < lnZ a b := ln_pos hab
      refine ⟨.ref al, .ref wh, _, _, rfl, ⟨al, rfl, same_tup s4 hal⟩, ⟨wh, rfl, hwh⟩, sal.up (by decide), swh.up (by decide), ?_⟩
      rw [low_lt w2]
      refine ⟨_, rfl, ?_⟩
      split
      · rename_i c2
        have c2 : lnZ a b ≤ dtZ a b p := by
          have := of_decide_eq_false c2
          omega
        refine ixT (same_tup s14 hd) rfl ⟨_, _, _, _, rfl, hz.same s14, hp.same s14, sb.1, sp.1, sb.2.up (by decide), sp.2.up (by decide), fun H5 t2 s5 ht2 => ?_⟩
        have tc := vSub_canon sp.1 sb.1
        have tm := vSub_sm sp.1 sb.1 sp.2 sb.2
        replace ht2 : PP K H5 t2 (vSub (scP un p) (scP un b)) := ht2
        rw [sub_sc u0] at ht2 tc tm
        refine ⟨t2, _, rfl, ht2, tc, tm.up (by decide), fun H6 sq s6 hsq => ?_⟩
        rw [dot_sc u0] at hsq
        have s16 := (s14.trans s5).trans s6
        refine ixT (same_tup s16 hd) rfl ⟨by decide, fun t ht' => ?_⟩
        have s7 := same_upd (o := .tup [.ref sq, z]) ht'
        refine q _ t _ _ (s16.trans s7) (st_of upd_same) ⟨sq, rfl, ?_⟩ ?_
        · unfold ftN ftD
          rw [if_neg c, if_pos c2, if_neg c, if_pos c2, Int.one_mul]
          exact same_tup s7 hsq
        · unfold ftD ftX
          rw [if_neg c, if_pos c2, if_neg c, if_pos c2, Int.mul_one]
          exact hz.same (s16.trans s7)
      · rename_i c2
        have c2 : ¬ lnZ a b ≤ dtZ a b p := by
          have := of_decide_eq_true (eq_true_of_ne_false c2)
          omega
        have wne : (low (lnZ a b) (un * un)).1 ≠ 0 := by
          have := (low_posI (a := lnZ a b) w2).mpr Lp
          omega
        refine ⟨w1, t1, _, _, rfl, hw.same (s2.trans (s3.trans s4)), ht.same (s3.trans s4), wc, tc, wm.up (by decide), tm.up (by decide), fun H5 ap s5 hap => ?_⟩
        rw [cross_sc u0] at hap
        have e3 : (b.1 - a.1) * (p.2 - a.2) - (b.2 - a.2) * (p.1 - a.1) = GeoZ.cr a b p := rfl
        dsimp only at hap
        rw [e3] at hap
        have cap : Canon (low (GeoZ.cr a b p) (un * un)) := (low_is (by omega)).1.1
        have sap : Sm 250 (low (GeoZ.cr a b p) (un * un)) := low_sm (by omega) (Nat.lt_of_lt_of_le bds.2.2 (by decide)) u2
        refine ⟨_, _, _, _, rfl, ⟨ap, rfl, hap⟩, ⟨ap, rfl, hap⟩, sap.up (by decide), sap.up (by decide), ⟨canon_ne cap, canon_ne cap⟩, fun H6 sq s6 hsq => ?_⟩
        have csq := fMul_canon cap cap
        have ssq := fMul_sm cap cap sap sap
        refine ⟨_, _, _, _, rfl, ⟨sq, rfl, hsq⟩, ⟨wh, rfl, same_tup (s5.trans s6) hwh⟩, ssq.up (by decide), swh.up (by decide), ⟨canon_ne csq, wne⟩, fun H7 qu s7 hqu => ?_⟩
        have s47 := (s5.trans s6).trans s7
        have s17 := s14.trans s47
        refine ixT (same_tup s17 hd) rfl ⟨_, _, _, _, rfl, ⟨al, rfl, same_tup (s4.trans s47) hal⟩, ⟨wh, rfl, same_tup s47 hwh⟩, sal.up (by decide), swh.up (by decide), ⟨canon_ne cal, wne⟩, fun H8 sh s8 hsh => ?_⟩
        have csh := fDiv_canon cal wne
        have ssh := fDiv_sm cal wne sal swh
        have s18 := s17.trans s8
        refine ⟨y, w1, .ref sh, _, _, _, rfl, hy.same s18, hw.same (s2.trans (s3.trans (s4.trans (s47.trans s8)))), ⟨sh, rfl, hsh⟩, sa.1, wc, csh, sa.2.up (by decide), wm.up (by decide), ssh.up (by decide), fun H9 th s9 hth => ⟨by decide, fun t ht' => ?_⟩⟩
        have s10 := same_upd (o := .tup [.ref qu, th]) ht'
        refine q _ t _ _ ((s18.trans s9).trans s10) (st_of upd_same) ⟨qu, rfl, ?_⟩ ?_
        · have e : fDiv (fMul (low (GeoZ.cr a b p) (un * un)) (low (GeoZ.cr a b p) (un * un))) (low (lnZ a b) (un * un)) = low (GeoZ.cr a b p * GeoZ.cr a b p) (lnZ a b * (un * un)) := by
            rw [low_mul w2 w2, low_div (Int.mul_pos w2 w2) w2 (by omega)]
            have m1 := Int.mul_pos (Int.mul_pos w2 w2) Lp
            have m2 := Int.mul_pos Lp w2
            exact low_eq (by omega) (by omega) (by grind)
          unfold ftN ftD
          rw [if_neg c, if_neg c2, if_neg c, if_neg c2]
          rw [e] at hqu
          exact same_tup ((s8.trans s9).trans s10) hqu
        · have e : vAdd (scP un a) (vMul (scP un (b.1 - a.1, b.2 - a.2)) (fDiv (low (dtZ a b p) (un * un)) (low (lnZ a b) (un * un)))) = scP (un * lnZ a b) (a.1 * lnZ a b + (b.1 - a.1) * dtZ a b p, a.2 * lnZ a b + (b.2 - a.2) * dtZ a b p) := by
            have m1 := Int.mul_pos w2 Lp
            have m2 := Int.mul_pos u0 Lp
            have m3 := Int.mul_pos u0 m1
            have m4 := Int.mul_pos u0 m3
            have k : ∀ x z : Int, fAdd (low x un) (fMul (low z un) (low (dtZ a b p * (un * un)) (un * un * lnZ a b))) = low (x * lnZ a b + z * dtZ a b p) (un * lnZ a b) := fun x z => by
              rw [low_mul u0 m1, low_add u0 m3]
              exact low_eq (by omega) (by omega) (by grind)
            rw [low_div w2 w2 (by omega)]
            unfold vAdd vMul scP
            dsimp only
            rw [k, k]
          unfold ftD ftX
          rw [if_neg c, if_neg c2, if_neg c, if_neg c2]
          rw [e] at hth
          exact hth.same s10
end
end Odd
namespace Odd
open PySem PySem.Spec PyProof.Rows L2
local macro_rules | `(tactic| walk_at "vc") => `(tactic| simp only [tSeq, tAsg, gName, tCB, tCons, tNil, tVar, tC, tOp, tUn, rI0, rI, rU, tTup, tLst, tIfS, tTest, tB, tRet, tNext, rGcd, L2.start, List.map, List.set, List.replicate, List.cons_append, List.nil_append, List.length_cons, List.length_nil, List.getElem?_cons_succ, List.getElem?_cons_zero, Option.some.injEq, exists_eq_left', exists_eq_left, List.append_nil, List.cons.injEq, V.int.injEq, exists_and_left, and_true, true_and, and_assoc, exists_const, V.bl.injEq, V.ref.injEq, Nat.sub_self, Nat.reduceAdd, Nat.reduceSub, List.replicate_succ, List.replicate_zero, tAnd, tOr, tNot, tAndV, tOrV, tNotV, tIf, tCall, tCallK, tDrop, rEq, rNe, decide_eq_true_eq, Bool.not_eq_true', decide_eq_false_iff_not, Bool.false_eq_true, if_true, if_false, reduceIte, reduceCtorEq, tMkLow, tRaiseLow, rIsB, rNotB, tBreak, tPar, gSub, rSetL, tChain, gTup, gCons, gNil, gSeq, cx_K, cx_Kn, optV, V.str.injEq, Bool.not_true, Bool.not_false, false_and, and_false, or_false, false_or, exists_false, tCallN, tCallS, tPairs])
section
variable {P : Program} {w : World} {K : PySem.W.Frag} {mg : Str → Option Value} {base : Heap} {A : Ads}
/-- nested tuples of ints -/
def FD (K : PySem.W.Frag) (H : Hp) : Nat → V → PyData → Prop
  | 0, v, d => ∃ i, v = .int i ∧ d = .int i
  | n + 1, v, d => (∃ i, v = .int i ∧ d = .int i) ∨ ∃ p xs ds, v = .ref p ∧ d = .tuple ds ∧ SqT K H p xs ∧ Each (FD K H n) xs ds ∧ xs.length ≤ 100
theorem FD.same {H H' : Hp} (s : Same H H') : ∀ {n : Nat} {v : V} {d : PyData}, FD K H n v d → FD K H' n v d
  | 0, _, _, h => h
  | n + 1, _, _, .inl h => .inl h
  | n + 1, _, _, .inr ⟨p, xs, ds, e1, e2, hp, he, hl⟩ => .inr ⟨p, xs, ds, e1, e2, same_tup s hp, he.imp fun v d h => FD.same s h, hl⟩
theorem FD.pr {H : Hp} {v : V} {q : Int × Int} (h : Pr K H v q) : FD K H 1 v (.tuple [.int q.1, .int q.2]) := by
  obtain ⟨a, rfl, h⟩ := h
  refine .inr ⟨a, _, _, rfl, rfl, h, ⟨rfl, fun i v x e1 e2 => ?_⟩, (by show 2 ≤ 100; decide)⟩
  match i, e1, e2 with
  | 0, e1, e2 => cases e1; cases e2; exact ⟨_, rfl, rfl⟩
  | 1, e1, e2 => cases e1; cases e2; exact ⟨_, rfl, rfl⟩
theorem FD.up1 {H : Hp} {v : V} {q : Int × Int} (h : Pr K H v q) : FD K H 2 v (.tuple [.int q.1, .int q.2]) := by
  obtain ⟨a, rfl, h⟩ := h
  refine .inr ⟨a, _, _, rfl, rfl, h, ⟨rfl, fun i v x e1 e2 => ?_⟩, (by show 2 ≤ 100; decide)⟩
  match i, e1, e2 with
  | 0, e1, e2 => cases e1; cases e2; exact .inl ⟨_, rfl, rfl⟩
  | 1, e1, e2 => cases e1; cases e2; exact .inl ⟨_, rfl, rfl⟩
theorem FD.pp {H : Hp} {v : V} {p : P2} (h : PP K H v p) : FD K H 2 v (.tuple [.tuple [.int p.1.1, .int p.1.2], .tuple [.int p.2.1, .int p.2.2]]) := by
  obtain ⟨a, x, y, rfl, h, hx, hy⟩ := h
  refine .inr ⟨a, _, _, rfl, rfl, h, ⟨rfl, fun i v x e1 e2 => ?_⟩, (by show 2 ≤ 100; decide)⟩
  match i, e1, e2 with
  | 0, e1, e2 => cases e1; cases e2; exact FD.pr hx
  | 1, e1, e2 => cases e1; cases e2; exact FD.pr hy
theorem fd_keep {H : Hp} {D : Addr} {as bs : List V} (hD : H D = some (.lst as)) : ∀ {n : Nat} {v : V} {d : PyData}, FD K H n v d → FD K (upd H D (.lst bs)) n v d
  | 0, _, _, h => h
  | n + 1, _, _, .inl h => .inl h
  | n + 1, _, _, .inr ⟨p, xs, ds, e1, e2, hp, he, hl⟩ => .inr ⟨p, xs, ds, e1, e2, keep_tup hD hp, he.imp fun v d h => fd_keep hD h, hl⟩
/-- back -/
theorem FD.two {H : Hp} {n : Nat} {v : V} {a b : PyData} (h : FD K H (n + 1) v (.tuple [a, b])) : ∃ p x y, v = .ref p ∧ SqT K H p [x, y] ∧ FD K H n x a ∧ FD K H n y b := by
  rcases h with ⟨i, _, e⟩ | ⟨p, xs, ds, rfl, e, hp, he, _⟩
  · cases e
  · cases e
    have l : xs.length = 2 := he.1
    match xs, l with
    | [x, y], _ => exact ⟨p, x, y, rfl, hp, he.2 0 _ _ rfl rfl, he.2 1 _ _ rfl rfl⟩
theorem FD.int {H : Hp} : ∀ {n : Nat} {v : V} {i : Int}, FD K H n v (.int i) → v = .int i
  | 0, _, _, ⟨j, e1, e2⟩ => by cases e2; exact e1
  | n + 1, _, _, .inl ⟨j, e1, e2⟩ => by cases e2; exact e1
  | n + 1, _, _, .inr ⟨_, _, _, _, e2, _⟩ => by cases e2
theorem FD.toPr {H : Hp} {n : Nat} {v : V} {q : Int × Int} (h : FD K H (n + 1) v (.tuple [.int q.1, .int q.2])) : Pr K H v q := by
  obtain ⟨p, x, y, rfl, hp, hx, hy⟩ := h.two
  rw [hx.int, hy.int] at hp
  exact ⟨p, rfl, hp⟩
theorem FD.toPP {H : Hp} {n : Nat} {v : V} {p : P2} (h : FD K H (n + 2) v (.tuple [.tuple [.int p.1.1, .int p.1.2], .tuple [.int p.2.1, .int p.2.2]])) : PP K H v p := by
  obtain ⟨a, x, y, rfl, ha, hx, hy⟩ := h.two
  exact ⟨a, x, y, rfl, ha, hx.toPr, hy.toPr⟩
def spFixedD (K : PySem.W.Frag) (n : Nat) : Sp := fun vs H Q _ => ∃ v d, vs = [v] ∧ FD K H n v d ∧ ∀ H' v', Same H H' → FD K H' n v' d → Q v' H'
theorem ok_fixedD (T : Txt K mg A) : ∀ n, FnOk P w K mg base CX0 (n + 1) A.f_fixed A.d_fixed ["value"] (spFixedD K n) := by
  intro n
  induction n with
  | zero =>
    refine T.fixed.F.ok sc_fixed (fun vs H Q E h => ?_) (fun cdv A' outer s H vs Q E hr h => ?_)
    · obtain ⟨_, _, rfl, _⟩ := h; rfl
    · obtain ⟨v, d, rfl, ⟨i, rfl, rfl⟩, q⟩ := h
      refine ⟨_, (pss_cons (ps_if (pt_val (pe_callB call_isiT (by rfl) T.n_isinstance bt_isinstance (pa_cons (pv 0) (pa_cons (pe_tup (pa_cons (pe_bltn (v := .ty "list") (by rfl) T.n_list bt_list rfl) (pa_cons (pe_bltn (v := .ty "tuple") (by rfl) T.n_tuple bt_tuple rfl) pa_nil))) pa_nil)))) (pss_one ps_never) pss_nil) (pss_one (ps_ret (pv 0)))), ?_⟩
      walk_at "vc"
      refine ⟨by decide, fun p hp => ty_row (.int i) upd_same ⟨_, rfl, ?_⟩⟩
      exact iteF (q _ _ (same_upd hp) ⟨i, rfl, rfl⟩)
  | succ n ih =>
    refine T.fixed.F.ok sc_fixed (fun vs H Q E h => ?_) (fun cdv A' outer s H vs Q E hr h => ?_)
    · obtain ⟨_, _, rfl, _⟩ := h; rfl
    · obtain ⟨v, d, rfl, h, q⟩ := h
      refine ⟨_, (pss_cons (ps_if (pt_val (pe_callB call_isiT (by rfl) T.n_isinstance bt_isinstance (pa_cons (pv 0) (pa_cons (pe_tup (pa_cons (pe_bltn (v := .ty "list") (by rfl) T.n_list bt_list rfl) (pa_cons (pe_bltn (v := .ty "tuple") (by rfl) T.n_tuple bt_tuple rfl) pa_nil))) pa_nil)))) (pss_one (ps_ret (pe_callTy call_tuple_of (by rfl) T.n_tuple bt_tuple (pa_cons (pe_lc (own := [("item", 1)]) (g := gName 1) (tt := tYes) rfl sc_fixed.nd (pi_tup (pv 0)) (blkOk_by (N := ["value", "item"]) (sc := defScope s_fixed) (by decide +kernel)) (fun _ _ _ _ _ => pg_name (i := 1) sc_fixed.nd rfl (Or.inl rfl)) (fun _ _ _ _ _ => pts_nil) (fun _ _ _ _ _ => (pe_call ih (hr.mono (by omega)) (by rfl) T.fixed.g T.fixed.F.kp T.fixed.b .nil pass0 (pa_cons (pv 1) pa_nil)))) pa_nil)))) pss_nil)
      (pss_one (ps_ret (pv 0)))), ?_⟩
      walk_at "vc"
      refine ⟨by decide, fun p2 hp2 => ?_⟩
      have s2 := same_upd (o := .tup [.ty "list", .ty "tuple"]) hp2
      rcases h with ⟨i, rfl, rfl⟩ | ⟨p, xs, ds, rfl, rfl, hx, he, hl⟩
      · refine ty_row (.int i) upd_same ⟨_, rfl, ?_⟩
        exact iteF (q _ _ s2 (.inl ⟨i, rfl, rfl⟩))
      · refine ty_row (.tup (same_tup s2 hx)) upd_same ⟨_, rfl, iteT ?_⟩
        generalize upd H p2 (.tup [.ty "list", .ty "tuple"]) = H2 at *
        have hx2 := same_tup s2 hx
        have he2 : Each (FD K H2 n) xs ds := he.imp fun v d h => FD.same s2 h
        refine ⟨_, rfl, p, rfl, ⟨_, hx2⟩, fun D hD => ?_⟩
        refine lc_tup (xs := xs) (fun i H3 => Same H2 H3 ∧ ∃ acc, H3 D = some (.lst acc) ∧ Each (FD K H3 n) acc (ds.take i)) ⟨same_upd hD, _, upd_same, rfl, fun k v x e => by simp at e⟩ (fun i H3 _ h => same_tup h.1 hx2) ?_ ?_
        · rintro i x H3 hxi ⟨s3, acc, e3, ea⟩
          obtain ⟨d, hd, hxd⟩ := he2.of hxi
          refine ⟨rfl, ?_⟩
          simp only [tYes, if_true]
          refine ⟨x, rfl, x, d, rfl, FD.same s3 hxd, fun H4 v' s4 hv' => ⟨acc, s4 _ _ e3, ?_, fun c o ec => ?_, _, upd_same, ?_⟩⟩
          · have := ea.1
            have := he2.1
            rw [List.length_take] at *
            exact small1000 (by omega)
          · rw [upd_ne (ne_of_none ec hD)]
            exact s4 _ _ (s3 _ _ ec)
          · have hD4 := s4 _ _ e3
            rw [List.take_add_one, hd]
            exact each_snoc ⟨ea.1, fun i v x e1 e2 => fd_keep hD4 (FD.same s4 (ea.2 i v x e1 e2))⟩ (fd_keep hD4 hv')
        · rintro H3 ⟨s3, acc, e3, ea⟩
          rw [he2.1, List.take_length] at ea
          refine ⟨D, rfl, acc, .inl ⟨sl_of e3, fun l hl' => q _ _ ((s2.trans s3).trans (same_upd hl')) (.inr ⟨l, acc, ds, rfl, rfl, st_of upd_same, ea.imp fun v d h => FD.same (same_upd hl') h, ?_⟩)⟩⟩
          rw [ea.1, ← he.1]
          exact hl
theorem FD.keepI {H : Hp} {x C dx : Addr} {fs fs' : List (Str × V)} (hx : H x = some (.ins C dx fs)) : ∀ {n : Nat} {v : V} {d : PyData}, FD K H n v d → FD K (upd H x (.ins C dx fs')) n v d
  | 0, _, _, h => h
  | n + 1, _, _, .inl h => .inl h
  | n + 1, _, _, .inr ⟨p, xs, ds, e1, e2, hp, he, hl⟩ => .inr ⟨p, xs, ds, e1, e2, keep_tupI hx hp, he.imp fun v d h => FD.keepI hx h, hl⟩
def spPaperInitD (K : PySem.W.Frag) (C : Addr) (n : Nat) : Sp := fun vs H Q _ => ∃ x t dx wd ds, vs = [.ref x, .str wd, .ref t] ∧ Cls K C ∧ NoAttr K C "word" ∧ NoAttr K C "parts" ∧ H x = some (.ins C dx []) ∧ FD K H n (.ref t) (.tuple ds) ∧
  ∀ H' t', (∀ b o, b ≠ x → H b = some o → H' b = some o) → H' x = some (.ins C dx (paperF wd t')) → FD K H' n (.ref t') (.tuple ds) → Q .non H'
theorem ok_Paper_initD (T : Txt K mg A) (C : Addr) (n : Nat) (hn : 0 < n) : FnR P w K mg base CX0 (n + 3) A.f_Paper_init (fun vs H Q E => ∃ ws rest, vs = ws ++ rest ∧ ws.length = 2 ∧ rest.length ≤ sizeLine ∧ ∀ p, H p = none → spPaperInitD K C n (ws ++ [.ref p]) (upd H p (.tup rest)) Q E) := by
  obtain ⟨oc, od, kV, doc, pm, an, cdv, ct, osl, e, lk, hcd⟩ := T.Paper_init.ex
  rw [e] at lk
  refine StX.fn_star (ps := ["self", "word"]) lk hcd sc_Paper_init StX.cxUp_none (StX.bind_star2 (B := fun l => bindArgs (PySem.W.fnOf "__init__" "Paper.__init__" (defArgs s_Paper_init) (defBody s_Paper_init) (defScope s_Paper_init) .none kV doc pm an cdv ct) ⟨l, []⟩) (fun _ _ => rfl) (fun _ _ _ _ => rfl)) fun A' outer s H vs Q E hr h => ?_
  obtain ⟨x, t, dx, wd, ds, rfl, cl, n1, n2, hx, ht, q⟩ := h
  refine ⟨_, pss_cons (ps_fld (pv 0) (pe_call (ok_fixed0 T) (hr.mono (by omega)) (by rfl) T.fixed.g T.fixed.F.kp T.fixed.b .nil pass0 (pa_cons (pv 1) pa_nil)) rfl) (pss_one (ps_fld (pv 0) (pe_call (ok_fixedD T n) (hr.mono (by omega)) (by rfl) T.fixed.g T.fixed.F.kp T.fixed.b .nil pass0 (pa_cons (pv 2) pa_nil)) rfl)), ?_⟩
  refine ⟨_, rfl, _, rfl, ⟨_, .str wd, by decide, by decide⟩, fun H1 s1 => ⟨_, rfl, x, C, dx, [], rfl, s1 _ _ hx, cl, n1, by decide, ?_⟩⟩
  have hx1 := s1 _ _ hx
  have keep : ∀ b o, b ≠ x → H b = some o → upd H1 x (.ins C dx (putF "word" (.str wd) [])) b = some o := fun b o nb e => by
    rw [upd_ne nb]; exact s1 _ _ e
  have gx : upd H1 x (.ins C dx (putF "word" (.str wd) [])) x = some (.ins C dx (putF "word" (.str wd) [])) := upd_same
  have tt : FD K (upd H1 x (.ins C dx (putF "word" (.str wd) []))) n (.ref t) (.tuple ds) := (FD.same s1 ht).keepI hx1
  generalize upd H1 x (.ins C dx (putF "word" (.str wd) [])) = H2 at *
  refine ⟨_, rfl, _, _, rfl, tt, fun H3 v' s3 ht' => ?_⟩
  obtain ⟨t', rfl⟩ : ∃ t', v' = .ref t' := by
    match n, hn, ht' with
    | n + 1, _, .inr ⟨p, _, _, e, _⟩ => exact ⟨p, e⟩
    | n + 1, _, .inl ⟨_, _, e⟩ => cases e
  refine ⟨_, rfl, x, C, dx, _, rfl, s3 _ _ gx, cl, n2, (by show 1 < 1000; decide), ?_⟩
  refine q _ t' (fun b o nb e => ?_) upd_same (ht'.keepI (s3 _ _ gx))
  rw [upd_ne nb]
  exact s3 _ _ (keep b o nb e)
/-- at x: the paper of a gap -/
def GapAt (K : PySem.W.Frag) (C : Addr) (H : Hp) (x : Addr) (sq one other : Int × Int) (he th : P2) : Prop := ∃ dx fs t a1 a2 a3 a4 a5, H x = some (.ins C dx fs) ∧ fs.lookup ("word" : Str) = some (.str "gap") ∧ fs.lookup ("parts" : Str) = some (.ref t) ∧ SqT K H t [a1, a2, a3, a4, a5] ∧
  fs.lookup ("squared" : Str) = some a1 ∧ fs.lookup ("one" : Str) = some a2 ∧ fs.lookup ("other" : Str) = some a3 ∧ fs.lookup ("here" : Str) = some a4 ∧ fs.lookup ("there" : Str) = some a5 ∧ Pr K H a1 sq ∧ Pr K H a2 one ∧ Pr K H a3 other ∧ PP K H a4 he ∧ PP K H a5 th
theorem GapAt.same {C : Addr} {H H' : Hp} {x : Addr} {sq one other : Int × Int} {he th : P2} (s : Same H H') (h : GapAt K C H x sq one other he th) : GapAt K C H' x sq one other he th := by
  obtain ⟨dx, fs, t, a1, a2, a3, a4, a5, h1, h2, h3, h4, f1, f2, f3, f4, f5, g1, g2, g3, g4, g5⟩ := h
  exact ⟨dx, fs, t, a1, a2, a3, a4, a5, s _ _ h1, h2, h3, same_tup s h4, f1, f2, f3, f4, f5, g1.same s, g2.same s, g3.same s, g4.same s, g5.same s⟩
theorem pr_keepI' {H : Hp} {x C dx : Addr} {fs fs' : List (Str × V)} (hx : H x = some (.ins C dx fs)) {v : V} {q : Int × Int} (h : Pr K H v q) : Pr K (upd H x (.ins C dx fs')) v q := by
  obtain ⟨a, e, h⟩ := h
  exact ⟨a, e, keep_tupI hx h⟩
def spGapInit (K : PySem.W.Frag) (C : Addr) : Sp := fun vs H Q _ => ∃ x dx v1 v2 v3 v4 v5 sq one other he th, vs = [.ref x, v1, v2, v3, v4, v5] ∧ H x = some (.ins C dx []) ∧ Pr K H v1 sq ∧ Pr K H v2 one ∧ Pr K H v3 other ∧ PP K H v4 he ∧ PP K H v5 th ∧
  ∀ H', (∀ c o, c ≠ x → H c = some o → H' c = some o) → GapAt K C H' x sq one other he th → Q .non H'
/-- what is no instance stays, when only x is written -/
theorem sqt_keepX {H H' : Hp} {x C dx : Addr} {fs : List (Str × V)} (hx : H x = some (.ins C dx fs)) (kp : ∀ c o, c ≠ x → H c = some o → H' c = some o) {p : Addr} {xs : List V} (h : SqT K H p xs) : SqT K H' p xs := by
  rcases h with (ht | ⟨o, ht⟩) | ht
  · exact .inl (.inl (kp _ _ (ne_of ht hx (by intro z; cases z)) ht))
  · exact .inl (.inr ⟨o, kp _ _ (ne_of ht hx (by intro z; cases z)) ht⟩)
  · exact .inr ht
theorem pr_keepX {H H' : Hp} {x C dx : Addr} {fs : List (Str × V)} (hx : H x = some (.ins C dx fs)) (kp : ∀ c o, c ≠ x → H c = some o → H' c = some o) {v : V} {q : Int × Int} (h : Pr K H v q) : Pr K H' v q := by
  obtain ⟨a, e, h⟩ := h
  exact ⟨a, e, sqt_keepX hx kp h⟩
theorem pp_keepX {H H' : Hp} {x C dx : Addr} {fs : List (Str × V)} (hx : H x = some (.ins C dx fs)) (kp : ∀ c o, c ≠ x → H c = some o → H' c = some o) {v : V} {p : P2} (h : PP K H v p) : PP K H' v p := by
  obtain ⟨a, y, z, e, h, hy, hz⟩ := h
  exact ⟨a, y, z, e, sqt_keepX hx kp h, pr_keepX hx kp hy, pr_keepX hx kp hz⟩
theorem ok_Gap_init (T : Txt K mg A) : FnOk PG w K mg base CX0 7 A.f_Gap_init A.d_Gap_init ["self", "squared", "one", "other", "here", "there"] (spGapInit K A.C_Gap) := by
  obtain ⟨⟨oc, kV, doc, pm, ct, cl, od, an, cld, osl, csl, e, lk, hcell⟩, code, ⟨ccl, cdd, vsA, ccs, file, tf, hcode, hv2, hfile⟩, ⟨cd, hC⟩, sub, sup, ty, fi, opq⟩ := T.sup_Gap
  rw [e] at lk ⊢
  refine fn_super lk code hcell sc_Gap_init (fun vs H Q E h => ?_) (fun A' outer s H vs Q E hr h s1 I => ?_)
  · obtain ⟨_, _, _, _, _, _, _, _, _, _, _, _, rfl, _⟩ := h; rfl
  · obtain ⟨x, dx, v1, v2, v3, v4, v5, sq, one, other, he, th, rfl, hx, h1, h2, h3, h4, h5, q⟩ := h
    obtain ⟨t0, rest, hq0⟩ : ∃ t0 : TS, PSs (NdefX.ncx CX0 PG w K mg base ["self", "squared", "one", "other", "here", "there", "__class__"] ⟨"__init__", "Gap.__init__", defArgs s_Gap_init, defBody s_Gap_init, defScope s_Gap_init, [("__class__", A.cc_Gap)], A.cda_Gap⟩ A.f_Gap_init A' outer s H E) ((defBody s_Gap_init).drop 1) t0 ∧
        ∀ H2 t' a1 a2 a3 a4 a5, (∀ c o, c ≠ x → H c = some o → H2 c = some o) → H2 x = some (.ins A.C_Gap dx (paperF "gap" t')) → SqT K H2 t' [a1, a2, a3, a4, a5] → Pr K H2 a1 sq → Pr K H2 a2 one → Pr K H2 a3 other → PP K H2 a4 he → PP K H2 a5 th → t0 { nx := fun _ H' => Q .non H', rt := Q } (NdefX.startF ["self", "squared", "one", "other", "here", "there", "__class__"] [.ref x, v1, v2, v3, v4, v5] [some (.ref A.C_Gap)]) H2 := by
      refine ⟨_, pss_one (ps_asg (pe_fld (pv 0) rfl) (pg_tup rfl (pgs_cons (pg_fld (pv 0)) (pgs_cons (pg_fld (pv 0)) (pgs_cons (pg_fld (pv 0)) (pgs_cons (pg_fld (pv 0)) (pgs_cons (pg_fld (pv 0)) pgs_nil))))))), fun H2 t' a1 a2 a3 a4 a5 kp hx2 ht k1 k2 k3 k4 k5 => ?_⟩
      have l2 : (paperF "gap" t').length = 2 := rfl
      have l3 := length_putF ("squared" : Str) a1 (paperF "gap" t')
      have l4 := length_putF ("one" : Str) a2 (putF ("squared" : Str) a1 (paperF "gap" t'))
      have l5 := length_putF ("other" : Str) a3 (putF ("one" : Str) a2 (putF ("squared" : Str) a1 (paperF "gap" t')))
      have l6 := length_putF ("here" : Str) a4 (putF ("other" : Str) a3 (putF ("one" : Str) a2 (putF ("squared" : Str) a1 (paperF "gap" t'))))
      refine ⟨_, rfl, x, A.C_Gap, dx, _, .ref t', rfl, hx2, T.cl_Gap, T.no_Gap_parts, paperF_parts, t', _, rfl, ht, rfl, a1, _, rfl, _, rfl, x, A.C_Gap, dx, _, rfl, hx2, T.cl_Gap, T.no_Gap_squared, (by omega), ?_⟩
      refine ⟨a2, _, rfl, _, rfl, x, A.C_Gap, dx, _, rfl, upd_same, T.cl_Gap, T.no_Gap_one, (by omega), ?_⟩
      refine ⟨a3, _, rfl, _, rfl, x, A.C_Gap, dx, _, rfl, upd_same, T.cl_Gap, T.no_Gap_other, (by omega), ?_⟩
      refine ⟨a4, _, rfl, _, rfl, x, A.C_Gap, dx, _, rfl, upd_same, T.cl_Gap, T.no_Gap_here, (by omega), ?_⟩
      refine ⟨a5, _, rfl, _, rfl, x, A.C_Gap, dx, _, rfl, upd_same, T.cl_Gap, T.no_Gap_there, (by omega), rfl, ?_⟩
      clear l2 l3 l4 l5 l6
      have fin : ∀ H3, H3 x = some (.ins A.C_Gap dx (putF ("there" : Str) a5 (putF ("here" : Str) a4 (putF ("other" : Str) a3 (putF ("one" : Str) a2 (putF ("squared" : Str) a1 (paperF "gap" t'))))))) → (∀ c o, c ≠ x → H2 c = some o → H3 c = some o) → Q .non H3 := by
        intro H3 hx3 kp3
        refine q _ (fun c o nc ec => kp3 c o nc (kp c o nc ec)) ⟨dx, _, t', a1, a2, a3, a4, a5, hx3, ?_, ?_, sqt_keepX hx2 kp3 ht, ?_, ?_, ?_, ?_, ?_, pr_keepX hx2 kp3 k1, pr_keepX hx2 kp3 k2, pr_keepX hx2 kp3 k3, pp_keepX hx2 kp3 k4, pp_keepX hx2 kp3 k5⟩
        · rw [lookup_putF, if_neg (by decide), lookup_putF, if_neg (by decide), lookup_putF, if_neg (by decide), lookup_putF, if_neg (by decide), lookup_putF, if_neg (by decide)]
          rfl
        · rw [lookup_putF, if_neg (by decide), lookup_putF, if_neg (by decide), lookup_putF, if_neg (by decide), lookup_putF, if_neg (by decide), lookup_putF, if_neg (by decide)]
          exact paperF_parts
        · rw [lookup_putF, if_neg (by decide), lookup_putF, if_neg (by decide), lookup_putF, if_neg (by decide), lookup_putF, if_neg (by decide), lookup_putF, if_pos rfl]
        · rw [lookup_putF, if_neg (by decide), lookup_putF, if_neg (by decide), lookup_putF, if_neg (by decide), lookup_putF, if_pos rfl]
        · rw [lookup_putF, if_neg (by decide), lookup_putF, if_neg (by decide), lookup_putF, if_pos rfl]
        · rw [lookup_putF, if_neg (by decide), lookup_putF, if_pos rfl]
        · rw [lookup_putF, if_pos rfl]
      refine fin _ upd_same fun c o nc ec => ?_
      rw [upd_ne nc, upd_ne nc, upd_ne nc, upd_ne nc, upd_ne nc]
      exact ec
    refine PySem.ks_wpAt_execs_cons (rest := (defBody s_Gap_init).drop 1) ?_
    refine PySem.ks_wpAt_mono (super_at (sp := fun vs H Q E => ∃ ws rest, vs = ws ++ rest ∧ ws.length = 2 ∧ rest.length ≤ sizeLine ∧ ∀ p, H p = none → spPaperInitD K A.C_Gap 3 (ws ++ [.ref p]) (upd H p (.tup rest)) Q E)
      (X := NdefX.ncx CX0 PG w K mg base ["self", "squared", "one", "other", "here", "there", "__class__"] ⟨"__init__", "Gap.__init__", defArgs s_Gap_init, defBody s_Gap_init, defScope s_Gap_init, [("__class__", A.cc_Gap)], A.cda_Gap⟩ A.f_Gap_init A' outer s H E)
      (D' := { nx := fun σ H' => t0 { nx := fun _ H' => Q .non H', rt := Q } σ H', rt := Q }) (j := 6) (fs := [])
      I rfl rfl rfl rfl lk rfl hcode hv2 (by rw [hfile]; exact pg_file) pg_top T.n_super (by decide +kernel) rfl rfl rfl rfl rfl hC sub hC hx opq sup ty fi (ok_Paper_initD T A.C_Gap 3 (by decide)) hr pass0 (pa_cons pe_str (pa_cons (pv 1) (pa_cons (pv 2) (pa_cons (pv 3) (pa_cons (pv 4) (pa_cons (pv 5) pa_nil)))))) rfl ?_ rfl rfl rfl rfl) (fun fl s' hs => ?_) (fun _ _ z => z)
    · refine ⟨_, rfl, _, rfl, _, rfl, _, rfl, _, rfl, [.ref x, .str "gap"], [v1, v2, v3, v4, v5], rfl, rfl, (by show 5 ≤ sizeLine; decide), fun p hp => ?_⟩
      have sp := same_upd (o := .tup [v1, v2, v3, v4, v5]) hp
      refine ⟨x, p, dx, "gap", _, rfl, T.cl_Gap, T.no_Gap_word, T.no_Gap_parts, sp _ _ hx, .inr ⟨p, _, [.tuple [.int sq.1, .int sq.2], .tuple [.int one.1, .int one.2], .tuple [.int other.1, .int other.2], .tuple [.tuple [.int he.1.1, .int he.1.2], .tuple [.int he.2.1, .int he.2.2]], .tuple [.tuple [.int th.1.1, .int th.1.2], .tuple [.int th.2.1, .int th.2.2]]], rfl, rfl, st_of upd_same, ⟨rfl, fun i v y e1 e2 => ?_⟩, (by show 5 ≤ 100; decide)⟩, fun H2 t' kp hx2 ht => ?_⟩
      · match i, e1, e2 with
        | 0, e1, e2 => cases e1; cases e2; exact FD.up1 (h1.same sp)
        | 1, e1, e2 => cases e1; cases e2; exact FD.up1 (h2.same sp)
        | 2, e1, e2 => cases e1; cases e2; exact FD.up1 (h3.same sp)
        | 3, e1, e2 => cases e1; cases e2; exact FD.pp (h4.same sp)
        | 4, e1, e2 => cases e1; cases e2; exact FD.pp (h5.same sp)
      · rcases ht with ⟨_, e, _⟩ | ⟨p', xs, ds, e, e2, hp', hf, _⟩
        · cases e
        · cases e
          cases e2
          have lx : xs.length = 5 := hf.1
          match xs, lx with
          | [a1, a2, a3, a4, a5], _ =>
            exact hq0 H2 t' a1 a2 a3 a4 a5 (fun c o nc ec => kp c o nc (sp _ _ ec)) hx2 hp' (FD.toPr (hf.2 0 _ _ rfl rfl)) (FD.toPr (hf.2 1 _ _ rfl rfl)) (FD.toPr (hf.2 2 _ _ rfl rfl)) (FD.toPP (n := 0) (hf.2 3 _ _ rfl rfl)) (FD.toPP (n := 0) (hf.2 4 _ _ rfl rfl))
    · cases fl with
      | next =>
        obtain ⟨σ', G', J, h0⟩ := hs
        exact PySem.wpAt_of_wpAny (rest.run [] s' σ' G' _ J h0)
      | ret u => exact hs
      | brk => exact hs
      | cont => exact hs
end
end Odd
namespace Odd
open PySem PySem.Spec PyProof.Rows L2
local macro_rules | `(tactic| walk_at "vc") => `(tactic| simp only [tSeq, tAsg, gName, tCB, tCons, tNil, tVar, tC, tOp, tUn, rI0, rI, rU, tTup, tLst, tIfS, tTest, tB, tRet, tNext, rGcd, L2.start, List.map, List.set, List.replicate, List.cons_append, List.nil_append, List.length_cons, List.length_nil, List.getElem?_cons_succ, List.getElem?_cons_zero, Option.some.injEq, exists_eq_left', exists_eq_left, List.append_nil, List.cons.injEq, V.int.injEq, exists_and_left, and_true, true_and, and_assoc, exists_const, V.bl.injEq, V.ref.injEq, Nat.sub_self, Nat.reduceAdd, Nat.reduceSub, List.replicate_succ, List.replicate_zero, tAnd, tOr, tNot, tAndV, tOrV, tNotV, tIf, tCall, tCallK, tDrop, rEq, rNe, decide_eq_true_eq, Bool.not_eq_true', decide_eq_false_iff_not, Bool.false_eq_true, if_true, if_false, reduceIte, reduceCtorEq, tMkLow, tRaiseLow, rIsB, rNotB, tBreak, tPar, gSub, rSetL, tChain, gTup, gCons, gNil, gSeq, cx_K, cx_Kn, optV, V.str.injEq, Bool.not_true, Bool.not_false, false_and, and_false, or_false, false_or, exists_false, tCallN, tCallS, tPairs])
section
variable {w : World} {K : PySem.W.Frag} {mg : Str → Option Value} {base : Heap} {A : Ads}
def prevN (c n : Nat) : Nat := (c + n - 1) % n
/-- a side at the corner that is no neighbour of the side q -/
def socL (pss : List (List P2)) (p q : Nat × Nat) : Option (Nat × Nat) := if nbB pss p q = false then some p else if nbB pss (p.1, prevN p.2 (pss.getD p.1 []).length) q = false then some (p.1, prevN p.2 (pss.getD p.1 []).length) else none
theorem prev_int {c n : Nat} (hc : c < n) : ((c : Nat) - 1 : Int) % ((n : Nat) : Int) = ((prevN c n : Nat) : Int) := by
  have : ((c : Nat) - 1 : Int) = ((c + n - 1 : Nat) : Int) + (n : Nat) * (-1) := by omega
  rw [this, Int.add_mul_emod_self_left]
  exact (Int.natCast_emod _ _).symm
def spSoc (K : PySem.W.Frag) (CF CL : Addr) : Sp := fun vs H Q _ => ∃ l u us pss p q, vs = [.ref l, .int (p.1 : Nat), .int (p.2 : Nat), u] ∧ LotAt K CF CL H l us pss ∧ (∀ ps ∈ pss, 3 ≤ ps.length) ∧ NumV K H u q ∧ SideOf pss p ∧ SideOf pss q ∧
  ∀ H', Same H H' → (socL pss p q = none → Q .non H') ∧ (∀ r v, socL pss p q = some r → NumV K H' v r → Q v H')
theorem ok__side_of_corner (T : Txt K mg A) : FnOk PG w K mg base CX0 6 A.f__side_of_corner A.d__side_of_corner ["lot", "fence", "corner", "at"] (spSoc K A.C_Fence A.C_Lot) := by
  refine T._side_of_corner.F.ok sc__side_of_corner (fun vs H Q E h => ?_) (fun cdv A' outer s H vs Q E hr h => ?_)
  · obtain ⟨_, _, _, _, _, _, rfl, _⟩ := h; rfl
  · obtain ⟨l, u, us, pss, p, q, rfl, hl, h3', hu, hp, hq, ret⟩ := h
    refine ⟨_, (pss_cons (ps_for PassesOwn.never rfl (pi_tup (pe_tup (pa_cons (pv 2) (pa_cons (pe_op op_mod (pe_op op_sub (pv 2) pe_int) (pe_callB (call_lenO T.len_Fence T.lenT ((ok_Fence_len T).raw T.Fence_len.b .nil) (hr.mono (by decide))) (by rfl) T.n_len bt_len (pa_cons (pe_ix ix_tup (pe_fld (pv 0) rfl) (pv 1) (fun _ _ => rfl)) pa_nil))) pa_nil)))) (pg_name (i := 4) sc__side_of_corner.nd rfl (.inl rfl)) (pss_one (ps_if (pt_not (pt_val (pe_call (ok_are_neighbours T) (hr.mono (by decide)) (by rfl) T.are_neighbours.g T.are_neighbours.F.kp T.are_neighbours.b .nil pass0 (pa_cons (pv 0) (pa_cons (pe_tup (pa_cons (pv 1) (pa_cons (pv 4) pa_nil))) (pa_cons (pv 3) pa_nil)))))) (pss_one (ps_ret (pe_tup (pa_cons (pv 1) (pa_cons (pv 4) pa_nil))))) pss_nil)))
      (pss_one (ps_ret pe_non))), ?_⟩
    refine seq_by fun N hN => ?_
    walk_at "vc"
    obtain ⟨dx, fs, b, h1, h2, h3, h4, h5⟩ := id hl
    have hps : pss[p.1]? = some (pss.getD p.1 []) := getD_some hp.1
    have w3 := h3' _ (List.mem_of_getElem? hps)
    have w40 := h5.1.lens _ (List.mem_of_getElem? hps)
    obtain ⟨v, hv, z, rfl, hF⟩ := h4.at hps
    obtain ⟨dy, fy, _, _, _, _, hz, _⟩ := id hF
    have hp2 := hp.2
    generalize hn : (pss.getD p.1 []).length = n at *
    have hpr : prevN p.2 n < n := Nat.mod_lt _ (by omega)
    have ret' := ret
    unfold socL at ret'
    rw [hn] at ret'
    refine ⟨_, rfl, _, rfl, _, _, rfl, rfl, _, rfl, l, A.C_Lot, dx, fs, .ref b, rfl, h1, T.cl_Lot, T.no_Lot_fences, h2, _, rfl, ixT h3 (atI_nat hv) ⟨z, dy, fy, rfl, hz, z, _, rfl, hF, _, rfl, by omega, by omega, _, _, rfl, rfl, by omega, (by show 2 ≤ sizeLine; decide), fun t ht => ?_⟩⟩
    simp only [hn, prev_int hp2]
    have st := same_upd (o := .tup [.int (p.2 : Nat), .int ((prevN p.2 n : Nat) : Int)]) ht
    have key : ∀ (k : Nat) (x : V) (H3 : Hp) (D : Ends) (o4 : Option V), Same H H3 → k < n → x = .int (k : Nat) → (nbB pss (p.1, k) q = false → ∀ H' v, Same H3 H' → NumV K H' v (p.1, k) → D.rt v H') → (nbB pss (p.1, k) q = true → ∀ H', Same H3 H' → D.nx [some (.ref l), some (.int (p.1 : Nat)), some (.int (p.2 : Nat)), some u, some x] H') → (tIfS (tNot (tB (tCall (spNb K A.C_Fence A.C_Lot) [] E0 (tCons (tVar 0) (tCons (tTup (tCons (tVar 1) (tCons (tVar 4) tNil))) (tCons (tVar 3) tNil)))))) (tRet (tTup (tCons (tVar 1) (tCons (tVar 4) tNil)))) tNext) D [some (.ref l), some (.int (p.1 : Nat)), some (.int (p.2 : Nat)), some u, some x] H3 := by
      rintro k x H3 D o4 s3 hk rfl q1 q2
      walk_at "vc"
      refine ⟨by decide, fun t2 ht2 => ?_⟩
      have s4 := same_upd (o := .tup [.int (p.1 : Nat), .int (k : Nat)]) ht2
      have s34 := s3.trans s4
      refine ⟨l, .ref t2, u, us, pss, (p.1, k), q, rfl, hl.same s34, h3', ⟨t2, rfl, st_of upd_same⟩, hu.same s34, ⟨hp.1, by show k < (pss.getD p.1 []).length; omega⟩, hq, fun H4 s5 => ⟨_, rfl, ?_⟩⟩
      split
      · rename_i c
        refine ⟨by decide, fun t3 ht3 => q1 (by simpa using c) _ _ ((s4.trans s5).trans (same_upd ht3)) ⟨t3, rfl, st_of upd_same⟩⟩
      · rename_i c
        exact q2 (by simpa using c) _ (s4.trans s5)
    refine ⟨t, rfl, ⟨_, st_of upd_same⟩, for_tup (D := { nx := N, rt := Q }) (xs := [.int (p.2 : Nat), .int ((prevN p.2 n : Nat) : Int)]) (fun i σ H3 => ∃ o4, σ = [some (.ref l), some (.int (p.1 : Nat)), some (.int (p.2 : Nat)), some u, o4] ∧ Same H H3 ∧ H3 t = some (.tup [.int (p.2 : Nat), .int ((prevN p.2 n : Nat) : Int)]) ∧ (1 ≤ i → nbB pss p q = true) ∧ (2 ≤ i → nbB pss (p.1, prevN p.2 n) q = true)) ?_ ?_ ?_ ?_⟩
    · exact ⟨_, rfl, st, upd_same, fun h => by omega, fun h => by omega⟩
    · rintro i σ H3 _ ⟨_, _, _, h, _⟩
      exact st_of h
    · rintro i x σ H3 hx ⟨o4, rfl, s3, ht3, n1, n2⟩
      simp only [gName, List.set]
      match i, hx with
      | 0, hx =>
        cases hx
        refine key p.2 _ H3 _ o4 s3 hp2 rfl (fun c H' v s' hv => ?_) fun c H' s' => ?_
        · refine (ret' H' (s3.trans s')).2 _ v ?_ hv
          rw [if_pos c]
        · exact ⟨_, rfl, s3.trans s', s' _ _ ht3, fun _ => c, fun h => by omega⟩
      | 1, hx =>
        cases hx
        refine key (prevN p.2 n) _ H3 _ o4 s3 hpr rfl (fun c H' v s' hv => ?_) fun c H' s' => ?_
        · refine (ret' H' (s3.trans s')).2 _ v ?_ hv
          rw [if_neg (by rw [n1 (by omega)]; decide), if_pos c]
        · exact ⟨_, rfl, s3.trans s', s' _ _ ht3, fun _ => n1 (by omega), fun _ => c⟩
    · rintro σ H3 ⟨o4, rfl, s3, ht3, n1, n2⟩
      show N _ _
      subst hN
      walk_at "vc"
      refine (ret' H3 s3).1 ?_
      rw [if_neg (by rw [n1 (by show 1 ≤ 2; decide)]; decide), if_neg (by rw [n2 (by show 2 ≤ 2; decide)]; decide)]
/-- the lesser first -/
def lexP (p q : Nat × Nat) : Bool := HT.lexLt [((p.1 : Nat) : Int), ((p.2 : Nat) : Int)] [((q.1 : Nat) : Int), ((q.2 : Nat) : Int)]
def toI (p : Nat × Nat) : Int × Int := (((p.1 : Nat) : Int), ((p.2 : Nat) : Int))
def spOrdG (K : PySem.W.Frag) (CG : Addr) : Sp := fun vs H Q _ => ∃ t v1 v2 v3 v4 v5 sq one other he th, vs = [.ref t] ∧ SqT K H t [v1, v2, v3, v4, v5] ∧ Pr K H v1 sq ∧ NumV K H v2 one ∧ PP K H v3 he ∧ NumV K H v4 other ∧ PP K H v5 th ∧
  ∀ H' g, Same H H' → (lexP one other = true → GapAt K CG H' g sq (toI one) (toI other) he th) → (lexP one other = false → GapAt K CG H' g sq (toI other) (toI one) th he) → Q (.ref g) H'
theorem num_pr {H : Hp} {v : V} {q : Nat × Nat} (h : NumV K H v q) : Pr K H v (toI q) := h
theorem ok_ordered_gaps (T : Txt K mg A) : FnOk PG w K mg base CX0 9 A.f_ordered_gaps A.d_ordered_gaps ["found"] (spOrdG K A.C_Gap) := by
  refine T.ordered_gaps.F.ok sc_ordered_gaps (fun vs H Q E h => ?_) (fun cdv A' outer s H vs Q E hr h => ?_)
  · obtain ⟨_, _, _, _, _, _, _, _, _, _, _, rfl, _⟩ := h; rfl
  · obtain ⟨t, v1, v2, v3, v4, v5, sq, one, other, he, th, rfl, ht, h1, h2, h3, h4, h5, ret⟩ := h
    refine ⟨_, (pss_cons (ps_asg (pv 0) (pg_tup rfl (pgs_cons (pg_name (i := 1) sc_ordered_gaps.nd rfl (.inl rfl)) (pgs_cons (pg_name (i := 2) sc_ordered_gaps.nd rfl (.inl rfl)) (pgs_cons (pg_name (i := 3) sc_ordered_gaps.nd rfl (.inl rfl)) (pgs_cons (pg_name (i := 4) sc_ordered_gaps.nd rfl (.inl rfl)) (pgs_cons (pg_name (i := 5) sc_ordered_gaps.nd rfl (.inl rfl)) pgs_nil)))))))
      (pss_cons (ps_if (pt_cmpR (op_ltT (Nat.lt_of_le_of_lt (Nat.le_add_right _ 64) hr.units)) (pv 2) (pv 4) (nomark _)) (pss_one (ps_ret (pe_make T.mk_Gap (ok_Gap_init T) (hr.mono (by decide)) (by rfl) T.m_Gap T.b_Gap .nil pass0 (pa_cons (pv 1) (pa_cons (pv 2) (pa_cons (pv 4) (pa_cons (pv 3) (pa_cons (pv 5) pa_nil)))))))) pss_nil)
      (pss_one (ps_ret (pe_make T.mk_Gap (ok_Gap_init T) (hr.mono (by decide)) (by rfl) T.m_Gap T.b_Gap .nil pass0 (pa_cons (pv 1) (pa_cons (pv 4) (pa_cons (pv 2) (pa_cons (pv 5) (pa_cons (pv 3) pa_nil)))))))))), ?_⟩
    refine seq_by fun N hN => ?_
    walk_at "vc"
    refine ⟨_, ht, rfl, _, _, rfl, _, _, rfl, _, _, rfl, _, _, rfl, _, _, rfl, rfl, ?_⟩
    subst hN
    refine seq_by fun N hN => ?_
    walk_at "vc"
    obtain ⟨b2, rfl, hb2⟩ := id h2
    obtain ⟨b4, rfl, hb4⟩ := id h4
    refine ⟨b2, b4, [((one.1 : Nat) : Int), ((one.2 : Nat) : Int)], [((other.1 : Nat) : Int), ((other.2 : Nat) : Int)], rfl, rfl, hb2, hb4, ?_⟩
    have mk : ∀ (x dx : Addr) (u2 u3 u4 u5 : V) (a b : Int × Int) (c d : P2) (R : Hp → Prop), H x = none → H dx = none → dx ≠ x → Pr K H u2 a → Pr K H u3 b → PP K H u4 c → PP K H u5 d → (∀ H', Same H H' → GapAt K A.C_Gap H' x sq a b c d → R H') → spGapInit K A.C_Gap [.ref x, v1, u2, u3, u4, u5] (upd (upd H dx (.own x)) x (.ins A.C_Gap dx [])) (fun v H2 => v = .non ∧ R H2) E0 := by
      intro x dx u2 u3 u4 u5 a b c d R hx hdx ne k2 k3 k4 k5 r
      have t1 := same_upd (o := .own x) hdx
      have hx1 : upd H dx (.own x) x = none := by rw [upd_ne (Ne.symm ne)]; exact hx
      have t2 := t1.trans (same_upd (o := .ins A.C_Gap dx []) hx1)
      refine ⟨x, dx, v1, u2, u3, u4, u5, sq, a, b, c, d, rfl, upd_same, h1.same t2, k2.same t2, k3.same t2, k4.same t2, k5.same t2, fun H' kp hg => ⟨rfl, r H' (fun c o e => ?_) hg⟩⟩
      exact kp _ _ (fun z => by rw [z, hx] at e; cases e) (t2 _ _ e)
    have lx : HT.lexLt [((one.1 : Nat) : Int), ((one.2 : Nat) : Int)] [((other.1 : Nat) : Int), ((other.2 : Nat) : Int)] = lexP one other := rfl
    rw [lx]
    refine ⟨_, rfl, ?_⟩
    split
    · rename_i c
      simp only [tMake]
      walk_at "vc"
      exact fun x dx hx hdx ne => mk x dx _ _ _ _ _ _ _ _ _ hx hdx ne (num_pr h2) (num_pr h4) h3 h5 fun H' s' hg => ret H' x s' (fun _ => hg) (fun c' => by rw [c] at c'; cases c')
    · rename_i c
      subst hN
      walk_at "vc"
      simp only [tMake]
      walk_at "vc"
      exact fun x dx hx hdx ne => mk x dx _ _ _ _ _ _ _ _ _ hx hdx ne (num_pr h4) (num_pr h2) h5 h3 fun H' s' hg => ret H' x s' (fun c' => absurd c' c) (fun _ => hg)
end
end Odd
namespace Odd
open PySem PySem.Spec PyProof.Rows L2
local macro_rules | `(tactic| walk_at "vc") => `(tactic| simp only [tSeq, tAsg, gName, tCB, tCons, tNil, tVar, tC, tOp, tUn, rI0, rI, rU, tTup, tLst, tIfS, tTest, tB, tRet, tNext, rGcd, L2.start, List.map, List.set, List.replicate, List.cons_append, List.nil_append, List.length_cons, List.length_nil, List.getElem?_cons_succ, List.getElem?_cons_zero, Option.some.injEq, exists_eq_left', exists_eq_left, List.append_nil, List.cons.injEq, V.int.injEq, exists_and_left, and_true, true_and, and_assoc, exists_const, V.bl.injEq, V.ref.injEq, Nat.sub_self, Nat.reduceAdd, Nat.reduceSub, List.replicate_succ, List.replicate_zero, tAnd, tOr, tNot, tAndV, tOrV, tNotV, tIf, tCall, tCallK, tDrop, rEq, rNe, decide_eq_true_eq, Bool.not_eq_true', decide_eq_false_iff_not, Bool.false_eq_true, if_true, if_false, reduceIte, reduceCtorEq, tMkLow, tRaiseLow, rIsB, rNotB, tBreak, tPar, gSub, rSetL, tChain, gTup, gCons, gNil, gSeq, cx_K, cx_Kn, optV, V.str.injEq, Bool.not_true, Bool.not_false, false_and, and_false, or_false, false_or, exists_false, tCallN, tCallS, tPairs])
section
variable {w : World} {K : PySem.W.Frag} {mg : Str → Option Value} {base : Heap} {A : Ads}
/-- rows of corners that may be fences -/
structure GRows (un : Int) (rows : List (List (Int × Int))) : Prop where
  three : ∀ r ∈ rows, 3 ≤ r.length
  near : ∀ r ∈ rows, ∀ z ∈ r, NearZ z
  ne : ∀ r ∈ rows, ∀ i, cyc r i ≠ cyc r (i + 1)
  un0 : 0 < un
  un1 : un < 1000
def fcs (un : Int) (rows : List (List (Int × Int))) : List (List P2) := rows.map fun r => r.map (scP un)
def crZ' (rows : List (List (Int × Int))) (p : Nat × Nat) : Int × Int := cyc (rows.getD p.1 []) p.2
def enZ (rows : List (List (Int × Int))) (p : Nat × Nat) : Int × Int := cyc (rows.getD p.1 []) (p.2 + 1)
/-- a corner, a side at it, a side that is no neighbour of that one -/
structure Cand where
  one : Nat × Nat
  cor : Nat × Nat
  at' : Nat × Nat
def IsC (pss : List (List P2)) (c : Cand) : Prop := SideOf pss c.cor ∧ SideOf pss c.at' ∧ socL pss c.cor c.at' = some c.one
def cN (rows : List (List (Int × Int))) (c : Cand) : Int := ftN (crZ' rows c.cor) (crZ' rows c.at') (enZ rows c.at')
def cD (rows : List (List (Int × Int))) (c : Cand) : Int := ftD (crZ' rows c.cor) (crZ' rows c.at') (enZ rows c.at')
def cX (rows : List (List (Int × Int))) (c : Cand) : Int × Int := ftX (crZ' rows c.cor) (crZ' rows c.at') (enZ rows c.at')
def leC (rows : List (List (Int × Int))) (c d : Cand) : Prop := cN rows c * cD rows d ≤ cN rows d * cD rows c
/-- what was found of those that were looked at -/
def Best (rows : List (List (Int × Int))) (V : Cand → Prop) : Option Cand → Prop
  | none => ∀ c, ¬ V c
  | some b => V b ∧ ∀ c, V c → leC rows b c
def sqC (un : Int) (rows : List (List (Int × Int))) (c : Cand) : Int × Int := low (cN rows c) (cD rows c * (un * un))
def FndV (K : PySem.W.Frag) (un : Int) (rows : List (List (Int × Int))) (H : Hp) (v : V) : Option Cand → Prop
  | none => v = .non
  | some c => ∃ t v1 v2 v3 v4 v5, v = .ref t ∧ SqT K H t [v1, v2, v3, v4, v5] ∧ Pr K H v1 (sqC un rows c) ∧ NumV K H v2 c.one ∧ PP K H v3 (scP un (crZ' rows c.cor)) ∧ NumV K H v4 c.at' ∧ PP K H v5 (scP (un * cD rows c) (cX rows c))
theorem FndV.same {un : Int} {rows : List (List (Int × Int))} {H H' : Hp} {v : V} (s : Same H H') : ∀ {o : Option Cand}, FndV K un rows H v o → FndV K un rows H' v o
  | none, h => h
  | some c, ⟨t, v1, v2, v3, v4, v5, e, h, h1, h2, h3, h4, h5⟩ => ⟨t, v1, v2, v3, v4, v5, e, same_tup s h, h1.same s, h2.same s, h3.same s, h4.same s, h5.same s⟩
theorem low_lt2 {a u b v : Int} (hu : 0 < u) (hv : 0 < v) : fLt (low a u) (low b v) = decide (a * v < b * u) := by
  obtain ⟨g, A, U, g0, rfl, rfl, U0, e1⟩ := low_form (t := a) hu
  obtain ⟨k, B, V, k0, rfl, rfl, V0, e2⟩ := low_form (t := b) hv
  rw [e1, e2]
  unfold fLt
  refine decide_eq_decide.mpr ?_
  have e : g * A * (k * V) = (g * k) * (A * V) := by grind
  have f : k * B * (g * U) = (g * k) * (B * U) := by grind
  rw [e, f]
  exact (Int.mul_lt_mul_left (Int.mul_pos g0 k0)).symm
theorem ftD_pos {p a b : Int × Int} (h : a ≠ b) : 0 < ftD p a b := by
  unfold ftD
  split
  · decide
  · split
    · decide
    · exact ln_pos h
theorem mem_numP {α : Type} {pss : List (List α)} {n : Nat} {q : Nat × Nat} (h1 : q.1 < n) (h2 : q.2 < (pss.getD q.1 []).length) : q ∈ numP pss n := by
  unfold numP
  rw [List.mem_flatMap]
  exact ⟨q.1, List.mem_range.mpr h1, List.mem_map.mpr ⟨q.2, List.mem_range.mpr h2, rfl⟩⟩
theorem fcs_getD {un : Int} {rows : List (List (Int × Int))} (m : Nat) : (fcs un rows).getD m [] = (rows.getD m []).map (scP un) := by
  unfold fcs
  rw [List.getD_eq_getElem?_getD, List.getD_eq_getElem?_getD, List.getElem?_map]
  cases rows[m]? <;> rfl
theorem side_row {un : Int} {rows : List (List (Int × Int))} {p : Nat × Nat} (h : SideOf (fcs un rows) p) : p.1 < rows.length ∧ p.2 < (rows.getD p.1 []).length ∧ rows.getD p.1 [] ∈ rows := by
  obtain ⟨h1, h2⟩ := h
  rw [fcs_getD, List.length_map] at h2
  unfold fcs at h1
  rw [List.length_map] at h1
  exact ⟨h1, h2, List.mem_of_getElem? (getD_some h1)⟩
theorem fcs_three {un : Int} {rows : List (List (Int × Int))} (ok : GRows un rows) : ∀ ps ∈ fcs un rows, 3 ≤ ps.length := fun ps hp => by
  obtain ⟨r, hr, rfl⟩ := List.mem_map.mp hp
  rw [List.length_map]
  exact ok.three r hr
theorem Best.mono {rows : List (List (Int × Int))} {V V' : Cand → Prop} (h : ∀ c, V' c ↔ V c) {o : Option Cand} (b : Best rows V o) : Best rows V' o := by
  cases o with
  | none => exact fun c hc => b c ((h c).mp hc)
  | some d => exact ⟨(h d).mpr b.1, fun c hc => b.2 c ((h c).mp hc)⟩
theorem leC_trans {rows : List (List (Int × Int))} {a b c : Cand} (ha : 0 < cD rows a) (hb : 0 < cD rows b) (hc : 0 < cD rows c) (h1 : leC rows a b) (h2 : leC rows b c) : leC rows a c := by
  unfold leC at *
  have m1 := Int.mul_le_mul_of_nonneg_right h1 (Int.le_of_lt hc)
  have m2 := Int.mul_le_mul_of_nonneg_right h2 (Int.le_of_lt ha)
  refine Int.le_of_mul_le_mul_right (a := cD rows b) ?_ hb
  have e1 : cN rows a * cD rows c * cD rows b = cN rows a * cD rows b * cD rows c := by grind
  have e2 : cN rows c * cD rows a * cD rows b = cN rows c * cD rows b * cD rows a := by grind
  have e3 : cN rows b * cD rows a * cD rows c = cN rows b * cD rows c * cD rows a := by grind
  omega
def pickC (rows : List (List (Int × Int))) (d : Cand) : Option Cand → Cand
  | none => d
  | some e => if cN rows d * cD rows e < cN rows e * cD rows d then d else e
theorem Best.step {rows : List (List (Int × Int))} {V V' : Cand → Prop} {d : Cand} (hD : ∀ c, V' c → 0 < cD rows c) (h : ∀ c, V' c ↔ V c ∨ c = d) {o : Option Cand} (b : Best rows V o) : Best rows V' (some (pickC rows d o)) := by
  have vd : V' d := (h d).mpr (.inr rfl)
  have rfl' : ∀ c, leC rows c c := fun c => Int.le_refl _
  cases o with
  | none =>
    refine ⟨vd, fun c hc => ?_⟩
    rcases (h c).mp hc with k | rfl
    · exact absurd k (b c)
    · exact rfl' _
  | some e =>
    have ve : V' e := (h e).mpr (.inl b.1)
    show Best rows V' (some (if cN rows d * cD rows e < cN rows e * cD rows d then d else e))
    by_cases k : cN rows d * cD rows e < cN rows e * cD rows d
    · rw [if_pos k]
      have de : leC rows d e := Int.le_of_lt k
      refine ⟨vd, fun c hc => ?_⟩
      rcases (h c).mp hc with g | rfl
      · exact leC_trans (hD d vd) (hD e ve) (hD c hc) de (b.2 c g)
      · exact rfl' _
    · rw [if_neg k]
      refine ⟨ve, fun c hc => ?_⟩
      rcases (h c).mp hc with g | rfl
      · exact b.2 c g
      · unfold leC; omega
theorem ftN_sm {un : Int} (u0 : 0 < un) (u1 : un < 1000) {p a b : Int × Int} (hab : a ≠ b) (np : NearZ p) (na : NearZ a) (nb : NearZ b) : Sm 300 (low (ftN p a b) (ftD p a b * (un * un))) := by
  have b1 := ft_bds np na nb
  have b2 := ft_bds np na np
  have b3 := ft_bds np nb np
  have w2 := Int.mul_pos u0 u0
  have d0 := ftD_pos (p := p) hab
  have e : (2 : Nat) ^ 248 = 2 ^ 124 * 2 ^ 124 := by decide
  have hN : (ftN p a b).natAbs < 2 ^ 248 := by
    unfold ftN
    split
    · exact Nat.lt_of_lt_of_le b2.2.1 (by decide)
    · split
      · exact Nat.lt_of_lt_of_le b3.2.1 (by decide)
      · rw [Int.natAbs_mul, e]
        exact Nat.mul_lt_mul'' b1.2.2 b1.2.2
  have hD : (ftD p a b).natAbs < 2 ^ 124 := by
    unfold ftD
    split
    · decide
    · split
      · decide
      · exact b1.2.1
  have hu : (un * un).natAbs < 2 ^ 124 := Nat.lt_of_lt_of_le (show (un * un).natAbs < 2 ^ 20 by
    rw [Int.natAbs_mul, show (2 : Nat) ^ 20 = 2 ^ 10 * 2 ^ 10 by decide]
    exact Nat.mul_lt_mul'' (show un.natAbs < 2 ^ 10 by omega) (show un.natAbs < 2 ^ 10 by omega)) (by decide)
  have hDu : (ftD p a b * (un * un)).natAbs < 2 ^ 248 := by
    rw [Int.natAbs_mul, e]
    exact Nat.mul_lt_mul'' hD hu
  have m := Int.mul_pos d0 w2
  exact low_sm (by omega) (Nat.lt_of_lt_of_le hN (by decide)) (Nat.lt_of_lt_of_le hDu (by decide))
def stepC (un : Int) (rows : List (List (Int × Int))) (q : Nat × Nat) (o : Option Cand) (p : Nat × Nat) : Option Cand := match socL (fcs un rows) p q with
  | none => o
  | some one => some (pickC rows ⟨one, p, q⟩ o)
def foldC (un : Int) (rows : List (List (Int × Int))) (L : List (Nat × Nat)) (M : List (Nat × Nat)) : Option Cand := M.foldl (fun o q => L.foldl (stepC un rows q) o) none
/-- the gap that is told -/
def gapC (un : Int) (rows : List (List (Int × Int))) : Option Cand := foldC un rows (numP (fcs un rows) (fcs un rows).length) (numP (fcs un rows) (fcs un rows).length)
theorem fold_take {α β : Type} {f : β → α → β} {b : β} {l : List α} {i : Nat} {x : α} (h : l[i]? = some x) : (l.take (i + 1)).foldl f b = f ((l.take i).foldl f b) x := by
  rw [List.take_add_one, h, List.foldl_append]
  rfl
def spGap (K : PySem.W.Frag) (CF CL CG : Addr) : Sp := fun vs H Q _ => ∃ l us un rows, vs = [.ref l] ∧ LotAt K CF CL H l us (fcs un rows) ∧ GRows un rows ∧
  ∀ H', Same H H' → ((∀ c, ¬ IsC (fcs un rows) c) → gapC un rows = none → Q .non H') ∧ (∀ c g, gapC un rows = some c → IsC (fcs un rows) c → (∀ d, IsC (fcs un rows) d → leC rows c d) → (lexP c.one c.at' = true → GapAt K CG H' g (sqC un rows c) (toI c.one) (toI c.at') (scP un (crZ' rows c.cor)) (scP (un * cD rows c) (cX rows c))) →
    (lexP c.one c.at' = false → GapAt K CG H' g (sqC un rows c) (toI c.at') (toI c.one) (scP (un * cD rows c) (cX rows c)) (scP un (crZ' rows c.cor))) → Q (.ref g) H')
theorem ok_gap (T : Txt K mg A) : FnOk PG w K mg base CX0 10 A.f_gap A.d_gap ["lot"] (spGap K A.C_Fence A.C_Lot A.C_Gap) := by
  refine T.gap.F.ok sc_gap (fun vs H Q E h => ?_) (fun cdv A' outer s H vs Q E hr h => ?_)
  · obtain ⟨_, _, _, _, rfl, _⟩ := h; rfl
  · obtain ⟨l, us, un, rows, rfl, hl, ok, ret⟩ := h
    refine ⟨_, (pss_cons (ps_expr (pe_call (ok_check_lot T) (hr.mono (by decide)) (by rfl) T.check_lot.g T.check_lot.F.kp T.check_lot.b .nil pass0 (pa_cons (pv 0) pa_nil)))
      (pss_cons (ps_set (i := 1) sc_gap.nd rfl (.inl rfl) pe_non)
      (pss_cons (ps_for PassesOwn.never rfl (pi_tup (pe_fld (pv 0) rfl)) (pg_name (i := 2) sc_gap.nd rfl (.inl rfl)) (pss_cons (ps_set (i := 3) sc_gap.nd rfl (.inl rfl) (pe_meth (pv 0) T.cl_Lot T.me_side (ok_Lot_side T) (hr.mono (by decide)) T.Lot_side.b .nil pass0 (pa_cons (pv 2) pa_nil)))
      (pss_one (ps_for PassesOwn.never rfl (pi_tup (pe_fld (pv 0) rfl)) (pg_tup rfl (pgs_cons (pg_name (i := 4) sc_gap.nd rfl (.inl rfl)) (pgs_cons (pg_name (i := 5) sc_gap.nd rfl (.inl rfl)) pgs_nil))) (pss_cons (ps_set (i := 6) sc_gap.nd rfl (.inl rfl) (pe_call (ok__side_of_corner T) (hr.mono (by decide)) (by rfl) T._side_of_corner.g T._side_of_corner.F.kp T._side_of_corner.b .nil pass0 (pa_cons (pv 0) (pa_cons (pv 4) (pa_cons (pv 5) (pa_cons (pv 2) pa_nil))))))
      (pss_cons (ps_if (pt_cmpR op_isN (pv 6) pe_non (nomark _)) (pss_one ps_continue) pss_nil)
      (pss_cons (ps_set (i := 7) sc_gap.nd rfl (.inl rfl) (pe_ix ix_tup (pe_fld (pe_ix ix_tup (pe_fld (pv 0) rfl) (pv 4) (fun _ _ => rfl)) rfl) (pv 5) (fun _ _ => rfl)))
      (pss_cons (ps_asg (pe_call (ok__nearest T) (hr.mono (by decide)) (by rfl) T._nearest.g T._nearest.F.kp T._nearest.b .nil pass0 (pa_cons (pv 7) (pa_cons (pv 3) pa_nil))) (pg_tup rfl (pgs_cons (pg_name (i := 8) sc_gap.nd rfl (.inl rfl)) (pgs_cons (pg_name (i := 9) sc_gap.nd rfl (.inl rfl)) pgs_nil))))
      (pss_one (ps_if (PW.pt (pw_or (pt_cmpR op_isN (pv 1) pe_non (nomark _)) (pw_or1 (pt_val (pe_call (ok_is_below T) (hr.mono (by decide)) (by rfl) T.is_below.g T.is_below.F.kp T.is_below.b .nil pass0 (pa_cons (pv 8) (pa_cons (pe_ix ix_tup (pv 1) pe_int (fun _ _ => rfl)) pa_nil))))))) (pss_one (ps_set (i := 1) sc_gap.nd rfl (.inl rfl) (pe_tup (pa_cons (pv 8) (pa_cons (pv 6) (pa_cons (pv 7) (pa_cons (pv 2) (pa_cons (pv 9) pa_nil)))))))) pss_nil))))))))))
      (pss_cons (ps_if (pt_cmpR op_isN (pv 1) pe_non (nomark _)) (pss_one (ps_ret pe_non)) pss_nil)
      (pss_one (ps_ret (pe_call (ok_ordered_gaps T) (hr.mono (by decide)) (by rfl) T.ordered_gaps.g T.ordered_gaps.F.kp T.ordered_gaps.b .nil pass0 (pa_cons (pv 1) pa_nil)))))))), ?_⟩
    refine seq_by fun N hN => ?_
    walk_at "vc"
    refine ⟨l, us, _, rfl, hl, ?_⟩
    subst hN
    refine seq_by fun N hN => ?_
    walk_at "vc"
    subst hN
    refine seq_by fun N hN => ?_
    obtain ⟨dx, fs, b, h1, h2, h3, h4, h5, ⟨c, ws, h6, h7, h8⟩, h9⟩ := id hl
    have f3 := fcs_three ok
    generalize hL : numP (fcs un rows) (fcs un rows).length = L at *
    have sideOf : ∀ {i : Nat} {q : Nat × Nat}, L[i]? = some q → SideOf (fcs un rows) q := fun e => by
      have := numP_mem (pss := fcs un rows) (n := (fcs un rows).length) (q := _) (by rw [hL]; exact List.mem_of_getElem? e)
      exact this
    have inL : ∀ q, SideOf (fcs un rows) q → ∃ k, k < L.length ∧ L[k]? = some q := fun q hq => by
      have : q ∈ L := by rw [← hL]; exact mem_numP hq.1 hq.2
      obtain ⟨k, hk, e⟩ := List.mem_iff_getElem.mp this
      exact ⟨k, hk, by rw [List.getElem?_eq_getElem hk, e]⟩
    refine ⟨_, rfl, l, A.C_Lot, dx, fs, .ref c, rfl, h1, T.cl_Lot, T.no_Lot_sides, h6, c, rfl, ⟨ws, h7⟩, for_tup (xs := ws) (fun i σ H3 => ∃ v p2 p3 p4 p5 p6 p7 p8 p9 o, σ = [some (.ref l), some v, p2, p3, p4, p5, p6, p7, p8, p9] ∧ Same H H3 ∧ FndV K un rows H3 v o ∧ Best rows (fun d => IsC (fcs un rows) d ∧ ∃ k, k < i ∧ L[k]? = some d.at') o ∧ o = foldC un rows L (L.take i)) ?_ ?_ ?_ ?_⟩
    · exact ⟨_, _, _, _, _, _, _, _, _, none, rfl, Same.refl _, rfl, fun d ⟨_, k, h, _⟩ => by omega, rfl⟩
    · rintro i σ H3 _ ⟨_, _, _, _, _, _, _, _, _, _, rfl, s3, _⟩
      exact same_tup s3 h7
    · rintro i x σ H3 hx ⟨v, p2, p3, p4, p5, p6, p7, p8, p9, o, rfl, s3, fv, be, eo⟩
      obtain ⟨q, hq, hxq⟩ := h8.of hx
      have sq := sideOf hq
      obtain ⟨r1, r2, rm⟩ := side_row sq
      simp only [gName, List.set]
      refine seq_by fun N2 hN2 => ?_
      walk_at "vc"
      simp only [tMeth]
      walk_at "vc"
      have hps : (fcs un rows)[q.1]? = some ((rows.getD q.1 []).map (scP un)) := by rw [← fcs_getD]; exact getD_some sq.1
      refine ⟨dx, fs, s3 _ _ h1, h9 _ (by decide) (by decide), l, x, us, q.1, q.2, _, _, _, rfl, hl.same s3, NumV.same s3 hxq, hps, side_sc un r2, fun H4 u s4 hu => ?_⟩
      have s34 := s3.trans s4
      subst hN2
      have hab := ok.ne _ rm q.2
      have na : NearZ (crZ' rows q) := ok.near _ rm _ (cyc_mem (by omega) _)
      have nb : NearZ (enZ rows q) := ok.near _ rm _ (cyc_mem (by omega) _)
      refine ⟨_, rfl, l, A.C_Lot, dx, fs, .ref c, rfl, s34 _ _ h1, T.cl_Lot, T.no_Lot_sides, h6, c, rfl, ⟨ws, same_tup s34 h7⟩, for_tup (xs := ws) (fun j σ H5 => ∃ v p4 p5 p6 p7 p8 p9 o, σ = [some (.ref l), some v, some x, some u, p4, p5, p6, p7, p8, p9] ∧ Same H4 H5 ∧ FndV K un rows H5 v o ∧ Best rows (fun d => IsC (fcs un rows) d ∧ ((∃ k, k < i ∧ L[k]? = some d.at') ∨ (L[i]? = some d.at' ∧ ∃ k, k < j ∧ L[k]? = some d.cor))) o ∧ o = (L.take j).foldl (stepC un rows q) (foldC un rows L (L.take i))) ?_ ?_ ?_ ?_⟩
      · refine ⟨v, _, _, _, _, _, _, o, rfl, Same.refl _, FndV.same s4 fv, be.mono fun d => ⟨fun ⟨hd, h⟩ => ?_, fun ⟨hd, h⟩ => ⟨hd, .inl h⟩⟩, eo⟩
        rcases h with h | ⟨_, k, hk, _⟩
        · exact ⟨hd, h⟩
        · omega
      · rintro j σ H5 _ ⟨_, _, _, _, _, _, _, _, rfl, s5, _⟩
        exact same_tup (s34.trans s5) h7
      · rintro j y σ H5 hy ⟨v, p4, p5, p6, p7, p8, p9, o, rfl, s5, fv, be, eo2⟩
        obtain ⟨p, hp, hyp⟩ := h8.of hy
        have sp := sideOf hp
        have s45 := s34.trans s5
        obtain ⟨yt, rfl, hyt⟩ := id hyp
        refine ⟨yt, _, rfl, same_tup s45 hyt, rfl, _, _, rfl, _, _, rfl, rfl, ?_⟩
        simp only [List.set]
        refine seq_by fun N3 hN3 => ?_
        walk_at "vc"
        refine ⟨l, x, us, _, p, q, rfl, hl.same s45, f3, NumV.same s45 hxq, sp, sq, fun H6 s6 => ⟨fun hn => ?_, fun one w hs hw => ?_⟩⟩
        · show N3 _ _
          subst hN3
          refine seq_by fun N4 hN4 => ?_
          walk_at "vc"
          unfold tCont
          refine ⟨v, _, _, _, _, _, _, rfl, s5.trans s6, o, FndV.same s6 fv, be.mono fun d => ⟨fun ⟨hd, h⟩ => ?_, fun ⟨hd, h⟩ => ⟨hd, ?_⟩⟩, by rw [fold_take hp, ← eo2]; unfold stepC; rw [hn]⟩
          · rcases h with h | ⟨h, k, hk, e⟩
            · exact ⟨hd, .inl h⟩
            · rcases Nat.lt_or_ge k j with c | c
              · exact ⟨hd, .inr ⟨h, k, c, e⟩⟩
              · have : k = j := by omega
                subst this
                rw [hp] at e
                rw [hq] at h
                have e := Option.some.inj e
                have h := Option.some.inj h
                have := hd.2.2
                rw [← e, ← h, hn] at this
                cases this
          · rcases h with h | ⟨h, k, hk, e⟩
            · exact .inl h
            · exact .inr ⟨h, k, by omega, e⟩
        · show N3 _ _
          subst hN3
          refine seq_by fun N4 hN4 => ?_
          walk_at "vc"
          obtain ⟨wt, rfl, hwt⟩ := id hw
          rw [if_neg (by intro h; cases h)]
          have s36 := s45.trans s6
          obtain ⟨r1', r2', rm'⟩ := side_row sp
          have hps' : (fcs un rows)[p.1]? = some ((rows.getD p.1 []).map (scP un)) := by rw [← fcs_getD]; exact getD_some sp.1
          obtain ⟨fv', hfv', z, rfl, hF⟩ := (h4.imp fun v y k => k.same s36 : Each (FenceV K A.C_Fence H6) us (fcs un rows)).at hps'
          obtain ⟨dy, fy, ca, cus, _, _, g1, g2, g3, g4, _⟩ := id hF
          have hcp : ((rows.getD p.1 []).map (scP un))[p.2]? = some (scP un (crZ' rows p)) := by rw [List.getElem?_map, cyc_lt r2']; rfl
          obtain ⟨cv, hcv, hpp⟩ := g4.at hcp
          have np : NearZ (crZ' rows p) := ok.near _ rm' _ (cyc_mem (by omega) _)
          show N4 _ _
          subst hN4
          refine seq_by fun N5 hN5 => ?_
          walk_at "vc"
          refine ⟨_, rfl, l, A.C_Lot, dx, fs, .ref b, rfl, s36 _ _ h1, T.cl_Lot, T.no_Lot_fences, h2, _, rfl, ixT (same_tup s36 h3) (atI_nat hfv') ⟨z, A.C_Fence, dy, fy, _, rfl, g1, T.cl_Fence, T.no_Fence_corners, g2, ixT g3 (atI_nat hcv) ?_⟩⟩
          show N5 _ _
          subst hN5
          refine seq_by fun N6 hN6 => ?_
          walk_at "vc"
          refine ⟨cv, u, un, _, _, _, rfl, hpp, hu.same (s5.trans s6), ok.un0, ok.un1, hab, np, na, nb, fun H7 t sqv thv s7 ht hsq hth => ?_⟩
          refine ⟨t, rfl, _, ht, rfl, _, _, rfl, _, _, rfl, rfl, ?_⟩
          show N6 _ _
          subst hN6
          have s57 := (s5.trans s6).trans s7
          have s37 := s36.trans s7
          have fv7 := FndV.same (s6.trans s7) fv
          have wD : 0 < cD rows ⟨one, p, q⟩ := ftD_pos hab
          have w2 := Int.mul_pos ok.un0 ok.un0
          have isC : IsC (fcs un rows) ⟨one, p, q⟩ := ⟨sp, sq, hs⟩
          have iff' : ∀ d : Cand, (IsC (fcs un rows) d ∧ ((∃ k, k < i ∧ L[k]? = some d.at') ∨ (L[i]? = some d.at' ∧ ∃ k, k < j + 1 ∧ L[k]? = some d.cor))) ↔ (IsC (fcs un rows) d ∧ ((∃ k, k < i ∧ L[k]? = some d.at') ∨ (L[i]? = some d.at' ∧ ∃ k, k < j ∧ L[k]? = some d.cor))) ∨ d = ⟨one, p, q⟩ := fun d => by
            constructor
            · rintro ⟨hd, h | ⟨h, k, hk, e⟩⟩
              · exact .inl ⟨hd, .inl h⟩
              · rcases Nat.lt_or_ge k j with c | c
                · exact .inl ⟨hd, .inr ⟨h, k, c, e⟩⟩
                · have : k = j := by omega
                  subst this
                  rw [hp] at e
                  rw [hq] at h
                  have e := Option.some.inj e
                  have h := Option.some.inj h
                  have h2 := hd.2.2
                  rw [← e, ← h, hs] at h2
                  have h2 := Option.some.inj h2
                  obtain ⟨d1, d2, d3⟩ := d
                  dsimp only at e h h2
                  rw [e, h, h2]
                  exact .inr rfl
            · rintro (⟨hd, h | ⟨h, k, hk, e⟩⟩ | rfl)
              · exact ⟨hd, .inl h⟩
              · exact ⟨hd, .inr ⟨h, k, by omega, e⟩⟩
              · exact ⟨isC, .inr ⟨hq, j, by omega, hp⟩⟩
          have posC : ∀ d : Cand, IsC (fcs un rows) d → 0 < cD rows d := fun d hd => ftD_pos (by
            obtain ⟨_, _, m⟩ := side_row hd.2.1
            exact ok.ne _ m _)
          have eN : (L.take (j + 1)).foldl (stepC un rows q) (foldC un rows L (L.take i)) = some (pickC rows ⟨one, p, q⟩ o) := by
            rw [fold_take hp, ← eo2]
            unfold stepC
            rw [hs]
          have be' := Best.step (d := ⟨one, p, q⟩) (fun d hd => posC d hd.1) iff' be
          walk_at "vc"
          have new : ∀ (G : Hp) (p' : Addr), Same H7 G → G p' = none → FndV K un rows (upd G p' (.tup [sqv, .ref wt, cv, x, thv])) (.ref p') (some ⟨one, p, q⟩) := fun G p' sG hp' => by
            have sN := sG.trans (same_upd (o := .tup [sqv, .ref wt, cv, x, thv]) hp')
            exact ⟨p', _, _, _, _, _, rfl, st_of upd_same, hsq.same sN, NumV.same (s7.trans sN) hw, hpp.same (s7.trans sN), NumV.same (s37.trans sN) hxq, hth.same sN⟩
          cases o with
          | none =>
            obtain rfl : v = .non := fv7
            rw [if_pos rfl]
            exact ⟨by decide, fun p' hp' => ⟨s57.trans (same_upd hp'), _, new H7 p' (Same.refl _) hp', be', eN.symm⟩⟩
          | some e =>
            obtain ⟨t', w1, w2', w3, w4, w5, rfl, ht', k1, k2, k3, k4, k5⟩ := id fv7
            rw [if_neg (by intro h; cases h)]
            have ie : IsC (fcs un rows) e := be.1.1
            obtain ⟨_, e2, em⟩ := side_row ie.1
            obtain ⟨_, f2, fm⟩ := side_row ie.2.1
            have se : Sm 300 (sqC un rows e) := ftN_sm ok.un0 ok.un1 (ok.ne _ fm _) (ok.near _ em _ (cyc_mem (by omega) _)) (ok.near _ fm _ (cyc_mem (by omega) _)) (ok.near _ fm _ (cyc_mem (by omega) _))
            have sd : Sm 300 (sqC un rows ⟨one, p, q⟩) := ftN_sm ok.un0 ok.un1 hab np na nb
            refine ixT ht' rfl ⟨sqv, w1, sqC un rows ⟨one, p, q⟩, sqC un rows e, rfl, hsq, k1, sd.up (by decide), se.up (by decide), ?_⟩
            have pe := posC e ie
            have m1 := Int.mul_pos wD w2
            have m2 := Int.mul_pos pe w2
            have ed : fLt (sqC un rows ⟨one, p, q⟩) (sqC un rows e) = decide (cN rows ⟨one, p, q⟩ * cD rows e < cN rows e * cD rows ⟨one, p, q⟩) := by
              unfold sqC
              rw [low_lt2 m1 m2]
              refine decide_eq_decide.mpr ?_
              rw [← Int.mul_assoc, ← Int.mul_assoc (cN rows e)]
              exact Int.mul_lt_mul_right w2
            rw [ed]
            refine ⟨_, rfl, ?_⟩
            have bp : Best rows (fun d => IsC (fcs un rows) d ∧ ((∃ k, k < i ∧ L[k]? = some d.at') ∨ (L[i]? = some d.at' ∧ ∃ k, k < j + 1 ∧ L[k]? = some d.cor))) (some (if cN rows ⟨one, p, q⟩ * cD rows e < cN rows e * cD rows ⟨one, p, q⟩ then ⟨one, p, q⟩ else e)) := be'
            have eN : (L.take (j + 1)).foldl (stepC un rows q) (foldC un rows L (L.take i)) = some (if cN rows ⟨one, p, q⟩ * cD rows e < cN rows e * cD rows ⟨one, p, q⟩ then ⟨one, p, q⟩ else e) := eN
            split
            · rename_i c
              rw [if_pos (of_decide_eq_true c)] at bp eN
              exact ⟨by decide, fun p' hp' => ⟨s57.trans (same_upd hp'), _, new H7 p' (Same.refl _) hp', bp, eN.symm⟩⟩
            · rename_i c
              rw [if_neg (fun h => c (decide_eq_true h))] at bp eN
              exact ⟨s57, _, fv7, bp, eN.symm⟩
      · rintro σ H5 ⟨v, p4, p5, p6, p7, p8, p9, o, rfl, s5, fv, be, eo2⟩
        refine ⟨v, _, _, _, _, _, _, _, _, o, rfl, s34.trans s5, fv, be.mono fun d => ⟨fun ⟨hd, k, hk, e⟩ => ⟨hd, ?_⟩, fun ⟨hd, h⟩ => ⟨hd, ?_⟩⟩, by
          rw [h8.1, List.take_length] at eo2
          unfold foldC at eo2 ⊢
          rw [fold_take hq]
          exact eo2⟩
        · rcases Nat.lt_or_ge k i with c' | c'
          · exact .inl ⟨k, c', e⟩
          · have : k = i := by omega
            subst this
            obtain ⟨m, hm, em⟩ := inL d.cor hd.1
            exact .inr ⟨e, m, by rw [h8.1]; exact hm, em⟩
        · rcases h with ⟨k, hk, e⟩ | ⟨e, _⟩
          · exact ⟨k, by omega, e⟩
          · exact ⟨i, by omega, e⟩
    · rintro σ H3 ⟨v, p2, p3, p4, p5, p6, p7, p8, p9, o, rfl, s3, fv, be, eo⟩
      have eo : gapC un rows = o := by
        rw [h8.1, List.take_length] at eo
        unfold gapC
        rw [hL, eo]
      have be := be.mono (V' := IsC (fcs un rows)) fun d => ⟨fun hd => ⟨hd, by
        obtain ⟨m, hm, em⟩ := inL d.at' hd.2.1
        exact ⟨m, by rw [h8.1]; exact hm, em⟩⟩, fun h => h.1⟩
      show N _ _
      subst hN
      refine seq_by fun N2 hN2 => ?_
      walk_at "vc"
      cases o with
      | none =>
        obtain rfl : v = .non := fv
        rw [if_pos rfl]
        exact (ret H3 s3).1 be eo
      | some d =>
        obtain ⟨t', w1, w2', w3, w4, w5, rfl, ht', k1, k2, k3, k4, k5⟩ := id fv
        rw [if_neg (by intro h; cases h)]
        subst hN2
        walk_at "vc"
        exact ⟨t', w1, w2', w3, w4, w5, _, _, _, _, _, rfl, ht', k1, k2, k3, k4, k5, fun H' g s' g1 g2 => (ret H' (s3.trans s')).2 d g eo be.1 be.2 g1 g2⟩
end
end Odd
/-! type(x) of an instance of an own class; x is x -/
namespace Odd
open PySem PySem.Spec PyProof.Rows L2
theorem call_type_ins {prog : Program} {w : World} {A : Around} {E : Value → Shared → Prop} {s : Shared} {a C : Addr} {o : Obj} {Q : Value → Shared → Prop} (hx : s.heap.get? a = some o) (hc : o.cls = .ref C) (hq : Q (.ref C) s) :
    wpAny (model prog w) A (call (.type "type") [.ref a]) Q E s := by
  refine wpAny_call (codeAny_of_tree ?_)
  show wpAny _ _ (callAny (.type "type") _) _ _ _
  refine wpAny_pure ⟨Code.quiet_builtin _ (by decide +kernel), codeAny_builtin F.entry_type_call ?_⟩
  rw [Around.under_plain (weight_type_call_type "type" [.ref a] []) (units_type_call_type "type" [.ref a] [])]
  repeat (any_goals (first | assumption | wp_step))
  rw [hc]
  exact hq
def rTypI : List V → Hp → VK → Prop := fun xs H Q => ∃ a C dx fs, xs = [.ref a] ∧ H a = some (.ins C dx fs) ∧ Q (.ref C) H
theorem call_typeI {X : Cx} : CallR X (.type "type") rTypI := by
  intro pins s σ H xs us Q I r h
  obtain ⟨a, C, dx, fs, rfl, e, q⟩ := h
  obtain ⟨u, rfl, rx⟩ := vals1 r
  obtain rfl : u = Value.ref a := rx
  obtain ⟨mA, O, _⟩ := ins_get I.hok e
  exact call_type_ins O.obj rfl ⟨.ref C, H, I, rfl, q⟩
def rIsS : R2 := fun x y H Q => ∃ a, x = .ref a ∧ y = .ref a ∧ Q (.bl true) H
theorem op_isS {X : Cx} : OpR X (compareOp .Is) rIsS := by
  intro pins s σ H x y v u Q I rx ry h
  obtain ⟨a, rfl, rfl, q⟩ := h
  cases rx
  cases ry
  exact wpAny_is_ref_self (fin_bl I q rfl)
end Odd
namespace Odd
open PySem PySem.Spec PyProof.Rows L2
local macro_rules | `(tactic| walk_at "vc") => `(tactic| simp only [tSeq, tAsg, gName, tCB, tCons, tNil, tVar, tC, tOp, tUn, rI0, rI, rU, tTup, tLst, tIfS, tTest, tB, tRet, tNext, rGcd, L2.start, List.map, List.set, List.replicate, List.cons_append, List.nil_append, List.length_cons, List.length_nil, List.getElem?_cons_succ, List.getElem?_cons_zero, Option.some.injEq, exists_eq_left', exists_eq_left, List.append_nil, List.cons.injEq, V.int.injEq, exists_and_left, and_true, true_and, and_assoc, exists_const, V.bl.injEq, V.ref.injEq, Nat.sub_self, Nat.reduceAdd, Nat.reduceSub, List.replicate_succ, List.replicate_zero, tAnd, tOr, tNot, tAndV, tOrV, tNotV, tIf, tCall, tCallK, tDrop, rEq, rNe, decide_eq_true_eq, Bool.not_eq_true', decide_eq_false_iff_not, Bool.false_eq_true, if_true, if_false, reduceIte, reduceCtorEq, tMkLow, tRaiseLow, rIsB, rNotB, tBreak, tPar, gSub, rSetL, tChain, gTup, gCons, gNil, gSeq, cx_K, cx_Kn, optV, V.str.injEq, Bool.not_true, Bool.not_false, false_and, and_false, or_false, false_or, exists_false, tCallN, tCallS, tPairs])
theorem bt_type : bootBuiltins "type" = some (.type "type") := by decide +kernel
section
variable {w : World} {K : PySem.W.Frag} {mg : Str → Option Value} {base : Heap} {A : Ads}
def dPrI (q : Int × Int) : PyData := .tuple [.int q.1, .int q.2]
def dPPI (p : P2) : PyData := .tuple [dPrI p.1, dPrI p.2]
def dGap (sq one other : Int × Int) (he th : P2) : PyData := .tuple [dPrI sq, dPrI one, dPrI other, dPPI he, dPPI th]
theorem dp_prI {H : Hp} {v : V} {q : Int × Int} (h : Pr K H v q) : Dp K H v (dPrI q) := by
  obtain ⟨a, rfl, h⟩ := h
  exact .tup h (.cons (.int _) (.cons (.int _) .nil))
theorem dp_ppI {H : Hp} {v : V} {p : P2} (h : PP K H v p) : Dp K H v (dPPI p) := by
  obtain ⟨a, x, y, rfl, h, hx, hy⟩ := h
  exact .tup h (.cons (dp_prI hx) (.cons (dp_prI hy) .nil))
theorem dp_gapT {H : Hp} {sq one other : Int × Int} {he th : P2} {t : Addr} {a1 a2 a3 a4 a5 : V} (ht : SqT K H t [a1, a2, a3, a4, a5]) (g1 : Pr K H a1 sq) (g2 : Pr K H a2 one) (g3 : Pr K H a3 other) (g4 : PP K H a4 he) (g5 : PP K H a5 th) : Dp K H (.ref t) (dGap sq one other he th) :=
  .tup ht (.cons (dp_prI g1) (.cons (dp_prI g2) (.cons (dp_prI g3) (.cons (dp_ppI g4) (.cons (dp_ppI g5) .nil)))))
theorem sh_gap (sq one other : Int × Int) (he th : P2) : SeqAt.shaped (.tuple [.str "gap", dGap sq one other he th]) = true := by
  have s : PyData.strOk ("gap" : Str) = true := by decide +kernel
  unfold SeqAt.shaped dGap dPPI dPrI
  simp only [PyData.canLay0, PyData.canLayAll0, PyData.depth, PyData.depthAll, s]
  rfl
theorem eqv_gap (sq one other : Int × Int) (he th : P2) : PyData.eqv (.tuple [.str "gap", dGap sq one other he th]) (.tuple [.str "gap", dGap sq one other he th]) = true := by
  simp [dGap, dPPI, dPrI, PyData.eqv, PyData.eqvAll]
def spGapEq (K : PySem.W.Frag) (C : Addr) : Sp := fun vs H Q _ => ∃ x y sq one other he th, vs = [.ref x, .ref y] ∧ GapAt K C H x sq one other he th ∧ GapAt K C H y sq one other he th ∧ RetV H (.bl true) Q
theorem ok__are_equal (T : Txt K mg A) : FnOk PG w K mg base CX0 1 A.f__are_equal A.d__are_equal ["one", "other"] (spGapEq K A.C_Gap) := by
  refine T._are_equal.F.ok sc__are_equal (fun vs H Q E h => ?_) (fun cdv A' outer s H vs Q E hr h => ?_)
  · obtain ⟨_, _, _, _, _, _, _, rfl, _⟩ := h; rfl
  · obtain ⟨x, y, sq, one, other, he, th, rfl, ⟨dx, fs, t, a1, a2, a3, a4, a5, h1, h2, h3, h4, f1, f2, f3, f4, f5, g1, g2, g3, g4, g5⟩, ⟨dy, gs, u, b1, b2, b3, b4, b5, j1, j2, j3, j4, e1, e2, e3, e4, e5, k1, k2, k3, k4, k5⟩, ret⟩ := h
    refine ⟨_, (pss_one (ps_ret (pe_and (pe_cmpR op_isS (pe_callTy call_typeI (by rfl) T.n_type bt_type (pa_cons (pv 0) pa_nil)) (pe_callTy call_typeI (by rfl) T.n_type bt_type (pa_cons (pv 1) pa_nil)) (nomark _)) (pe_one (pe_cmpR (op_eqD hr.units) (pe_tup (pa_cons (pe_fld (pv 0) rfl) (pa_cons (pe_fld (pv 0) rfl) pa_nil))) (pe_tup (pa_cons (pe_fld (pv 1) rfl) (pa_cons (pe_fld (pv 1) rfl) pa_nil))) (nomark _)))))), ?_⟩
    walk_at "vc"
    refine ⟨x, A.C_Gap, dx, fs, rfl, h1, y, A.C_Gap, dy, gs, rfl, j1, A.C_Gap, rfl, rfl, _, rfl, ?_⟩
    rw [if_pos rfl]
    refine ⟨_, rfl, x, A.C_Gap, dx, fs, _, rfl, h1, T.cl_Gap, T.no_Gap_word, h2, _, rfl, x, A.C_Gap, dx, fs, _, rfl, h1, T.cl_Gap, T.no_Gap_parts, h3, by decide, fun p hp => ?_⟩
    have s1 := same_upd (o := .tup [.str "gap", .ref t]) hp
    refine ⟨_, rfl, y, A.C_Gap, dy, gs, _, rfl, s1 _ _ j1, T.cl_Gap, T.no_Gap_word, j2, _, rfl, y, A.C_Gap, dy, gs, _, rfl, s1 _ _ j1, T.cl_Gap, T.no_Gap_parts, j3, by decide, fun p2 hp2 => ?_⟩
    have s2 := same_upd (o := .tup [.str "gap", .ref u]) hp2
    have s12 := s1.trans s2
    refine ⟨.tuple [.str "gap", dGap sq one other he th], .tuple [.str "gap", dGap sq one other he th], .tup (same_tup s2 (st_of upd_same)) (.cons (.str _) (.cons ?_ .nil)), .tup (st_of upd_same) (.cons (.str _) (.cons ?_ .nil)), sh_gap _ _ _ _ _, sh_gap _ _ _ _ _, ?_⟩
    · exact dp_gapT (same_tup s12 h4) (g1.same s12) (g2.same s12) (g3.same s12) (g4.same s12) (g5.same s12)
    · exact dp_gapT (same_tup s12 j4) (k1.same s12) (k2.same s12) (k3.same s12) (k4.same s12) (k5.same s12)
    · rw [eqv_gap]
      exact ret _ s12
theorem ok_Paper_eq (T : Txt K mg A) : FnOk PG w K mg base CX0 2 A.f_Paper_eq A.d_Paper_eq ["self", "other"] (spGapEq K A.C_Gap) := by
  refine T.Paper_eq.F.ok sc_Paper_eq (fun vs H Q E h => ?_) (fun cdv A' outer s H vs Q E hr h => ?_)
  · obtain ⟨_, _, _, _, _, _, _, rfl, _⟩ := h; rfl
  · obtain ⟨x, y, sq, one, other, he, th, rfl, h1, h2, ret⟩ := h
    refine ⟨_, (pss_one (ps_ret (pe_call (ok__are_equal T) (hr.mono (by decide)) (by rfl) T._are_equal.g T._are_equal.F.kp T._are_equal.b .nil pass0 (pa_cons (pv 0) (pa_cons (pv 1) pa_nil))))), ?_⟩
    walk_at "vc"
    exact ⟨x, y, sq, one, other, he, th, rfl, h1, h2, ret⟩
end
end Odd
namespace Odd
open PySem PySem.Spec PyProof.Rows L2
local macro_rules | `(tactic| walk_at "vc") => `(tactic| simp only [tSeq, tAsg, gName, tCB, tCons, tNil, tVar, tC, tOp, tUn, rI0, rI, rU, tTup, tLst, tIfS, tTest, tB, tRet, tNext, rGcd, L2.start, List.map, List.set, List.replicate, List.cons_append, List.nil_append, List.length_cons, List.length_nil, List.getElem?_cons_succ, List.getElem?_cons_zero, Option.some.injEq, exists_eq_left', exists_eq_left, List.append_nil, List.cons.injEq, V.int.injEq, exists_and_left, and_true, true_and, and_assoc, exists_const, V.bl.injEq, V.ref.injEq, Nat.sub_self, Nat.reduceAdd, Nat.reduceSub, List.replicate_succ, List.replicate_zero, tAnd, tOr, tNot, tAndV, tOrV, tNotV, tIf, tCall, tCallK, tDrop, rEq, rNe, decide_eq_true_eq, Bool.not_eq_true', decide_eq_false_iff_not, Bool.false_eq_true, if_true, if_false, reduceIte, reduceCtorEq, tMkLow, tRaiseLow, rIsB, rNotB, tBreak, tPar, gSub, rSetL, tChain, gTup, gCons, gNil, gSeq, cx_K, cx_Kn, optV, V.str.injEq, Bool.not_true, Bool.not_false, false_and, and_false, or_false, false_or, exists_false, tCallN, tCallS, tPairs])
section
variable {P : Program} {w : World} {K : PySem.W.Frag} {mg : Str → Option Value} {base : Heap} {A : Ads}


/-- the urn: its cells, how many were begun, what is left of a great one; so many draws are left -/
def Urn (H : Hp) (u : Addr) (k : Nat) : Prop := ∃ (c : Addr) (n r : Int) (cells : List Int), H u = some (.lst [.ref c, .int n, .int r]) ∧ H c = some (.lst (cells.map V.int)) ∧ 0 ≤ n ∧ n + k ≤ 1000000 ∧ 0 ≤ r
theorem Urn.mono {H : Hp} {u : Addr} {j k : Nat} (h : Urn H u k) (l : j ≤ k) : Urn H u j := by
  obtain ⟨c, n, r, cells, h1, h2, h3, h4, h5⟩ := h
  exact ⟨c, n, r, cells, h1, h2, h3, by omega, h5⟩
theorem Urn.same {H H' : Hp} {u : Addr} {k : Nat} (h : Urn H u k) (s : Same H H') : Urn H' u k := by
  obtain ⟨c, n, r, cells, h1, h2, h3⟩ := h
  exact ⟨c, n, r, cells, s _ _ h1, s _ _ h2, h3⟩
theorem Urn.at {H : Hp} {u : Addr} {k : Nat} (h : Urn H u k) : ∃ c ys, H u = some (.lst (.ref c :: ys)) := by
  obtain ⟨c, n, r, cells, h1, _⟩ := h
  exact ⟨c, _, h1⟩
theorem div100 {r many : Int} (h1 : 0 < many) (h2 : many < 1267650600228229401496703205376) : CDivX r many := by
  have e : (2 : Nat) ^ 100 = 1267650600228229401496703205376 := by decide +kernel
  exact divx (b := 100) (by omega) (by rw [e]; omega) (by decide) (by decide)
def spSpill : Sp := fun vs H Q _ => ∃ (u : Addr) (many : Int) (k : Nat), vs = [.ref u, .int many] ∧ 0 < many ∧ many < 1267650600228229401496703205376 ∧ Urn H u (k + 1) ∧ ∀ H' (m : Int), But u H H' → Urn H' u k → 0 ≤ m → m < many → Q (.int m) H'
theorem ok__law_dig (T : Txt K mg A) : FnOk P w K mg base CX0 1 A.f__law_dig A.d__law_dig ["ditch", "many"] spSpill := by
  refine T._law_dig.F.ok sc__law_dig (fun vs H Q E h => ?_) (fun cdv A' outer s H vs Q E hr h => ?_)
  · obtain ⟨_, _, _, rfl, _⟩ := h; rfl
  · obtain ⟨u, many, k, rfl, hm, hm2, ⟨c, n, r, cells, h1, h2, h3, h4, h5⟩, q⟩ := h
    refine ⟨_, (pss_cons (ps_if (pt_cmpR op_gt (pe_ix ix_list (pv 0) pe_int (fun _ _ => rfl)) pe_int (nomark _)) (pss_cons (ps_set (i := 2) sc__law_dig.nd rfl (.inl rfl) (pe_callTy call_int1 (by rfl) T.n_int bt_int (pa_cons (pe_ix ix_list (pv 0) pe_int (fun _ _ => rfl)) pa_nil)))
      (pss_cons (ps_asg (pe_op op_fdivX (pv 2) (pv 1)) (pg_sub (pv 0) pe_int set_list))
      (pss_one (ps_ret (pe_op op_mod (pe_callTy call_int1 (by rfl) T.n_int bt_int (pa_cons (pv 2) pa_nil)) (pv 1)))))) pss_nil)
      (pss_cons (ps_set (i := 3) sc__law_dig.nd rfl (.inl rfl) (pe_ix ix_list (pv 0) pe_int (fun _ _ => rfl)))
      (pss_cons (ps_asg (pe_op op_add (pv 3) pe_int) (pg_sub (pv 0) pe_int set_list))
      (pss_cons (ps_set (i := 4) sc__law_dig.nd rfl (.inl rfl) (pe_op op_add (pe_op op_mul pe_int (pv 3)) pe_int))
      (pss_cons (ps_if (pt_cmpR (op_neD hr.units) (pe_ix ix_list (pv 0) pe_int (fun _ _ => rfl)) (pe_lst pa_nil) (nomark _)) (pss_one (ps_set (i := 4) sc__law_dig.nd rfl (.inl rfl) (pe_ix ix_list (pe_ix ix_list (pv 0) pe_int (fun _ _ => rfl)) (pe_op op_mod (pe_callTy call_int1 (by rfl) T.n_int bt_int (pa_cons (pv 3) pa_nil)) (pe_callB call_len_seq (by rfl) T.n_len bt_len (pa_cons (pe_ix ix_list (pv 0) pe_int (fun _ _ => rfl)) pa_nil))) (fun _ _ => rfl)))) pss_nil)
      (pss_cons (ps_if (PW.pt (pw_and (pt_cmpR op_lt (pv 3) (pe_callB call_len_seq (by rfl) T.n_len bt_len (pa_cons (pe_ix ix_list (pv 0) pe_int (fun _ _ => rfl)) pa_nil)) (nomark _)) (pw_and1 (pt_cmpR op_ge (pe_callB call_abs (by rfl) T.n_abs bt_abs (pa_cons (pv 4) pa_nil)) (pe_op op_pow pe_int pe_int) (nomark _))))) (pss_cons (ps_set (i := 2) sc__law_dig.nd rfl (.inl rfl) (pe_op op_add (pe_op op_mul pe_int (pe_op op_sub (pe_callB call_abs (by rfl) T.n_abs bt_abs (pa_cons (pv 4) pa_nil)) (pe_op op_pow pe_int pe_int))) (pe_callTy call_int1 (by rfl) T.n_int bt_int (pa_cons (pe_cmpR op_lt (pv 4) pe_int (nomark _)) pa_nil))))
      (pss_cons (ps_asg (pe_op op_fdivX (pe_callTy call_int1 (by rfl) T.n_int bt_int (pa_cons (pv 2) pa_nil)) (pv 1)) (pg_sub (pv 0) pe_int set_list))
      (pss_one (ps_ret (pe_op op_mod (pe_callTy call_int1 (by rfl) T.n_int bt_int (pa_cons (pv 2) pa_nil)) (pv 1)))))) pss_nil)
      (pss_cons (ps_set (i := 5) sc__law_dig.nd rfl (.inl rfl) (pe_op op_mod (pe_callTy call_int1 (by rfl) T.n_int bt_int (pa_cons (pe_op op_pow (pe_op op_add (pe_op op_add (pe_op op_mod (pe_callTy call_int1 (by rfl) T.n_int bt_int (pa_cons (pv 4) pa_nil)) pe_int) (pe_op op_mul pe_int (pv 3))) pe_int) pe_int) pa_nil)) pe_int))
      (pss_cons (ps_set (i := 5) sc__law_dig.nd rfl (.inl rfl) (pe_op op_mod (pe_callTy call_int1 (by rfl) T.n_int bt_int (pa_cons (pe_op op_pow (pe_op op_add (pe_op op_add (pe_op op_mul (pv 5) (pe_op op_add (pe_op op_mul pe_int (pv 3)) pe_int)) (pe_op op_mul (pe_op op_mul pe_int (pv 3)) (pv 3))) pe_int) pe_int) pa_nil)) pe_int))
      (pss_one (ps_ret (pe_op op_mod (pe_callTy call_int1 (by rfl) T.n_int bt_int (pa_cons (pe_op op_fdiv (pv 5) pe_int) pa_nil)) (pv 1)))))))))))), ?_⟩
    have huc : u ≠ c := ne_of h1 h2 (by cases cells <;> (intro z; cases z))
    refine seq_by fun N hN => ?_
    walk_at "vc"
    refine ixL (sl_of h1) rfl ⟨_, rfl, ?_⟩
    split
    · -- a digit of what is left
      rename_i hr0
      refine ixL (sl_of h1) rfl ?_
      have dv : CDivX r many := div100 hm hm2
      refine .inl ⟨r, rfl, dv, ?_⟩
      rw [Int.fdiv_eq_ediv_of_nonneg _ (by omega)]
      refine ⟨_, h1, _, rfl, hm, ?_⟩
      refine q _ _ (but_upd h1) ⟨c, n, r / many, cells, upd_same, ?_, h3, by omega, Int.ediv_nonneg h5 (by omega)⟩ (Int.emod_nonneg _ (by omega)) (Int.emod_lt_of_pos _ hm)
      rw [upd_ne huc.symm]
      exact h2
    · -- at = urn[1]; urn[1] = at + 1; cell = ..
      rename_i hr0
      subst hN
      refine seq_by fun N hN => ?_
      walk_at "vc"
      refine ixL (sl_of h1) rfl ?_
      subst hN
      refine seq_by fun N hN => ?_
      walk_at "vc"
      refine ⟨_, h1, _, rfl, ?_⟩
      subst hN
      refine seq_by fun N hN => ?_
      walk_at "vc"
      refine ⟨.inl (by decide), ?_⟩
      subst hN
      refine seq_by fun N hN => ?_
      have b1 : But u H (upd H u (.lst [.ref c, .int (n + 1), .int r])) := but_upd h1
      have rest : ∀ (cell : Int) H2, But u H H2 → H2 u = some (.lst [.ref c, .int (n + 1), .int r]) → H2 c = some (.lst (cells.map V.int)) → N [some (.ref u), some (.int many), none, some (.int n), some (.int cell), none] H2 := by
        intro cell H2 b2 g1 g2
        subst hN
        refine seq_by fun N hN => ?_
        have last : N [some (.ref u), some (.int many), none, some (.int n), some (.int cell), none] H2 := by
          subst hN
          refine seq_by fun N hN => ?_
          walk_at "vc"
          have e1 : 0 ≤ cell % 2147483563 := Int.emod_nonneg _ (by decide)
          have e2 : cell % 2147483563 < 2147483563 := Int.emod_lt_of_pos _ (by decide)
          refine ⟨by decide, .inl (by decide), ⟨by decide, by decide, by omega⟩, by decide, ?_⟩
          generalize hmix : (cell % 2147483563 + 77813 * n + 6421) ^ Int.toNat 5 % 2147483497 = mixed
          have f1 : 0 ≤ mixed := by rw [← hmix]; exact Int.emod_nonneg _ (by decide)
          have f2 : mixed < 2147483497 := by rw [← hmix]; exact Int.emod_lt_of_pos _ (by decide)
          subst hN
          refine seq_by fun N hN => ?_
          walk_at "vc"
          have m1 : mixed * (2 * n + 6421) ≤ 2147483497 * 2006421 := Int.mul_le_mul (by omega) (by omega) (by omega) (by decide)
          have m2 : 0 ≤ mixed * (2 * n + 6421) := Int.mul_nonneg f1 (by omega)
          have m3 : 77813 * n * n ≤ 77813000000 * 1000000 := Int.mul_le_mul (by omega) (by omega) (by omega) (by decide)
          have m4 : 0 ≤ 77813 * n * n := Int.mul_nonneg (by omega) (by omega)
          refine ⟨.inl (by decide), .inl ⟨by omega, by omega⟩, .inl (by decide), .inl ⟨by omega, by omega⟩, ⟨by decide, by decide, by omega⟩, by decide, ?_⟩
          subst hN
          walk_at "vc"
          refine ⟨⟨by decide, by decide⟩, hm, ?_⟩
          exact q _ _ b2 ⟨c, n + 1, r, cells, g1, g2, by omega, by omega, h5⟩ (Int.emod_nonneg _ (by omega)) (Int.emod_lt_of_pos _ hm)
        walk_at "vc"
        refine ixL (sl_of g1) rfl ⟨c, rfl, _, .inl (sl_of g2), ?_⟩
        have p18 : CPow 10 18 := ⟨by decide, by decide, by decide⟩
        split
        · refine ⟨p18, ?_⟩
          generalize (10 : Int) ^ Int.toNat 18 = e
          have hs : 0 ≤ (if cell < 0 then 1 else 0 : Int) := by split <;> decide
          generalize (if cell < 0 then 1 else 0 : Int) = sg at *
          generalize (if cell < 0 then -cell else cell) = ab at *
          split
          · rename_i hc
            refine ⟨p18, .inl (by decide), div100 hm hm2, _, g1, _, rfl, hm, ?_⟩
            rw [Int.fdiv_eq_ediv_of_nonneg _ (by omega)]
            refine q _ _ (b2.trans (but_upd g1)) ⟨c, n + 1, _, cells, upd_same, ?_, by omega, by omega, Int.ediv_nonneg ?_ (by omega)⟩ (Int.emod_nonneg _ (by omega)) (Int.emod_lt_of_pos _ hm)
            · rw [upd_ne huc.symm]
              exact g2
            · omega
          · exact last
        · exact last
      walk_at "vc"
      have g1 : upd H u (.lst [.ref c, .int (n + 1), .int r]) u = some (.lst [.ref c, .int (n + 1), .int r]) := upd_same
      have g2 : upd H u (.lst [.ref c, .int (n + 1), .int r]) c = some (.lst (cells.map V.int)) := by rw [upd_ne huc.symm]; exact h2
      refine ixL (sl_of g1) rfl ⟨by decide, fun p hp => ?_⟩
      have sp := same_upd (o := .lst []) hp
      have g3 := sp _ _ g1
      have g4 := sp _ _ g2
      refine ⟨_, _, dp_ints (sl_of g4), dp_ints (ns := []) (sl_of upd_same), sh_ints _, sh_ints [], _, rfl, ?_⟩
      split
      · rename_i hne
        have hcells : cells ≠ [] := by
          intro z
          subst z
          exact absurd hne (by decide)
        have hl : 0 < cells.length := List.length_pos_iff.mpr hcells
        refine ixL (sl_of g3) rfl (ixL (sl_of g3) rfl ⟨c, rfl, _, .inl (sl_of g4), ?_⟩)
        rw [List.length_map]
        have a1 : 0 ≤ n % (cells.length : Int) := Int.emod_nonneg _ (by omega)
        have a2 : n % (cells.length : Int) < cells.length := Int.emod_lt_of_pos _ (by omega)
        obtain ⟨j, hj⟩ := Int.eq_ofNat_of_zero_le a1
        have hjl : j < cells.length := by omega
        refine ⟨by omega, ?_⟩
        rw [hj]
        refine ixL (sl_of g4) (v := .int cells[j]) (atI_nat ?_) ?_
        · rw [List.getElem?_map, List.getElem?_eq_getElem hjl]
          rfl
        · exact rest _ _ (b1.trans (same_but sp)) g3 g4
      · exact rest _ _ (b1.trans (same_but sp)) g3 g4

/-! ### Euclid -/
theorem euc_step {a b i : Nat} (hb : b ≠ 0) (h : (i = 0 ∧ b < 2 ^ 190) ∨ (b ≤ a ∧ a * b * 2 ^ i < 2 ^ 381)) : a % b ≤ b ∧ b * (a % b) * 2 ^ (i + 1) < 2 ^ 381 := by
  have hm : a % b < b := Nat.mod_lt _ (by omega)
  refine ⟨by omega, ?_⟩
  rcases h with ⟨rfl, h⟩ | ⟨h1, h2⟩
  · have l : b * (a % b) < 2 ^ 380 := by
      rw [show (2 : Nat) ^ 380 = 2 ^ 190 * 2 ^ 190 from (Nat.pow_add 2 190 190)]
      exact Nat.mul_lt_mul'' h (Nat.lt_trans hm h)
    have : b * (a % b) * 2 ^ (0 + 1) = b * (a % b) * 2 := rfl
    rw [this]
    have e : (2 : Nat) ^ 381 = 2 ^ 380 * 2 := rfl
    rw [e]
    omega
  · have l1 : 2 * (a % b) ≤ a := by
      have e := Nat.div_add_mod a b
      have q : 1 ≤ a / b := (Nat.one_le_div_iff (by omega)).mpr h1
      have : b * 1 ≤ b * (a / b) := Nat.mul_le_mul_left _ q
      omega
    have l2 : b * (a % b) * 2 ≤ a * b := by
      rw [Nat.mul_assoc, Nat.mul_comm (a % b) 2, Nat.mul_comm a b]
      exact Nat.mul_le_mul_left _ l1
    have e : b * (a % b) * 2 ^ (i + 1) = b * (a % b) * 2 * 2 ^ i := by
      rw [Nat.pow_succ, Nat.mul_comm (2 ^ i) 2, ← Nat.mul_assoc]
    rw [e]
    exact Nat.lt_of_le_of_lt (Nat.mul_le_mul_right _ l2) h2
theorem euc_end {a b : Nat} (h : b ≤ a ∧ a * b * 2 ^ 400 < 2 ^ 381) : b = 0 := by
  rcases Nat.eq_zero_or_pos b with z | z
  · exact z
  · exfalso
    have h1 : 1 ≤ a * b := Nat.mul_pos (by omega) z
    have h2 : 1 * 2 ^ 400 ≤ a * b * 2 ^ 400 := Nat.mul_le_mul_right _ h1
    have h3 : (2 : Nat) ^ 381 ≤ 1 * 2 ^ 400 := by decide +kernel
    omega
theorem gcd_step (a b : Nat) : Nat.gcd b (a % b) = Nat.gcd a b := by
  rw [Nat.gcd_comm b (a % b), ← Nat.gcd_rec, Nat.gcd_comm]
theorem abs_nat (a : Int) : (if a < 0 then -a else a) = (a.natAbs : Int) := by split <;> omega
def spUrn (K : PySem.W.Frag) : Sp := fun vs H Q _ => ∃ (a : Addr) (ns : List Int), vs = [.ref a] ∧ SqL K H a (ns.map V.int) ∧ ns.length ≤ 63 ∧ ∀ H' u, Same H H' → Urn H' u 900000 → Q (.ref u) H'
theorem ok__law_ditch (T : Txt K mg A) : FnOk P w K mg base CX0 1 A.f__law_ditch A.d__law_ditch ["script"] (spUrn K) := by
  refine T._law_ditch.F.ok sc__law_ditch (fun vs H Q E h => ?_) (fun cdv A' outer s H vs Q E hr h => ?_)
  · obtain ⟨_, _, rfl, _⟩ := h; rfl
  · obtain ⟨a, ns, rfl, hS, hl, q⟩ := h
    refine ⟨_, (pss_one (ps_ret (pe_lst (pa_cons (pe_lc (own := [("cell", 1)]) (g := gName 1) (tt := tYes) rfl sc__law_ditch.nd (pi_list (pe_slice sl_list (pv 0) po_none (po_some pe_int))) (blkOk_by (N := ["script", "cell"]) (sc := defScope s__law_ditch) (by decide +kernel)) (fun _ _ _ _ _ => pg_name (i := 1) sc__law_ditch.nd rfl (Or.inl rfl)) (fun _ _ _ _ _ => pts_nil) (fun _ _ _ _ _ => pe_callTy call_int1 (by rfl) T.n_int bt_int (pa_cons (pv 1) pa_nil))) (pa_cons pe_int (pa_cons pe_int pa_nil)))))), ?_⟩
    refine ⟨_, rfl, 60, rfl, a, _, rfl, hS, fun p hp => ?_⟩
    obtain ⟨cs, hcs, hcl⟩ : ∃ cs : List Int, cutV (ns.map V.int) none (some 60) = cs.map V.int ∧ cs.length ≤ 63 := by
      refine ⟨(ns.drop (HT.sIx (ns.map V.int).length 0 none)).take (HT.sIx (ns.map V.int).length (ns.map V.int).length (some 60) - HT.sIx (ns.map V.int).length 0 none), ?_, ?_⟩
      · unfold cutV
        rw [List.map_take, List.map_drop]
      · rw [List.length_take, List.length_drop]
        omega
    have sp := same_upd (o := .lst (cutV (ns.map V.int) none (some 60))) hp
    refine ⟨p, rfl, ⟨_, sl_of upd_same⟩, fun D hD => ?_⟩
    have sD := same_upd (o := .lst []) hD
    have hpD : p ≠ D := ne_of_none (o := .lst (cutV (ns.map V.int) none (some 60))) upd_same hD
    refine lc_list (xs := cutV (ns.map V.int) none (some 60)) (fun i H2 => Same H H2 ∧ H2 p = some (.lst (cutV (ns.map V.int) none (some 60))) ∧ H2 D = some (.lst ((cs.take i).map V.int)) ∧ H D = none) ⟨sp.trans sD, sD _ _ upd_same, upd_same, sp.free hD⟩ (fun i H2 _ h => sl_of h.2.1) ?_ ?_
    · rintro i x H2 hx ⟨s2, e1, e2, e3⟩
      rw [hcs, List.getElem?_map] at hx
      cases ec : cs[i]? with
      | none => rw [ec] at hx; cases hx
      | some z =>
        rw [ec] at hx
        obtain rfl : V.int z = x := Option.some.inj hx
        refine ⟨rfl, ?_⟩
        simp only [tYes, if_true]
        refine ⟨_, rfl, .inl ⟨z, rfl, _, e2, ?_, ?_⟩⟩
        · rw [List.length_map, List.length_take]
          exact small1000 (by omega)
        · refine ⟨fun b o e => ?_, ?_, ?_, e3⟩
          · rw [upd_ne (ne_of_none e e3)]
            exact s2 _ _ e
          · rw [upd_ne hpD]
            exact e1
          · rw [upd_same, List.take_add_one, ec, List.map_append]
            rfl
    · rintro H2 ⟨s2, e1, e2, e3⟩
      refine ⟨(by show 3 ≤ sizeLine; decide), fun u hu => ?_⟩
      have hu2 := same_upd (o := .lst [.ref D, .int 0, .int 0]) hu
      exact q _ u (s2.trans hu2) ⟨D, 0, 0, _, upd_same, hu2 _ _ e2, by omega, by omega, by omega⟩
def spOneOf : Sp := fun vs H Q _ => ∃ (u p : Addr) (xs : List V) (k : Nat), vs = [.ref u, .ref p] ∧ p ≠ u ∧ H p = some (.lst xs) ∧ 0 < xs.length ∧ xs.length < 1073741824 ∧ Urn H u (k + 1) ∧ ∀ H' v, But u H H' → Urn H' u k → v ∈ xs → Q v H'
theorem ok__law_pick (T : Txt K mg A) : FnOk P w K mg base CX0 2 A.f__law_pick A.d__law_pick ["ditch", "some"] spOneOf := by
  refine T._law_pick.F.ok sc__law_pick (fun vs H Q E h => ?_) (fun cdv A' outer s H vs Q E hr h => ?_)
  · obtain ⟨_, _, _, _, rfl, _⟩ := h; rfl
  · obtain ⟨u, p, xs, k, rfl, hpu, hp, hl, hl2, hu, q⟩ := h
    refine ⟨_, (pss_one (ps_ret (pe_ix ix_list (pv 1) (pe_call (ok__law_dig T) (hr.mono (by decide)) (by rfl) T._law_dig.g T._law_dig.F.kp T._law_dig.b .nil pass0 (pa_cons (pv 0) (pa_cons (pe_callB call_len_seq (by rfl) T.n_len bt_len (pa_cons (pv 1) pa_nil)) pa_nil))) (fun _ _ => rfl)))), ?_⟩
    walk_at "vc"
    refine ⟨xs, .inl (sl_of hp), u, _, k, rfl, by omega, by omega, hu, fun H' m b hu' m0 m1 => ?_⟩
    obtain ⟨j, rfl⟩ := Int.eq_ofNat_of_zero_le m0
    have hj : j < xs.length := by omega
    exact ixL (sl_of (b.1 _ hpu _ hp)) (atI_nat (List.getElem?_eq_getElem hj)) (q _ _ b hu' (List.getElem_mem hj))

end
end Odd
namespace Odd
open PySem PySem.Spec PyProof.Rows L2
local macro_rules | `(tactic| walk_at "vc") => `(tactic| simp only [tSeq, tAsg, gName, tCB, tCons, tNil, tVar, tC, tOp, tUn, rI0, rI, rU, tTup, tLst, tIfS, tTest, tB, tRet, tNext, rGcd, L2.start, List.map, List.set, List.replicate, List.cons_append, List.nil_append, List.length_cons, List.length_nil, List.getElem?_cons_succ, List.getElem?_cons_zero, Option.some.injEq, exists_eq_left', exists_eq_left, List.append_nil, List.cons.injEq, V.int.injEq, exists_and_left, and_true, true_and, and_assoc, exists_const, V.bl.injEq, V.ref.injEq, Nat.sub_self, Nat.reduceAdd, Nat.reduceSub, List.replicate_succ, List.replicate_zero, tAnd, tOr, tNot, tAndV, tOrV, tNotV, tIf, tCall, tCallK, tDrop, rEq, rNe, decide_eq_true_eq, Bool.not_eq_true', decide_eq_false_iff_not, Bool.false_eq_true, if_true, if_false, reduceIte, reduceCtorEq, tMkLow, tRaiseLow, rIsB, rNotB, tBreak, tPar, gSub, rSetL, tChain, gTup, gCons, gNil, gSeq, cx_K, cx_Kn, optV, V.str.injEq, Bool.not_true, Bool.not_false, false_and, and_false, or_false, false_or, exists_false, tCallN, tCallS, tPairs])
section
variable {P : Program} {w : World} {K : PySem.W.Frag} {mg : Str → Option Value} {base : Heap} {A : Ads}
/-- a point of integers -/
def ZP (K : PySem.W.Frag) (H : Hp) (v : V) (p : Int × Int) : Prop := ∃ a, v = .ref a ∧ SqT K H a [.int p.1, .int p.2]
theorem ZP.same {H H' : Hp} {v : V} {p : Int × Int} (s : Same H H') (h : ZP K H v p) : ZP K H' v p := by
  obtain ⟨a, e, h⟩ := h
  exact ⟨a, e, same_tup s h⟩
theorem ZP.keep {H : Hp} {D : Addr} {acc acc' : List V} {v : V} {p : Int × Int} (hD : H D = some (.lst acc)) (h : ZP K H v p) : ZP K (upd H D (.lst acc')) v p := by
  obtain ⟨a, e, h⟩ := h
  exact ⟨a, e, keep_tup hD h⟩
theorem ZP.but {u : Addr} {H H' : Hp} {v : V} {p : Int × Int} {ys : List V} (s : But u H H') (hu : H u = some (.lst ys)) (h : ZP K H v p) : ZP K H' v p := by
  obtain ⟨a, e, h⟩ := h
  exact ⟨a, e, s.tup hu h⟩
theorem gcd_step14 (a b : Nat) : Nat.gcd b (a % b) = Nat.gcd a b := by
  rw [Nat.gcd_comm b (a % b), ← Nat.gcd_rec, Nat.gcd_comm]
theorem abs_nat14 (a : Int) : (if a < 0 then -a else a) = (a.natAbs : Int) := by split <;> omega
def spLow6 (K : PySem.W.Frag) : Sp := fun vs H Q _ => ∃ t u : Int, vs = [.int t, .int u] ∧ 0 < u ∧ u.natAbs < 2 ^ 8000 ∧ RetP K H (low t u) Q
theorem ok__law_low (T : Txt K mg A) : FnOk P w K mg base CX0 1 A.f__law_low A.d__law_low ["top", "under"] (spLow6 K) := by
  refine T._law_low.F.ok sc__law_low (fun vs H Q E h => ?_) (fun cdv A' outer s H vs Q E hr h => ?_)
  · obtain ⟨t, u, rfl, _⟩ := h; rfl
  · obtain ⟨t, u, rfl, hu, hb, q⟩ := h
    refine ⟨_, (pss_cons (ps_par (i := 2) (j := 3) rfl sc__law_low.nd rfl rfl (by decide) rfl rfl (pa_cons (pe_callB call_abs (by rfl) T.n_abs bt_abs (pa_cons (pv 0) pa_nil)) (pa_cons (pv 1) pa_nil)) rfl)
      (pss_cons (ps_while PassesOwn.never (pt_cmpR op_gt (pv 3) pe_int (nomark _)) (pss_one (ps_par (i := 2) (j := 3) rfl sc__law_low.nd rfl rfl (by decide) rfl rfl (pa_cons (pv 3) (pa_cons (pe_op op_mod (pe_callTy call_int1 (by rfl) T.n_int bt_int (pa_cons (pv 2) pa_nil)) (pv 3)) pa_nil)) rfl)))
      (pss_one (ps_ret (pe_tup (pa_cons (pe_op op_fdivX (pv 0) (pv 2)) (pa_cons (pe_op op_fdivX (pv 1) (pv 2)) pa_nil))))))), ?_⟩
    refine seq_by fun N hN => ?_
    walk_at "vc"
    rw [abs_nat14]
    obtain ⟨u', rfl⟩ := Int.eq_ofNat_of_zero_le (Int.le_of_lt hu)
    subst hN
    refine seq_by fun N hN => ?_
    refine ⟨fun m σ H' => H' = H ∧ ∃ x y : Nat, σ = [some (.int t), some (.int u'), some (.int x), some (.int y)] ∧ m = y ∧ Nat.gcd x y = Nat.gcd t.natAbs u', ⟨_, rfl, _, _, rfl, rfl, rfl⟩, ?_⟩
    rintro m σ H' ⟨rfl, x, y, rfl, rfl, hg⟩
    walk_at "vc"
    split
    · rename_i hm
      refine ⟨fun σ' H'' => H'' = H' ∧ ∃ x' y' : Nat, σ' = [some (.int t), some (.int u'), some (.int x'), some (.int y')] ∧ y' < m ∧ Nat.gcd x' y' = Nat.gcd t.natAbs u', ?_, hm, rfl, m, x % m, rfl, Nat.mod_lt _ (by omega), (gcd_step14 _ _).trans hg⟩
      rintro σ' H'' ⟨rfl, x', y', rfl, hl, hg'⟩
      exact ⟨y', hl, rfl, x', y', rfl, rfl, hg'⟩
    · rename_i hm
      have : m = 0 := by omega
      subst this
      rw [Nat.gcd_zero_right] at hg
      subst hN
      subst hg
      have hg0 : 0 < Nat.gcd t.natAbs u' := Nat.gcd_pos_of_pos_right _ (by omega)
      have hl : Nat.gcd t.natAbs u' ≤ u' := Nat.le_of_dvd (by omega) (Nat.gcd_dvd_right _ _)
      have hd : Nat.gcd t.natAbs u' < 2 ^ 8000 := Nat.lt_of_le_of_lt hl hb
      have d : ∀ x, CDivX x ((Nat.gcd t.natAbs u' : Nat) : Int) := fun x => divx (by omega) (b := 8000) hd (by decide) (by decide)
      walk_at "vc"
      refine ⟨d _, d _, by decide, fun p hp => q _ p (same_upd hp) (st_of ?_)⟩
      unfold low
      rw [if_neg (by omega), upd_same]
      rfl
end
end Odd
namespace Odd
open PySem PySem.Spec PyProof.Rows L2
local macro_rules | `(tactic| walk_at "vc") => `(tactic| simp only [tSeq, tAsg, gName, tCB, tCons, tNil, tVar, tC, tOp, tUn, rI0, rI, rU, tTup, tLst, tIfS, tTest, tB, tRet, tNext, rGcd, L2.start, List.map, List.set, List.replicate, List.cons_append, List.nil_append, List.length_cons, List.length_nil, List.getElem?_cons_succ, List.getElem?_cons_zero, Option.some.injEq, exists_eq_left', exists_eq_left, List.append_nil, List.cons.injEq, V.int.injEq, exists_and_left, and_true, true_and, and_assoc, exists_const, V.bl.injEq, V.ref.injEq, Nat.sub_self, Nat.reduceAdd, Nat.reduceSub, List.replicate_succ, List.replicate_zero, tAnd, tOr, tNot, tAndV, tOrV, tNotV, tIf, tCall, tCallK, tDrop, rEq, rNe, decide_eq_true_eq, Bool.not_eq_true', decide_eq_false_iff_not, Bool.false_eq_true, if_true, if_false, reduceIte, reduceCtorEq, tMkLow, tRaiseLow, rIsB, rNotB, tBreak, tPar, gSub, rSetL, tChain, gTup, gCons, gNil, gSeq, cx_K, cx_Kn, optV, V.str.injEq, Bool.not_true, Bool.not_false, false_and, and_false, or_false, false_or, exists_false, tCallN, tCallS, tPairs])
section
variable {P : Program} {w : World} {K : PySem.W.Frag} {mg : Str → Option Value} {base : Heap} {A : Ads}
def crZ (a b c : Int × Int) : Int := (b.1 - a.1) * (c.2 - a.2) - (b.2 - a.2) * (c.1 - a.1)
def SmZ (p : Int × Int) : Prop := p.1.natAbs < 2 ^ 1000 ∧ p.2.natAbs < 2 ^ 1000
def spTurn (K : PySem.W.Frag) : Sp := fun vs H Q _ => ∃ (va vb vc : V) (a b c : Int × Int), vs = [va, vb, vc] ∧ ZP K H va a ∧ ZP K H vb b ∧ ZP K H vc c ∧ SmZ a ∧ SmZ b ∧ SmZ c ∧ Q (.int (crZ a b c)) H
theorem ok__law_turn (T : Txt K mg A) : FnOk P w K mg base CX0 1 A.f__law_turn A.d__law_turn ["a", "b", "c"] (spTurn K) := by
  refine T._law_turn.F.ok sc__law_turn (fun vs H Q E h => ?_) (fun cdv A' outer s H vs Q E hr h => ?_)
  · obtain ⟨_, _, _, _, _, _, rfl, _⟩ := h; rfl
  · obtain ⟨va, vb, vc, a, b, c, rfl, ⟨pa, rfl, ha⟩, ⟨pb, rfl, hb⟩, ⟨pc, rfl, hc⟩, sa, sb, sc, q⟩ := h
    refine ⟨_, (pss_one (ps_ret (pe_op op_sub (pe_op op_mulW (pe_op op_sub (pe_ix ix_tup (pv 1) pe_int (fun _ _ => rfl)) (pe_ix ix_tup (pv 0) pe_int (fun _ _ => rfl))) (pe_op op_sub (pe_ix ix_tup (pv 2) pe_int (fun _ _ => rfl)) (pe_ix ix_tup (pv 0) pe_int (fun _ _ => rfl)))) (pe_op op_mulW (pe_op op_sub (pe_ix ix_tup (pv 1) pe_int (fun _ _ => rfl)) (pe_ix ix_tup (pv 0) pe_int (fun _ _ => rfl))) (pe_op op_sub (pe_ix ix_tup (pv 2) pe_int (fun _ _ => rfl)) (pe_ix ix_tup (pv 0) pe_int (fun _ _ => rfl))))))), ?_⟩
    walk_at "vc"
    have k : ∀ {x y u v : Int}, x.natAbs < 2 ^ 1000 → y.natAbs < 2 ^ 1000 → u.natAbs < 2 ^ 1000 → v.natAbs < 2 ^ 1000 → CMulW (x - y) (u - v) := by
      intro x y u v h1 h2 h3 h4
      have l : ∀ {i j : Int}, i.natAbs < 2 ^ 1000 → j.natAbs < 2 ^ 1000 → (i - j).natAbs < 2 ^ 1001 := fun {i j} h h' => by
        have e : (2 : Nat) ^ 1001 = 2 ^ 1000 + 2 ^ 1000 := by decide +kernel
        omega
      exact wide_mul (l h1 h2) (l h3 h4) (by decide) (by decide) (by decide)
    refine ixT hb rfl (ixT ha rfl ⟨_, rfl, _, rfl, ixT hc rfl (ixT ha rfl ⟨_, rfl, _, rfl, k sb.1 sa.1 sc.2 sa.2, ?_⟩)⟩)
    exact ixT hb rfl (ixT ha rfl ⟨_, rfl, _, rfl, ixT hc rfl (ixT ha rfl ⟨_, rfl, _, rfl, k sb.2 sa.2 sc.1 sa.1, q⟩)⟩)
def spOn (K : PySem.W.Frag) : Sp := fun vs H Q _ => ∃ (va vb vc : V) (a b c : Int × Int), vs = [va, vb, vc] ∧ ZP K H va a ∧ ZP K H vb b ∧ ZP K H vc c ∧ SmZ a ∧ SmZ b ∧ SmZ c ∧ Q (.bl (onB a b c)) H
theorem ok__law_on (T : Txt K mg A) : FnOk P w K mg base CX0 2 A.f__law_on A.d__law_on ["a", "b", "c"] (spOn K) := by
  refine T._law_on.F.ok sc__law_on (fun vs H Q E h => ?_) (fun cdv A' outer s H vs Q E hr h => ?_)
  · obtain ⟨_, _, _, _, _, _, rfl, _⟩ := h; rfl
  · obtain ⟨va, vb, vc, a, b, c, rfl, ha, hb, hc, sa, sb, sc, q⟩ := h
    refine ⟨_, (pss_one (ps_ret (pe_and (pe_cmpR op_eq (pe_call (ok__law_turn T) (hr.mono (by decide)) (by rfl) T._law_turn.g T._law_turn.F.kp T._law_turn.b .nil pass0 (pa_cons (pv 0) (pa_cons (pv 1) (pa_cons (pv 2) pa_nil)))) pe_int (nomark _)) (pe_one (pe_cmpR op_le (pe_op op_add (pe_op op_mulW (pe_op op_sub (pe_ix ix_tup (pv 2) pe_int (fun _ _ => rfl)) (pe_ix ix_tup (pv 0) pe_int (fun _ _ => rfl))) (pe_op op_sub (pe_ix ix_tup (pv 2) pe_int (fun _ _ => rfl)) (pe_ix ix_tup (pv 1) pe_int (fun _ _ => rfl)))) (pe_op op_mulW (pe_op op_sub (pe_ix ix_tup (pv 2) pe_int (fun _ _ => rfl)) (pe_ix ix_tup (pv 0) pe_int (fun _ _ => rfl))) (pe_op op_sub (pe_ix ix_tup (pv 2) pe_int (fun _ _ => rfl)) (pe_ix ix_tup (pv 1) pe_int (fun _ _ => rfl))))) pe_int (nomark _)))))), ?_⟩
    walk_at "vc"
    refine ⟨va, vb, vc, a, b, c, rfl, ha, hb, hc, sa, sb, sc, ?_⟩
    obtain ⟨pa, rfl, ha⟩ := ha
    obtain ⟨pb, rfl, hb⟩ := hb
    obtain ⟨pc, rfl, hc⟩ := hc
    have k : ∀ {x y u v : Int}, x.natAbs < 2 ^ 1000 → y.natAbs < 2 ^ 1000 → u.natAbs < 2 ^ 1000 → v.natAbs < 2 ^ 1000 → CMulW (x - y) (u - v) := by
      intro x y u v h1 h2 h3 h4
      have l : ∀ {i j : Int}, i.natAbs < 2 ^ 1000 → j.natAbs < 2 ^ 1000 → (i - j).natAbs < 2 ^ 1001 := fun {i j} h h' => by
        have e : (2 : Nat) ^ 1001 = 2 ^ 1000 + 2 ^ 1000 := by decide +kernel
        omega
      exact wide_mul (l h1 h2) (l h3 h4) (by decide) (by decide) (by decide)
    refine ⟨rfl, ?_⟩
    have cc : crZ a b c = GeoZ.cr a b c := rfl
    split
    · rename_i z
      injection z with z
      rw [cc] at z
      refine ixT hc rfl (ixT ha rfl ⟨_, rfl, _, rfl, ixT hc rfl (ixT hb rfl ⟨_, rfl, _, rfl, k sc.1 sa.1 sc.1 sb.1, ixT hc rfl (ixT ha rfl ⟨_, rfl, _, rfl, ixT hc rfl (ixT hb rfl ⟨_, rfl, _, rfl, k sc.2 sa.2 sc.2 sb.2, ?_⟩)⟩)⟩)⟩)
      have e : onB a b c = decide ((c.1 - a.1) * (c.1 - b.1) + (c.2 - a.2) * (c.2 - b.2) ≤ 0) := by
        unfold onB
        exact decide_eq_decide.mpr ⟨fun h => h.2, fun h => ⟨z, h⟩⟩
      rw [e] at q
      exact q
    · rename_i z
      have e : onB a b c = false := by
        unfold onB
        refine decide_eq_false fun h => z ?_
        rw [cc, h.1]
      rw [e] at q
      exact q
end
end Odd
namespace Odd
open PySem PySem.Spec PyProof.Rows L2
local macro_rules | `(tactic| walk_at "vc") => `(tactic| simp only [tSeq, tAsg, gName, tCB, tCons, tNil, tVar, tC, tOp, tUn, rI0, rI, rU, tTup, tLst, tIfS, tTest, tB, tRet, tNext, rGcd, L2.start, List.map, List.set, List.replicate, List.cons_append, List.nil_append, List.length_cons, List.length_nil, List.getElem?_cons_succ, List.getElem?_cons_zero, Option.some.injEq, exists_eq_left', exists_eq_left, List.append_nil, List.cons.injEq, V.int.injEq, exists_and_left, and_true, true_and, and_assoc, exists_const, V.bl.injEq, V.ref.injEq, Nat.sub_self, Nat.reduceAdd, Nat.reduceSub, List.replicate_succ, List.replicate_zero, tAnd, tOr, tNot, tAndV, tOrV, tNotV, tIf, tCall, tCallK, tDrop, rEq, rNe, decide_eq_true_eq, Bool.not_eq_true', decide_eq_false_iff_not, Bool.false_eq_true, if_true, if_false, reduceIte, reduceCtorEq, tMkLow, tRaiseLow, rIsB, rNotB, tBreak, tPar, gSub, rSetL, tChain, gTup, gCons, gNil, gSeq, cx_K, cx_Kn, optV, V.str.injEq, Bool.not_true, Bool.not_false, false_and, and_false, or_false, false_or, exists_false, tCallN, tCallS, tPairs])
section
variable {P : Program} {w : World} {K : PySem.W.Frag} {mg : Str → Option Value} {base : Heap} {A : Ads}
/-- a pair of two values -/
def Pr2 (K : PySem.W.Frag) (H : Hp) (v : V) (x : V × V) : Prop := ∃ a, v = .ref a ∧ SqT K H a [x.1, x.2]
/-- the sides of a row -/
def ringV {α : Type} (us : List α) : List (α × α) := us.zip (us.drop 1 ++ us.take 1)
theorem ringV_len {α : Type} (us : List α) : (ringV us).length = us.length := by
  unfold ringV
  rw [List.length_zip, List.length_append, List.length_drop, List.length_take]
  omega
def spRing (K : PySem.W.Frag) : Sp := fun vs H Q _ => ∃ a us, vs = [.ref a] ∧ H a = some (.lst us) ∧ 2 ≤ us.length ∧ us.length ≤ 40 ∧ ∀ H' b ws, Same H H' → H b = none → H' b = some (.lst ws) → Each (Pr2 K H') ws (ringV us) → Q (.ref b) H'
theorem ok__law_ring (T : Txt K mg A) : FnOk P w K mg base CX0 1 A.f__law_ring A.d__law_ring ["points"] (spRing K) := by
  refine T._law_ring.F.ok sc__law_ring (fun vs H Q E h => ?_) (fun cdv A' outer s H vs Q E hr h => ?_)
  · obtain ⟨_, _, rfl, _⟩ := h; rfl
  · obtain ⟨a, us, rfl, ha, h2, h40, q⟩ := h
    refine ⟨_, (pss_one (ps_ret (OZl.pe_listZip rfl (by rfl) T.n_list (by rfl) T.n_zip (pa_cons (pv 0) (pa_cons (pe_op op_cat (pe_slice sl_list (pv 0) (po_some pe_int) po_none) (pe_slice sl_list (pv 0) po_none (po_some pe_int))) pa_nil))))), ?_⟩
    walk_at "vc"
    simp only [OZl.tListZip]
    walk_at "vc"
    simp only [L2.tSl, tPart, tNoPart]
    walk_at "vc"
    have c1 : cutV us (some 1) none = us.drop 1 := by
      have e1 : HT.sIx us.length 0 (some 1) = 1 := (HT.sIx_nat us.length 0 1).trans (by omega)
      have e2 : HT.sIx us.length us.length none = us.length := rfl
      unfold cutV
      rw [e1, e2, List.take_of_length_le (by rw [List.length_drop]; exact Nat.le_refl _)]
    have c2 : cutV us none (some 1) = us.take 1 := by
      have e1 : HT.sIx us.length us.length (some 1) = 1 := (HT.sIx_nat us.length us.length 1).trans (by omega)
      have e2 : HT.sIx us.length 0 none = 0 := rfl
      unfold cutV
      rw [e1, e2]
      rfl
    refine ⟨a, us, rfl, sl_of ha, fun p hp => ?_⟩
    rw [c1]
    have s1 := same_upd (o := .lst (us.drop 1)) hp
    have h1 : upd H p (.lst (us.drop 1)) p = some (.lst (us.drop 1)) := upd_same
    generalize upd H p (.lst (us.drop 1)) = H1 at *
    refine ⟨a, us, rfl, sl_of (s1 _ _ ha), fun p2 hp2 => ?_⟩
    rw [c2]
    have s2 := same_upd (o := .lst (us.take 1)) hp2
    have h3 : upd H1 p2 (.lst (us.take 1)) p2 = some (.lst (us.take 1)) := upd_same
    generalize upd H1 p2 (.lst (us.take 1)) = H2 at *
    refine ⟨p, p2, _, _, rfl, rfl, s2 _ _ h1, h3, ?_, fun p3 hp3 => ?_⟩
    · rw [List.length_drop, List.length_take]
      exact Nat.le_of_lt (small1000 (by omega))
    have s3 := same_upd (o := .lst (us.drop 1 ++ us.take 1)) hp3
    have h4 : upd H2 p3 (.lst (us.drop 1 ++ us.take 1)) p3 = some (.lst (us.drop 1 ++ us.take 1)) := upd_same
    generalize upd H2 p3 (.lst (us.drop 1 ++ us.take 1)) = H3 at *
    have S := (s1.trans s2).trans s3
    refine ⟨p3, rfl, us, sl_of (S _ _ ha), _, sl_of h4, ?_, by omega, fun H4 t Ts ht k4 ht4 hl4 told => ?_⟩
    · rw [List.length_append, List.length_drop, List.length_take]
      omega
    · refine q _ _ _ (S.trans k4) (S.free ht) ht4 ⟨?_, fun i v x e1 e2 => ?_⟩
      · rw [List.length_map, ringV_len, hl4]
      · obtain ⟨U, hU, rfl⟩ : ∃ U, Ts[i]? = some U ∧ V.ref U = v := by simpa using e1
        obtain ⟨x1, y1, ex, ey, eU⟩ := told i U hU
        unfold ringV at e2
        rw [List.getElem?_zip_eq_some] at e2
        have e5 : x1 = x.1 := Option.some.inj (ex.symm.trans e2.1)
        have e6 : y1 = x.2 := Option.some.inj (ey.symm.trans e2.2)
        subst e5 e6
        exact ⟨U, rfl, st_of eU⟩
end
end Odd
namespace Odd
open PySem PySem.Spec PyProof.Rows L2
local macro_rules | `(tactic| walk_at "vc") => `(tactic| simp only [tSeq, tAsg, gName, tCB, tCons, tNil, tVar, tC, tOp, tUn, rI0, rI, rU, tTup, tLst, tIfS, tTest, tB, tRet, tNext, rGcd, L2.start, List.map, List.set, List.replicate, List.cons_append, List.nil_append, List.length_cons, List.length_nil, List.getElem?_cons_succ, List.getElem?_cons_zero, Option.some.injEq, exists_eq_left', exists_eq_left, List.append_nil, List.cons.injEq, V.int.injEq, exists_and_left, and_true, true_and, and_assoc, exists_const, V.bl.injEq, V.ref.injEq, Nat.sub_self, Nat.reduceAdd, Nat.reduceSub, List.replicate_succ, List.replicate_zero, tAnd, tOr, tNot, tAndV, tOrV, tNotV, tIf, tCall, tCallK, tDrop, rEq, rNe, decide_eq_true_eq, Bool.not_eq_true', decide_eq_false_iff_not, Bool.false_eq_true, if_true, if_false, reduceIte, reduceCtorEq, tMkLow, tRaiseLow, rIsB, rNotB, tBreak, tPar, gSub, rSetL, tChain, gTup, gCons, gNil, gSeq, cx_K, cx_Kn, optV, V.str.injEq, Bool.not_true, Bool.not_false, false_and, and_false, or_false, false_or, exists_false, tCallN, tCallS, tPairs])
theorem bt_sorted : bootBuiltins "sorted" = some (.builtin "sorted") := by decide +kernel
section
variable {P : Program} {w : World} {K : PySem.W.Frag} {mg : Str → Option Value} {base : Heap} {A : Ads}
theorem each_app {α : Type} {R : V → α → Prop} {us vs : List V} {xs ys : List α} (h1 : Each R us xs) (h2 : Each R vs ys) : Each R (us ++ vs) (xs ++ ys) := by
  refine ⟨by rw [List.length_append, List.length_append, h1.1, h2.1], fun i v x e1 e2 => ?_⟩
  by_cases c : i < us.length
  · rw [List.getElem?_append_left c] at e1
    rw [List.getElem?_append_left (by rw [← h1.1]; exact c)] at e2
    exact h1.2 i v x e1 e2
  · rw [List.getElem?_append_right (by omega)] at e1
    rw [List.getElem?_append_right (by rw [← h1.1]; omega), ← h1.1] at e2
    exact h2.2 _ v x e1 e2
/-- a comprehension over points, with a target of two names -/
theorem lc_zp {i j : Nat} {vs : List Nat} {σ : L2.St} {te : TE} {H1 : Hp} {d D : Addr} {us : List V} {ps : List (Int × Int)} {f : Int × Int → Int × Int} {Qd : Hp → Prop} (hd : H1 d = some (.lst us)) (he : Each (ZP K H1) us ps) (hD : H1 D = none) (hl : us.length < 1000)
    (hw : ∀ a b, wipe (((wipe σ vs).set i (some (.int a))).set j (some (.int b))) vs = wipe σ vs)
    (hs : ∀ (H2 : Hp) (p : Int × Int) (Q : VK), Same H1 H2 → p ∈ ps → (∀ y H4, Same H2 H4 → ZP K H4 y (f p) → Q y H4) → te (((wipe σ vs).set i (some (.int p.1))).set j (some (.int p.2))) H2 Q)
    (hq : ∀ H' ws, Same H1 H' → H' D = some (.lst ws) → Each (ZP K H') ws (ps.map f) → Qd H') :
    ∃ W : Nat → Nat → Hp → Prop, (∃ m, W 0 m (upd H1 D (.lst []))) ∧ ∀ k m H, W k m H →
      ((Itl K d).stop k H ∧ Qd H) ∨ ((Itl K d).go k H ∧ ∃ Nx : Hp → Prop, (∀ H', Nx H' → ∃ m', m' < m ∧ W (k + 1) m' H') ∧ ∀ x H', (Itl K d).yld k H x H' → gTup K 2 (gCons (gName i) (gCons (gName j) gNil)) x (wipe σ vs) H' fun σ2 H2 => wipe σ2 vs = wipe σ vs ∧ tYes σ2 H2 fun b H3 =>
        if b = true then te σ2 H3 fun y H4 => ∃ acc, H4 D = some (.lst acc) ∧ acc.length < sizeLine ∧ Nx (upd H4 D (.lst (acc ++ [y]))) else Nx H3) := by
  have sD := same_upd (o := .lst []) hD
  refine lc_list (xs := us) (fun k H2 => Same H1 H2 ∧ ∃ acc, H2 D = some (.lst acc) ∧ Each (ZP K H2) acc ((ps.take k).map f)) ⟨sD, _, upd_same, rfl, fun k v x e => by simp at e⟩ (fun k H2 _ h => sl_of (h.1 _ _ hd)) ?_ ?_
  · rintro k x H2 hx ⟨s2, acc, e3, ea⟩
    obtain ⟨p, hp, a, rfl, ha⟩ := he.of hx
    refine ⟨a, _, rfl, same_tup s2 ha, rfl, _, _, rfl, _, _, rfl, rfl, hw _ _, ?_⟩
    simp only [tYes, if_true]
    refine hs H2 p _ s2 (List.mem_of_getElem? hp) fun y H4 s4 hy => ⟨acc, s4 _ _ e3, ?_, fun c o ec => ?_, _, upd_same, ?_⟩
    · rw [ea.1, List.length_map, List.length_take]
      have := he.1
      exact small1000 (by omega)
    · rw [upd_ne (ne_of_none ec hD)]
      exact s4 _ _ (s2 _ _ ec)
    · have hD4 := s4 _ _ e3
      rw [List.take_add_one, hp, List.map_append]
      refine each_snoc ⟨ea.1, fun i v x e1 e2 => ((ea.2 i v x e1 e2).same s4).keep hD4⟩ (hy.keep hD4)
  · rintro H2 ⟨s2, acc, e3, ea⟩
    rw [he.1, List.take_length] at ea
    exact hq H2 acc s2 e3 ea
def raysA : List (Int × Int) := [(7, 1), (5, 2), (4, 3), (3, 4), (2, 5), (1, 7)]
def raysB : List (Int × Int) := raysA ++ raysA.map fun p => (-p.2, p.1)
def raysC : List (Int × Int) := raysB ++ raysB.map fun p => (-p.1, -p.2)
def starPt (j : Nat) (l : Int) : Int × Int := ((raysC.getD j (0, 0)).1 * l, (raysC.getD j (0, 0)).2 * l)
/-- a drawn star: a corner for each of the rays chosen, in their order -/
def StarRow (size : Int) (zs : List (Int × Int)) (m : Nat) : Prop := ∃ (js : List Nat) (ls : List Int), js.Pairwise (· < ·) ∧ js.length = m ∧ ls.length = m ∧ (∀ j ∈ js, j < 24) ∧ (∃ j ∈ js, j < 4) ∧ (∃ j ∈ js, 8 ≤ j ∧ j < 12) ∧ (∃ j ∈ js, 16 ≤ j ∧ j < 20) ∧ (∀ l ∈ ls, size ≤ l ∧ l < 4 * size) ∧
  zs = List.zipWith starPt js ls
/-- the places chosen -/
def StarJs (cs : List Nat) (i : Nat) : Prop := cs.Nodup ∧ cs.length = 3 + i ∧ (∀ j ∈ cs, j < 24) ∧ (∃ j ∈ cs, j < 4) ∧ (∃ j ∈ cs, 8 ≤ j ∧ j < 12) ∧ (∃ j ∈ cs, 16 ≤ j ∧ j < 20)
theorem starJs0 {a b c : Nat} (ha : a < 4) (hb : b < 4) (hc : c < 4) : StarJs [a, 8 + b, 16 + c] 0 := by
  refine ⟨by simp; omega, rfl, fun j hj => ?_, ⟨a, by simp, ha⟩, ⟨8 + b, by simp, by omega⟩, ⟨16 + c, by simp, by omega⟩⟩
  simp only [List.mem_cons, List.not_mem_nil, or_false] at hj
  omega
theorem all_in : ∀ (n : Nat) (cs : List Nat), (∀ x, x < n → x ∈ cs) → n ≤ cs.length
  | 0, _, _ => Nat.zero_le _
  | n + 1, cs, h => by
    have hn : n ∈ cs := h n (by omega)
    have := all_in n (cs.erase n) fun x hx => (List.mem_erase_of_ne (by omega)).mpr (h x (by omega))
    rw [List.length_erase_of_mem hn] at this
    have := List.length_pos_of_mem hn
    omega
theorem inV_nat (a : Nat) (cs : List Nat) : inV (.int (a : Nat)) (cs.map fun (j : Nat) => V.int j) = decide (a ∈ cs) := by
  induction cs with
  | nil => rfl
  | cons c cs ih =>
    unfold inV at ih ⊢
    rw [List.map_cons, List.any_cons, ih]
    have e : eqV (.int (c : Nat)) (.int (a : Nat)) = decide (a = c) := by
      show decide ((c : Int) = (a : Int)) = _
      rw [decide_eq_decide]
      omega
    rw [e, ← Bool.decide_or]
    simp only [List.mem_cons]
theorem sorted_nat {ns : List Int} {cs : List Nat} (hp : ns.Perm (cs.map fun (j : Nat) => (j : Int))) (hs : ns.Pairwise (· ≤ ·)) (hn : cs.Nodup) : ∃ js : List Nat, ns = js.map (fun (j : Nat) => (j : Int)) ∧ js.Perm cs ∧ js.Pairwise (· < ·) := by
  have e : ns = (ns.map Int.toNat).map fun (j : Nat) => (j : Int) := by
    rw [List.map_map]
    refine (List.map_id ns).symm.trans (List.map_congr_left fun x hx => ?_)
    obtain ⟨j, _, rfl⟩ := List.mem_map.mp (hp.mem_iff.mp hx)
    rfl
  have p : (ns.map Int.toNat).Perm cs := by
    have := hp.map Int.toNat
    rw [List.map_map, show Int.toNat ∘ (fun (j : Nat) => (j : Int)) = id from funext fun j => rfl, List.map_id] at this
    exact this
  refine ⟨ns.map Int.toNat, e, p, ?_⟩
  have h1 : (ns.map Int.toNat).Pairwise (· ≤ ·) := List.pairwise_map.mpr (hs.imp fun {a b} h => Int.toNat_le_toNat h)
  have h2 : (ns.map Int.toNat).Nodup := p.nodup_iff.mpr hn
  exact (h1.and h2).imp fun {a b} h => Nat.lt_of_le_of_ne h.1 h.2
def spStar (K : PySem.W.Frag) : Sp := fun vs H Q _ => ∃ (u : Addr) (m : Nat) (size : Int) (k : Nat), vs = [.ref u, .int (m : Nat), .int size] ∧ 3 ≤ m ∧ m ≤ 9 ∧ 0 < size ∧ size < 1000 ∧ Urn H u (k + 2 * m) ∧
  ∀ H' L vs zs, But u H H' → Urn H' u k → H L = none → H' L = some (.lst vs) → Each (ZP K H') vs zs → StarRow size zs m → Q (.ref L) H'
theorem ok__law_star (T : Txt K mg A) : FnOk P w K mg base CX0 3 A.f__law_star A.d__law_star ["ditch", "many", "size"] (spStar K) := by
  refine T._law_star.F.ok sc__law_star (fun vs H Q E h => ?_) (fun cdv A' outer s H vs Q E hr h => ?_)
  · obtain ⟨_, _, _, _, rfl, _⟩ := h; rfl
  · obtain ⟨u, m, size, k, rfl, hm3, hm9, hs0, hs1, hu, q⟩ := h
    refine ⟨_, (pss_cons (ps_set (i := 5) sc__law_star.nd rfl (.inl rfl) (pe_lst (pa_cons (pe_tup (pa_cons pe_int (pa_cons pe_int pa_nil))) (pa_cons (pe_tup (pa_cons pe_int (pa_cons pe_int pa_nil))) (pa_cons (pe_tup (pa_cons pe_int (pa_cons pe_int pa_nil))) (pa_cons (pe_tup (pa_cons pe_int (pa_cons pe_int pa_nil))) (pa_cons (pe_tup (pa_cons pe_int (pa_cons pe_int pa_nil))) (pa_cons (pe_tup (pa_cons pe_int (pa_cons pe_int pa_nil))) pa_nil))))))))
      (pss_cons (ps_set (i := 5) sc__law_star.nd rfl (.inl rfl) (pe_op op_cat (pv 5) (pe_lc (own := [("x", 3), ("y", 4)]) (g := gTup K 2 (gCons (gName 3) (gCons (gName 4) gNil))) (tt := tYes) rfl sc__law_star.nd (pi_list (pv 5)) (blkOk_by (N := ["ditch", "many", "size", "x", "y", "rays", "chosen", "turn", "at", "step", "found", "length"]) (sc := defScope s__law_star) (by decide +kernel)) (fun _ _ _ _ _ => OZ.pg_tupK (K := K) (n := 2) rfl rfl (pgs_cons (pg_name (i := 3) sc__law_star.nd rfl (Or.inl rfl)) (pgs_cons (pg_name (i := 4) sc__law_star.nd rfl (Or.inl rfl)) pgs_nil))) (fun _ _ _ _ _ => pts_nil) (fun _ _ _ _ _ => (pe_tup (pa_cons (pe_un un_neg (pv 4)) (pa_cons (pv 3) pa_nil)))))))
      (pss_cons (ps_set (i := 5) sc__law_star.nd rfl (.inl rfl) (pe_op op_cat (pv 5) (pe_lc (own := [("x", 3), ("y", 4)]) (g := gTup K 2 (gCons (gName 3) (gCons (gName 4) gNil))) (tt := tYes) rfl sc__law_star.nd (pi_list (pv 5)) (blkOk_by (N := ["ditch", "many", "size", "x", "y", "rays", "chosen", "turn", "at", "step", "found", "length"]) (sc := defScope s__law_star) (by decide +kernel)) (fun _ _ _ _ _ => OZ.pg_tupK (K := K) (n := 2) rfl rfl (pgs_cons (pg_name (i := 3) sc__law_star.nd rfl (Or.inl rfl)) (pgs_cons (pg_name (i := 4) sc__law_star.nd rfl (Or.inl rfl)) pgs_nil))) (fun _ _ _ _ _ => pts_nil) (fun _ _ _ _ _ => (pe_tup (pa_cons (pe_un un_neg (pv 3)) (pa_cons (pe_un un_neg (pv 4)) pa_nil)))))))
      (pss_cons (ps_set (i := 6) sc__law_star.nd rfl (.inl rfl) (pe_lst (pa_cons (pe_call (ok__law_dig T) (hr.mono (by decide)) (by rfl) T._law_dig.g T._law_dig.F.kp T._law_dig.b .nil pass0 (pa_cons (pv 0) (pa_cons pe_int pa_nil))) (pa_cons (pe_op op_add pe_int (pe_call (ok__law_dig T) (hr.mono (by decide)) (by rfl) T._law_dig.g T._law_dig.F.kp T._law_dig.b .nil pass0 (pa_cons (pv 0) (pa_cons pe_int pa_nil)))) (pa_cons (pe_op op_add pe_int (pe_call (ok__law_dig T) (hr.mono (by decide)) (by rfl) T._law_dig.g T._law_dig.F.kp T._law_dig.b .nil pass0 (pa_cons (pv 0) (pa_cons pe_int pa_nil)))) pa_nil)))))
      (pss_cons (ps_for PassesOwn.never rfl (pi_range1 rfl T.n_range (pa_cons (pe_op op_sub (pv 1) pe_int) pa_nil)) (pg_name (i := 7) sc__law_star.nd rfl (.inl rfl)) (pss_cons (ps_set (i := 8) sc__law_star.nd rfl (.inl rfl) (pe_call (ok__law_dig T) (hr.mono (by decide)) (by rfl) T._law_dig.g T._law_dig.F.kp T._law_dig.b .nil pass0 (pa_cons (pv 0) (pa_cons pe_int pa_nil))))
      (pss_cons (ps_for PassesOwn.never rfl (pi_range1 rfl T.n_range (pa_cons pe_int pa_nil)) (pg_name (i := 9) sc__law_star.nd rfl (.inl rfl)) (pss_one (ps_set (i := 8) sc__law_star.nd rfl (.inl rfl) (pe_op op_mod (pe_callTy call_int1 (by rfl) T.n_int bt_int (pa_cons (pe_op op_add (pv 8) (pe_callTy call_int1 (by rfl) T.n_int bt_int (pa_cons (pe_cmpR op_in_seq (pv 8) (pv 6) (by with_unfolding_all rfl)) pa_nil))) pa_nil)) pe_int))))
      (pss_one (ps_expr (pe_bm F.plainAttrs_list F.slot_list_append F.type_list_append mt_append (pv 6) (pa_cons (pv 8) pa_nil)))))))
      (pss_cons (ps_set (i := 10) sc__law_star.nd rfl (.inl rfl) (pe_lst pa_nil))
      (pss_cons (ps_for PassesOwn.never rfl (pi_list (pe_callB cr_sorted (by rfl) T.n_sorted bt_sorted (pa_cons (pv 6) pa_nil))) (pg_name (i := 8) sc__law_star.nd rfl (.inl rfl)) (pss_cons (ps_set (i := 11) sc__law_star.nd rfl (.inl rfl) (pe_op op_add (pv 2) (pe_call (ok__law_dig T) (hr.mono (by decide)) (by rfl) T._law_dig.g T._law_dig.F.kp T._law_dig.b .nil pass0 (pa_cons (pv 0) (pa_cons (pe_op op_mul pe_int (pv 2)) pa_nil)))))
      (pss_one (ps_expr (pe_bm F.plainAttrs_list F.slot_list_append F.type_list_append mt_append (pv 10) (pa_cons (pe_tup (pa_cons (pe_op op_mul (pe_ix ix_tup (pe_ix ix_list (pv 5) (pv 8) (fun _ _ => rfl)) pe_int (fun _ _ => rfl)) (pv 11)) (pa_cons (pe_op op_mul (pe_ix ix_tup (pe_ix ix_list (pv 5) (pv 8) (fun _ _ => rfl)) pe_int (fun _ _ => rfl)) (pv 11)) pa_nil))) pa_nil))))))
      (pss_one (ps_ret (pv 10)))))))))), ?_⟩
    refine seq_by fun N hN => ?_
    walk_at "vc"
    refine ⟨by decide, fun p0 e0 => ?_⟩
    have s0 := same_upd (o := .tup [.int (7), .int (1)]) e0
    have z0 : ZP K (upd H p0 (.tup [.int (7), .int (1)])) (.ref p0) (7, 1) := ⟨p0, rfl, st_of upd_same⟩
    generalize upd H p0 (.tup [.int (7), .int (1)]) = G0 at *
    have S0 := s0
    refine ⟨by decide, fun p1 e1 => ?_⟩
    have s1 := same_upd (o := .tup [.int (5), .int (2)]) e1
    have z1 : ZP K (upd G0 p1 (.tup [.int (5), .int (2)])) (.ref p1) (5, 2) := ⟨p1, rfl, st_of upd_same⟩
    have z0 := z0.same s1
    generalize upd G0 p1 (.tup [.int (5), .int (2)]) = G1 at *
    have S1 := S0.trans s1
    refine ⟨by decide, fun p2 e2 => ?_⟩
    have s2 := same_upd (o := .tup [.int (4), .int (3)]) e2
    have z2 : ZP K (upd G1 p2 (.tup [.int (4), .int (3)])) (.ref p2) (4, 3) := ⟨p2, rfl, st_of upd_same⟩
    have z0 := z0.same s2
    have z1 := z1.same s2
    generalize upd G1 p2 (.tup [.int (4), .int (3)]) = G2 at *
    have S2 := S1.trans s2
    refine ⟨by decide, fun p3 e3 => ?_⟩
    have s3 := same_upd (o := .tup [.int (3), .int (4)]) e3
    have z3 : ZP K (upd G2 p3 (.tup [.int (3), .int (4)])) (.ref p3) (3, 4) := ⟨p3, rfl, st_of upd_same⟩
    have z0 := z0.same s3
    have z1 := z1.same s3
    have z2 := z2.same s3
    generalize upd G2 p3 (.tup [.int (3), .int (4)]) = G3 at *
    have S3 := S2.trans s3
    refine ⟨by decide, fun p4 e4 => ?_⟩
    have s4 := same_upd (o := .tup [.int (2), .int (5)]) e4
    have z4 : ZP K (upd G3 p4 (.tup [.int (2), .int (5)])) (.ref p4) (2, 5) := ⟨p4, rfl, st_of upd_same⟩
    have z0 := z0.same s4
    have z1 := z1.same s4
    have z2 := z2.same s4
    have z3 := z3.same s4
    generalize upd G3 p4 (.tup [.int (2), .int (5)]) = G4 at *
    have S4 := S3.trans s4
    refine ⟨by decide, fun p5 e5 => ?_⟩
    have s5 := same_upd (o := .tup [.int (1), .int (7)]) e5
    have z5 : ZP K (upd G4 p5 (.tup [.int (1), .int (7)])) (.ref p5) (1, 7) := ⟨p5, rfl, st_of upd_same⟩
    have z0 := z0.same s5
    have z1 := z1.same s5
    have z2 := z2.same s5
    have z3 := z3.same s5
    have z4 := z4.same s5
    generalize upd G4 p5 (.tup [.int (1), .int (7)]) = G5 at *
    have S5 := S4.trans s5
    refine ⟨by decide, fun d hd => ?_⟩
    have s6 := S5.trans (same_upd (o := .lst [.ref p0, .ref p1, .ref p2, .ref p3, .ref p4, .ref p5]) hd)
    subst hN
    refine seq_by fun N hN => ?_
    walk_at "vc"
    have w0 : Each (ZP K G5) [.ref p0, .ref p1, .ref p2, .ref p3, .ref p4, .ref p5] raysA := by
      refine ⟨rfl, fun i v x e1 e2 => ?_⟩
      match i, e1, e2 with
      | 0, e1, e2 => cases e1; cases e2; exact z0
      | 1, e1, e2 => cases e1; cases e2; exact z1
      | 2, e1, e2 => cases e1; cases e2; exact z2
      | 3, e1, e2 => cases e1; cases e2; exact z3
      | 4, e1, e2 => cases e1; cases e2; exact z4
      | 5, e1, e2 => cases e1; cases e2; exact z5
      | i + 6, e1, e2 => cases e1
    have w1 : Each (ZP K (upd G5 d (.lst [.ref p0, .ref p1, .ref p2, .ref p3, .ref p4, .ref p5]))) [.ref p0, .ref p1, .ref p2, .ref p3, .ref p4, .ref p5] raysA := ⟨w0.1, fun i v x e1 e2 => (w0.2 i v x e1 e2).same (same_upd hd)⟩
    have hd1 : upd G5 d (.lst [.ref p0, .ref p1, .ref p2, .ref p3, .ref p4, .ref p5]) d = some (.lst [.ref p0, .ref p1, .ref p2, .ref p3, .ref p4, .ref p5]) := upd_same
    generalize upd G5 d (.lst [.ref p0, .ref p1, .ref p2, .ref p3, .ref p4, .ref p5]) = G6 at *
    generalize hU : [V.ref p0, .ref p1, .ref p2, .ref p3, .ref p4, .ref p5] = us at *
    clear z0 z1 z2 z3 z4 z5 S0 S1 S2 S3 S4 S5 s0 s1 s2 s3 s4 s5 w0
    have l1 : us.length = 6 := w1.1
    clear hU
    refine ⟨_, rfl, d, rfl, ⟨_, sl_of hd1⟩, fun D hD => lc_zp (f := fun p => (-p.2, p.1)) hd1 w1 hD (by omega) (fun _ _ => rfl) (fun H2 p Q S2 hp hQ => ?_) fun H' ws S' hw hws => ?_⟩
    · exact ⟨_, rfl, _, rfl, _, rfl, (by show 2 ≤ sizeLine; decide), fun t ht => hQ _ _ (same_upd ht) ⟨t, rfl, st_of upd_same⟩⟩
    have l2 : ws.length = 6 := hws.1.trans rfl
    refine ⟨d, D, us, ws, rfl, rfl, S' _ _ hd1, hw, Nat.le_of_lt (small1000 (by omega)), fun d2 hd2 => ?_⟩
    have s7 := (s6.trans S').trans (same_upd (o := .lst (us ++ ws)) hd2)
    have w2 : Each (ZP K (upd H' d2 (.lst (us ++ ws)))) (us ++ ws) raysB := by
      have sp := same_upd (o := .lst (us ++ ws)) hd2
      refine each_app ⟨w1.1, fun i v x e1 e2 => (w1.2 i v x e1 e2).same (S'.trans sp)⟩ ⟨hws.1, fun i v x e1 e2 => (hws.2 i v x e1 e2).same sp⟩
    have hd2' : upd H' d2 (.lst (us ++ ws)) d2 = some (.lst (us ++ ws)) := upd_same
    generalize upd H' d2 (.lst (us ++ ws)) = G7 at *
    have l3 : (us ++ ws).length = 12 := by rw [List.length_append]; omega
    generalize us ++ ws = us2 at *
    clear w1 hws hw
    subst hN
    refine seq_by fun N hN => ?_
    walk_at "vc"
    refine ⟨_, rfl, d2, rfl, ⟨_, sl_of hd2'⟩, fun D2 hD2 => lc_zp (f := fun p => (-p.1, -p.2)) hd2' w2 hD2 (by omega) (fun _ _ => rfl) (fun H2 p Q S2 hp hQ => ?_) fun H3 ws3 S3 hw3 hws3 => ?_⟩
    · exact ⟨_, rfl, _, rfl, _, rfl, _, rfl, (by show 2 ≤ sizeLine; decide), fun t ht => hQ _ _ (same_upd ht) ⟨t, rfl, st_of upd_same⟩⟩
    have l4 : ws3.length = 12 := hws3.1.trans rfl
    refine ⟨d2, D2, us2, ws3, rfl, rfl, S3 _ _ hd2', hw3, Nat.le_of_lt (small1000 (by omega)), fun d3 hd3 => ?_⟩
    have s8 := (s7.trans S3).trans (same_upd (o := .lst (us2 ++ ws3)) hd3)
    have w3 : Each (ZP K (upd H3 d3 (.lst (us2 ++ ws3)))) (us2 ++ ws3) raysC := by
      have sp := same_upd (o := .lst (us2 ++ ws3)) hd3
      refine each_app ⟨w2.1, fun i v x e1 e2 => (w2.2 i v x e1 e2).same (S3.trans sp)⟩ ⟨hws3.1, fun i v x e1 e2 => (hws3.2 i v x e1 e2).same sp⟩
    have hd3' : upd H3 d3 (.lst (us2 ++ ws3)) d3 = some (.lst (us2 ++ ws3)) := upd_same
    generalize upd H3 d3 (.lst (us2 ++ ws3)) = G8 at *
    have l5 : (us2 ++ ws3).length = 24 := by rw [List.length_append]; omega
    generalize us2 ++ ws3 = us3 at *
    clear w2 hws3 hw3
    subst hN
    refine seq_by fun N hN => ?_
    walk_at "vc"
    obtain ⟨uc, uys, hux⟩ := hu.at
    have hdu : d3 ≠ u := fun z => by
      have := (s7.trans S3) _ _ hux
      rw [← z, hd3] at this
      cases this
    refine ⟨u, 4, k + 2 * m - 1, rfl, by decide, by decide, (hu.same s8).mono (by omega), fun H4 x0 b4 hu4 x00 x01 => ?_⟩
    refine ⟨u, 4, k + 2 * m - 2, rfl, by decide, by decide, hu4.mono (by omega), fun H5 x1 b5 hu5 x10 x11 => ⟨_, rfl, ?_⟩⟩
    refine ⟨u, 4, k + 2 * m - 3, rfl, by decide, by decide, hu5.mono (by omega), fun H6 x2 b6 hu6 x20 x21 => ⟨_, rfl, (by show 3 ≤ sizeLine; decide), fun dc hdc => ?_⟩⟩
    obtain ⟨x0, rfl⟩ := Int.eq_ofNat_of_zero_le x00
    obtain ⟨x1, rfl⟩ := Int.eq_ofNat_of_zero_le x10
    obtain ⟨x2, rfl⟩ := Int.eq_ofNat_of_zero_le x20
    have B6 : But u G8 H6 := (b4.trans b5).trans b6
    have hux8 := s8 _ _ hux
    have r6 : H6 d3 = some (.lst us3) := B6.1 _ hdu _ hd3'
    have w6 : Each (ZP K H6) us3 raysC := w3.imp fun v x z => z.but B6 hux8
    have B06 : But u H H6 := (same_but s8).trans B6
    have sc := same_upd (o := .lst ([x0, 8 + x1, 16 + x2].map fun (j : Nat) => V.int j)) hdc
    obtain ⟨uc6, uys6, hux6⟩ := hu6.at
    have hcu : dc ≠ u := fun z => by rw [z, hux6] at hdc; cases hdc
    have hcd : dc ≠ d3 := fun z => by rw [z, r6] at hdc; cases hdc
    have hcH : H dc = none := by
      cases e : H dc with
      | none => rfl
      | some o => rw [B06.1 dc hcu o e] at hdc; cases hdc
    have urnD : ∀ {D : Addr} {H' : Hp} {n : Nat} {x : HO}, D ≠ u → H D = none → But u H H' → Urn H' u n → Urn (upd H' D x) u n := by
      intro D H' n x hDu hDH B hU
      obtain ⟨c0, n0, r0, cells0, e1, e2, _⟩ := hu
      obtain ⟨c, n', r', cells, f1, f2, f3, f4, f5⟩ := hU
      obtain ⟨ys', g⟩ := B.2 _ _ e1
      rw [f1] at g
      cases g
      exact ⟨_, n', r', cells, by rw [upd_ne (Ne.symm hDu)]; exact f1, by rw [upd_ne (ne_of_none e2 hDH)]; exact f2, f3, f4, f5⟩
    have butD : ∀ {D : Addr} {H' : Hp} {x : HO}, D ≠ u → H D = none → But u H H' → But u H (upd H' D x) := by
      intro D H' x hDu hDH B
      refine ⟨fun b nb o ho => by rw [upd_ne (ne_of_none ho hDH)]; exact B.1 b nb o ho, fun c ys ho => ?_⟩
      obtain ⟨ys', g⟩ := B.2 c ys ho
      exact ⟨ys', by rw [upd_ne (Ne.symm hDu)]; exact g⟩
    have base : StarJs [x0, 8 + x1, 16 + x2] 0 := starJs0 (by omega) (by omega) (by omega)
    have B7 := B06.trans (same_but sc)
    have r7 := sc _ _ r6
    have w7 : Each (ZP K _) us3 raysC := w6.imp fun v x z => z.same sc
    have u7 := hu6.same sc
    have c7 : upd H6 dc (.lst ([x0, 8 + x1, 16 + x2].map fun (j : Nat) => V.int j)) dc = some (.lst ([x0, 8 + x1, 16 + x2].map fun (j : Nat) => V.int j)) := upd_same
    show N [some (.ref u), some (.int m), some (.int size), none, none, some (.ref d3), some (.ref dc), none, none, none, none, none] (upd H6 dc (.lst ([x0, 8 + x1, 16 + x2].map fun (j : Nat) => V.int j)))
    generalize upd H6 dc (.lst ([x0, 8 + x1, 16 + x2].map fun (j : Nat) => V.int j)) = G9 at *
    generalize [x0, 8 + x1, 16 + x2] = cs0 at *
    clear b4 hu4 b5 hu5 b6 hu6 w6 r6 sc w3 hd3' s8 S3 s7 hd3 hD2 hd2' hux8
    subst hN
    refine seq_by fun N hN => ?_
    walk_at "vc"
    refine ⟨_, rfl, _, _, rfl, rfl, _, rfl, by omega, by omega, for_range (n := ((m : Int) - 3).toNat) (fun i σ H' => ∃ o7 o8 o9 cs, σ = [some (.ref u), some (.int m), some (.int size), none, none, some (.ref d3), some (.ref dc), o7, o8, o9, none, none] ∧ But u H H' ∧ Urn H' u (k + 2 * m - 3 - i) ∧ H' d3 = some (.lst us3) ∧ Each (ZP K H') us3 raysC ∧ H' dc = some (.lst (cs.map fun (j : Nat) => V.int j)) ∧ StarJs cs i) ?_ ?_ ?_⟩
    · exact ⟨none, none, none, cs0, rfl, B7, u7, r7, w7, c7, base⟩
    · rintro i σ H2 hi ⟨o7, o8, o9, cs, rfl, B2, hu2, r2, w2, c2, js⟩
      walk_at "vc"
      refine ⟨u, 24, k + 2 * m - 3 - i - 1, rfl, by decide, by decide, hu2.mono (by omega), fun H3 a0 b3 hu3 a00 a01 => ?_⟩
      obtain ⟨a0, rfl⟩ := Int.eq_ofNat_of_zero_le a00
      obtain ⟨uc2, uys2, hux2⟩ := hu2.at
      have B3 := B2.trans b3
      have r3 := b3.1 _ hdu _ r2
      have c3 := b3.1 _ hcu _ c2
      have w3 : Each (ZP K H3) us3 raysC := w2.imp fun v x z => z.but b3 hux2
      refine ⟨24, rfl, by decide, by decide, for_range (n := (24 : Int).toNat) (fun j σ H' => H' = H3 ∧ ∃ (a : Nat) (o9 : Option V), σ = [some (.ref u), some (.int m), some (.int size), none, none, some (.ref d3), some (.ref dc), some (.int (0 + i)), some (.int a), o9, none, none] ∧ a < 24 ∧ (a ∉ cs ∨ (a = (a0 + j) % 24 ∧ ∀ t, t < j → (a0 + t) % 24 ∈ cs))) ?_ ?_ ?_⟩
      · exact ⟨rfl, a0, o9, rfl, by omega, .inr ⟨by omega, fun t ht => by omega⟩⟩
      · rintro j σ H' hj ⟨rfl, a, o9', rfl, ha, hin⟩
        walk_at "vc"
        have e : (if false = true then !inV (.int (a : Nat)) (cs.map fun (j : Nat) => V.int j) else inV (.int (a : Nat)) (cs.map fun (j : Nat) => V.int j)) = decide (a ∈ cs) := inV_nat a cs
        refine ⟨dc, cs.map fun (j : Nat) => V.int j, rfl, .inl (sl_of c3), rfl, by rw [List.all_map]; exact List.all_eq_true.mpr fun _ _ => rfl, .inr ⟨decide (a ∈ cs), congrArg V.bl e, by decide, rfl, ?_⟩⟩
        by_cases hc : a ∈ cs
        · obtain ⟨ea, hall⟩ := hin.resolve_left fun h => h hc
          refine ⟨(a + 1) % 24, ?_, Nat.mod_lt _ (by decide), .inr ⟨by omega, fun t ht => ?_⟩⟩
          · rw [if_pos (decide_eq_true hc)]
            push_cast
            rfl
          · by_cases h : t < j
            · exact hall t h
            · rw [show t = j by omega, ← ea]
              exact hc
        · refine ⟨a, ?_, ha, .inl hc⟩
          rw [if_neg (by simpa using hc)]
          omega
      · rintro σ H' ⟨rfl, a, o9', rfl, ha, hin⟩
        have hna : a ∉ cs := by
          rcases hin with h | ⟨_, h⟩
          · exact h
          · exfalso
            have hall : ∀ x, x < 24 → x ∈ cs := by
              intro x hx
              have := h ((x + 24 - a0) % 24) (by omega)
              rwa [show (a0 + (x + 24 - a0) % 24) % 24 = x by omega] at this
            have := all_in 24 cs hall
            have := js.2.1
            omega
        walk_at "vc"
        simp only [tBM]
        walk_at "vc"
        refine ⟨.inl ⟨rfl, _, sl_of c3⟩, ?_⟩
        refine ⟨dc, _, _, rfl, rfl, c3, by rw [List.length_map, js.2.1]; exact small1000 (by omega), ?_⟩
        refine ⟨butD hcu hcH B3, urnD hcu hcH B3 (hu3.mono (by omega)), ?_, w3.imp fun v x z => z.keep c3, cs ++ [a], ?_, ?_⟩
        · rw [upd_ne (Ne.symm hcd)]
          exact r3
        · rw [upd_same, List.map_append]
          rfl
        · obtain ⟨n1, n2, n3, ⟨i1, i2, i3⟩, ⟨j1, j2, j3⟩, ⟨l1, l2, l3⟩⟩ := js
          refine ⟨?_, by rw [List.length_append, n2]; rfl, fun x hx => ?_, ⟨i1, List.mem_append_left _ i2, i3⟩, ⟨j1, List.mem_append_left _ j2, j3⟩, ⟨l1, List.mem_append_left _ l2, l3⟩⟩
          · rw [List.nodup_append]
            refine ⟨n1, by simp, fun x hx y hy => ?_⟩
            rw [List.mem_singleton.mp hy]
            exact fun z => hna (z ▸ hx)
          · rcases List.mem_append.mp hx with h | h
            · exact n3 x h
            · rw [List.mem_singleton.mp h]
              exact ha
    · rintro σ H7 ⟨o7, o8, o9, cs, rfl, B8, u8, r8, w8, c8, js⟩
      clear B7 r7 w7 u7 c7 base B06 B6
      show N _ _
      subst hN
      refine seq_by fun N hN => ?_
      walk_at "vc"
      refine ⟨by decide, fun D hD => ?_⟩
      subst hN
      refine seq_by fun N hN => ?_
      walk_at "vc"
      have sD := same_upd (o := .lst []) hD
      obtain ⟨uc8, uys8, hux8⟩ := u8.at
      have hDu : D ≠ u := fun z => by rw [z, hux8] at hD; cases hD
      have hDd : D ≠ d3 := fun z => by rw [z, r8] at hD; cases hD
      have hDH : H D = none := by
        cases e : H D with
        | none => rfl
        | some o => rw [B8.1 D hDu o e] at hD; cases hD
      refine ⟨_, rfl, dc, cs.map fun (j : Nat) => (j : Int), rfl, by rw [List.map_map]; exact sl_of (sD _ _ c8), by rw [List.length_map, js.2.1]; omega, fun ns' pS hperm hsort hpS => ?_⟩
      obtain ⟨ks, rfl, kp, klt⟩ := sorted_nat hperm hsort js.1
      have sS := same_upd (o := .lst ((ks.map fun (j : Nat) => (j : Int)).map V.int)) hpS
      have S8 := sD.trans sS
      have hpD : D ≠ pS := fun z => by rw [← z, upd_same] at hpS; cases hpS
      have hpu : pS ≠ u := fun z => by
        have := sD _ _ hux8
        rw [← z, hpS] at this
        cases this
      have lk : ks.length = m := by rw [kp.length_eq, js.2.1]; omega
      have hk24 : ∀ j ∈ ks, j < 24 := fun j hj => js.2.2.1 j (kp.mem_iff.mp hj)
      refine ⟨pS, rfl, ⟨_, sl_of upd_same⟩, for_list (xs := (ks.map fun (j : Nat) => (j : Int)).map V.int) (fun i σ H' => ∃ o8 o11 acc zs ls, σ = [some (.ref u), some (.int m), some (.int size), none, none, some (.ref d3), some (.ref dc), o7, o8, o9, some (.ref D), o11] ∧ But u H H' ∧ Urn H' u (k + m - i) ∧ H' d3 = some (.lst us3) ∧ Each (ZP K H') us3 raysC ∧ H' pS = some (.lst ((ks.map fun (j : Nat) => (j : Int)).map V.int)) ∧ H' D = some (.lst acc) ∧ Each (ZP K H') acc zs ∧ ls.length = i ∧ (∀ l ∈ ls, size ≤ l ∧ l < 4 * size) ∧ zs = List.zipWith starPt (ks.take i) ls) ?_ ?_ ?_ ?_⟩
      · refine ⟨o8, none, [], [], [], rfl, B8.trans (same_but S8), (u8.same S8).mono (by omega), S8 _ _ r8, w8.imp fun v x z => z.same S8, upd_same, sS _ _ upd_same, ⟨rfl, fun i v x e => by simp at e⟩, rfl, fun l hl => by simp at hl, rfl⟩
      · rintro i σ H' _ ⟨_, _, _, _, _, rfl, _, _, _, _, hS, _⟩
        exact sl_of hS
      · rintro i x σ H2 hx ⟨o8', o11, acc, zs, ls, rfl, B2, u2, r2, w2, p2, D2, a2, l2', lb, rfl⟩
        obtain ⟨j, hj, rfl⟩ : ∃ j, ks[i]? = some j ∧ V.int (j : Nat) = x := by
          rw [List.map_map, List.getElem?_map] at hx
          cases e : ks[i]? with
          | none => rw [e] at hx; cases hx
          | some j => rw [e] at hx; exact ⟨j, rfl, Option.some.inj hx⟩
        have hi : i < m := by rw [← lk]; exact (List.getElem?_eq_some_iff.mp hj).1
        walk_at "vc"
        refine ⟨.inl ⟨by decide, by decide⟩, u, 3 * size, k + m - i - 1, rfl, by omega, by omega, u2.mono (by omega), fun H3 f b3 u3 f0 f1 => ⟨_, rfl, ?_⟩⟩
        obtain ⟨uc2, uys2, hux2⟩ := u2.at
        have B3 := B2.trans b3
        have r3 := b3.1 _ hdu _ r2
        have D3 := b3.1 _ hDu _ D2
        have p3 := b3.1 _ hpu _ p2
        have w3 : Each (ZP K H3) us3 raysC := w2.imp fun v x z => z.but b3 hux2
        have a3 : Each (ZP K H3) acc _ := a2.imp fun v x z => z.but b3 hux2
        have hj24 : j < 24 := hk24 j (List.mem_of_getElem? hj)
        obtain ⟨wy, hwy⟩ : ∃ wy, raysC[j]? = some wy := ⟨_, List.getElem?_eq_getElem (show j < raysC.length from hj24)⟩
        obtain ⟨wv1, hwv1, hZ⟩ := w3.at hwy
        obtain ⟨wa, rfl, hWa⟩ := id hZ
        simp only [tBM]
        walk_at "vc"
        refine ⟨.inl ⟨rfl, acc, sl_of D3⟩, ?_⟩
        refine ixL (sl_of r3) (atI_nat hwv1) (ixT hWa rfl ?_)
        refine ⟨_, rfl, .inr ⟨by omega, by omega⟩, ixL (sl_of r3) (atI_nat hwv1) (ixT hWa rfl ?_)⟩
        refine ⟨_, rfl, .inr ⟨by omega, by omega⟩, by decide, fun p hp => ?_⟩
        have s5 := same_upd (o := .tup [.int (wy.1 * (size + f)), .int (wy.2 * (size + f))]) hp
        have hp5 : SqT K (upd H3 p (.tup [.int (wy.1 * (size + f)), .int (wy.2 * (size + f))])) p [.int (wy.1 * (size + f)), .int (wy.2 * (size + f))] := st_of upd_same
        generalize upd H3 p (.tup [.int (wy.1 * (size + f)), .int (wy.2 * (size + f))]) = H5 at *
        have D5 := s5 _ _ D3
        have eg : raysC.getD j (0, 0) = wy := by rw [List.getD_eq_getElem?_getD, hwy]; rfl
        have lt : (ks.take i).length = ls.length := by rw [List.length_take, lk, l2']; omega
        have la : acc.length = i := by rw [a2.1, List.length_zipWith, lt, l2', Nat.min_self]
        refine ⟨D, acc, _, rfl, rfl, D5, by rw [la]; exact small1000 (by omega), ?_⟩
        have B5 := B3.trans (same_but s5)
        refine ⟨butD hDu hDH B5, (urnD hDu hDH B5 (u3.same s5)).mono (by omega), ?_, w3.imp fun v x z => (z.same s5).keep D5, ?_, _, upd_same, List.zipWith starPt (ks.take i) ls ++ [starPt j (size + f)], ?_, ls ++ [size + f], by rw [List.length_append, l2']; rfl, fun l hl => ?_, ?_⟩
        · rw [upd_ne (Ne.symm hDd)]
          exact s5 _ _ r3
        · rw [upd_ne (Ne.symm hpD)]
          exact s5 _ _ p3
        · refine each_snoc (a3.imp fun v x z => (z.same s5).keep D5) (ZP.keep D5 ⟨p, rfl, ?_⟩)
          unfold starPt
          rw [eg]
          exact hp5
        · rcases List.mem_append.mp hl with h | h
          · exact lb l h
          · rw [List.mem_singleton.mp h]
            omega
        · rw [List.take_add_one, hj, List.zipWith_append lt]
          rfl
      · rintro σ H2 ⟨o8', o11, acc, zs, ls, rfl, B2, u2, r2, w2, p2, D2, a2, l2', lb, rfl⟩
        show N _ _
        subst hN
        walk_at "vc"
        rw [List.length_map, List.length_map, lk] at u2 l2' a2
        rw [← lk, List.take_length] at a2
        refine q H2 D acc _ B2 (u2.mono (by omega)) hDH D2 a2 ⟨ks, ls, klt, lk, l2', hk24, ?_, ?_, ?_, lb, rfl⟩
        · exact js.2.2.2.1.imp fun j hj => ⟨kp.mem_iff.mpr hj.1, hj.2⟩
        · exact js.2.2.2.2.1.imp fun j hj => ⟨kp.mem_iff.mpr hj.1, hj.2⟩
        · exact js.2.2.2.2.2.imp fun j hj => ⟨kp.mem_iff.mpr hj.1, hj.2⟩
end
end Odd
namespace Odd
open PySem PySem.Spec PyProof.Rows L2
local macro_rules | `(tactic| walk_at "vc") => `(tactic| simp only [tSeq, tAsg, gName, tCB, tCons, tNil, tVar, tC, tOp, tUn, rI0, rI, rU, tTup, tLst, tIfS, tTest, tB, tRet, tNext, rGcd, L2.start, List.map, List.set, List.replicate, List.cons_append, List.nil_append, List.length_cons, List.length_nil, List.getElem?_cons_succ, List.getElem?_cons_zero, Option.some.injEq, exists_eq_left', exists_eq_left, List.append_nil, List.cons.injEq, V.int.injEq, exists_and_left, and_true, true_and, and_assoc, exists_const, V.bl.injEq, V.ref.injEq, Nat.sub_self, Nat.reduceAdd, Nat.reduceSub, List.replicate_succ, List.replicate_zero, tAnd, tOr, tNot, tAndV, tOrV, tNotV, tIf, tCall, tCallK, tDrop, rEq, rNe, decide_eq_true_eq, Bool.not_eq_true', decide_eq_false_iff_not, Bool.false_eq_true, if_true, if_false, reduceIte, reduceCtorEq, tMkLow, tRaiseLow, rIsB, rNotB, tBreak, tPar, gSub, rSetL, tChain, gTup, gCons, gNil, gSeq, cx_K, cx_Kn, optV, V.str.injEq, Bool.not_true, Bool.not_false, false_and, and_false, or_false, false_or, exists_false, tCallN, tCallS, tPairs])
section
variable {P : Program} {w : World} {K : PySem.W.Frag} {mg : Str → Option Value} {base : Heap} {A : Ads}
/-- what is told of each place of a strip: where, low, high; the next one goes at p -/
def Places (rs : List (Int × Int × Int)) (p : Int) : Prop := rs.Pairwise (fun a b => a.1 < b.1) ∧ 0 ≤ p ∧ p ≤ 12 * rs.length ∧ ∀ r ∈ rs, 0 ≤ r.1 ∧ r.1 < p ∧ 0 ≤ r.2.1 ∧ r.2.1 < 40 ∧ r.2.1 < r.2.2 ∧ r.2.2 < r.2.1 + 10
theorem Places.snoc {rs : List (Int × Int × Int)} {p h g d : Int} (x : Places rs p) (h0 : 0 ≤ h) (h1 : h < 40) (g0 : 0 ≤ g) (g1 : g < 9) (d0 : 0 ≤ d) (d1 : d < 12) : Places (rs ++ [(p, h, h + 1 + g)]) (p + 1 + d) := by
  obtain ⟨x1, x2, x3, x4⟩ := x
  refine ⟨?_, by omega, by rw [List.length_append]; simp only [List.length_cons, List.length_nil]; omega, fun r hr => ?_⟩
  · rw [List.pairwise_append]
    refine ⟨x1, List.pairwise_singleton _ _, fun a ha b hb => ?_⟩
    rw [List.mem_singleton.mp hb]
    exact (x4 a ha).2.1
  · rcases List.mem_append.mp hr with h | h
    · have := x4 r h
      omega
    · rw [List.mem_singleton.mp h]
      dsimp only
      omega
theorem urn_over {H H' : Hp} {u D : Addr} {n0 n : Nat} {x : HO} (hu : Urn H u n0) (hDu : D ≠ u) (hDH : H D = none) (B : But u H H') (hU : Urn H' u n) : Urn (upd H' D x) u n := by
  obtain ⟨c0, n0, r0, cells0, e1, e2, _⟩ := hu
  obtain ⟨c, n', r', cells, f1, f2, f3, f4, f5⟩ := hU
  obtain ⟨ys', g⟩ := B.2 _ _ e1
  rw [f1] at g
  cases g
  exact ⟨_, n', r', cells, by rw [upd_ne (Ne.symm hDu)]; exact f1, by rw [upd_ne (ne_of_none e2 hDH)]; exact f2, f3, f4, f5⟩
theorem but_over {H H' : Hp} {u D : Addr} {x : HO} (hDu : D ≠ u) (hDH : H D = none) (B : But u H H') : But u H (upd H' D x) := by
  refine ⟨fun b nb o ho => by rw [upd_ne (ne_of_none ho hDH)]; exact B.1 b nb o ho, fun c ys ho => ?_⟩
  obtain ⟨ys', g⟩ := B.2 c ys ho
  exact ⟨ys', by rw [upd_ne (Ne.symm hDu)]; exact g⟩
theorem but_free {H H' : Hp} {u D : Addr} (B : But u H H') (hDu : D ≠ u) (h : H' D = none) : H D = none := by
  cases e : H D with
  | none => rfl
  | some o => rw [B.1 D hDu o e] at h; cases h
theorem Urn.ne {H : Hp} {u D : Addr} {n : Nat} (hu : Urn H u n) (h : H D = none) : D ≠ u := by
  obtain ⟨c, ys, e⟩ := hu.at
  exact fun z => by rw [z, e] at h; cases h
theorem each_rev {α : Type} {R : V → α → Prop} {us : List V} {xs : List α} (h : Each R us xs) : Each R us.reverse xs.reverse := by
  refine ⟨by rw [List.length_reverse, List.length_reverse, h.1], fun i v x e1 e2 => ?_⟩
  have hi : i < us.length := by
    have := (List.getElem?_eq_some_iff.mp e1).1
    rwa [List.length_reverse] at this
  rw [List.getElem?_reverse hi] at e1
  rw [List.getElem?_reverse (by rw [← h.1]; exact hi), ← h.1] at e2
  exact h.2 _ v x e1 e2
def lowZ (r : Int × Int × Int) : Int × Int := (r.1, r.2.1)
def highZ (r : Int × Int × Int) : Int × Int := (r.1, r.2.2)
/-- a drawn strip -/
def StripRow (zs : List (Int × Int)) (m : Nat) : Prop := ∃ rs p, Places rs p ∧ rs.length = m ∧ zs = rs.map lowZ ++ (rs.map highZ).reverse
def spStrip (K : PySem.W.Frag) : Sp := fun vs H Q _ => ∃ (u : Addr) (m : Nat) (k : Nat), vs = [.ref u, .int (m : Nat)] ∧ 2 ≤ m ∧ m ≤ 20 ∧ Urn H u (k + 3 * m) ∧
  ∀ H' L vs zs, But u H H' → Urn H' u k → H L = none → H' L = some (.lst vs) → Each (ZP K H') vs zs → StripRow zs m → Q (.ref L) H'
theorem ok__law_strip (T : Txt K mg A) : FnOk P w K mg base CX0 3 A.f__law_strip A.d__law_strip ["ditch", "many"] (spStrip K) := by
  refine T._law_strip.F.ok sc__law_strip (fun vs H Q E h => ?_) (fun cdv A' outer s H vs Q E hr h => ?_)
  · obtain ⟨_, _, _, rfl, _⟩ := h; rfl
  · obtain ⟨u, m, k, rfl, hm2, hm5, hu, q⟩ := h
    refine ⟨_, (pss_cons (ps_par3 (i := 2) (j := 3) (l := 4) rfl sc__law_strip.nd rfl rfl rfl (by decide) (by decide) (by decide) rfl rfl rfl (pa_cons (pe_lst pa_nil) (pa_cons (pe_lst pa_nil) (pa_cons pe_int pa_nil))) rfl)
      (pss_cons (ps_for PassesOwn.never rfl (pi_range1 rfl T.n_range (pa_cons (pv 1) pa_nil)) (pg_name (i := 5) sc__law_strip.nd rfl (.inl rfl)) (pss_cons (ps_set (i := 6) sc__law_strip.nd rfl (.inl rfl) (pe_call (ok__law_dig T) (hr.mono (by decide)) (by rfl) T._law_dig.g T._law_dig.F.kp T._law_dig.b .nil pass0 (pa_cons (pv 0) (pa_cons pe_int pa_nil))))
      (pss_cons (ps_expr (pe_bm F.plainAttrs_list F.slot_list_append F.type_list_append mt_append (pv 2) (pa_cons (pe_tup (pa_cons (pv 4) (pa_cons (pv 6) pa_nil))) pa_nil)))
      (pss_cons (ps_expr (pe_bm F.plainAttrs_list F.slot_list_append F.type_list_append mt_append (pv 3) (pa_cons (pe_tup (pa_cons (pv 4) (pa_cons (pe_op op_add (pe_op op_add (pv 6) pe_int) (pe_call (ok__law_dig T) (hr.mono (by decide)) (by rfl) T._law_dig.g T._law_dig.F.kp T._law_dig.b .nil pass0 (pa_cons (pv 0) (pa_cons pe_int pa_nil)))) pa_nil))) pa_nil)))
      (pss_one (ps_set (i := 4) sc__law_strip.nd rfl (.inl rfl) (pe_op op_add (pe_op op_add (pv 4) pe_int) (pe_call (ok__law_dig T) (hr.mono (by decide)) (by rfl) T._law_dig.g T._law_dig.F.kp T._law_dig.b .nil pass0 (pa_cons (pv 0) (pa_cons pe_int pa_nil))))))))))
      (pss_one (ps_ret (pe_op op_cat (pv 2) (Os.pe_slice3 Os.sl_bkL (pv 3) po_none po_none (po_some (pe_un un_neg pe_int)))))))), ?_⟩
    refine seq_by fun N hN => ?_
    walk_at "vc"
    refine ⟨by decide, fun Dl hl => ⟨by decide, fun Dh hh => ⟨_, _, _, rfl, ?_⟩⟩⟩
    have sl := same_upd (o := .lst []) hl
    have sh := same_upd (o := .lst []) hh
    have hlh : Dl ≠ Dh := fun z => by rw [← z, upd_same] at hh; cases hh
    have hlu := hu.ne hl
    have hhu := (hu.same sl).ne hh
    have hhH : H Dh = none := but_free (same_but sl) hhu hh
    show N [some (.ref u), some (.int m), some (.ref Dl), some (.ref Dh), some (.int 0), none, none] _
    subst hN
    refine seq_by fun N hN => ?_
    refine ⟨_, rfl, _, rfl, by omega, by omega, for_range (n := ((m : Nat) : Int).toNat) (fun i σ H' => ∃ p o5 o6 al ah rs, σ = [some (.ref u), some (.int m), some (.ref Dl), some (.ref Dh), some (.int p), o5, o6] ∧ But u H H' ∧ Urn H' u (k + 3 * m - 3 * i) ∧ H' Dl = some (.lst al) ∧ H' Dh = some (.lst ah) ∧ Each (ZP K H') al (rs.map lowZ) ∧ Each (ZP K H') ah (rs.map highZ) ∧ rs.length = i ∧ Places rs p) ?_ ?_ ?_⟩
    · exact ⟨0, none, none, [], [], [], rfl, (same_but sl).trans (same_but sh), (hu.same sl).same sh, sh _ _ upd_same, upd_same, ⟨rfl, fun i v x e => by simp at e⟩, ⟨rfl, fun i v x e => by simp at e⟩, rfl, List.Pairwise.nil, by omega, by simp, fun r hr => by simp at hr⟩
    · rintro i σ H2 hi ⟨p, o5, o6, al, ah, rs, rfl, B2, u2, l2, h2, el, eh, lr, pl⟩
      have hi : i < m := by omega
      have lal : al.length = i := by rw [el.1, List.length_map, lr]
      have lah : ah.length = i := by rw [eh.1, List.length_map, lr]
      walk_at "vc"
      refine ⟨u, 40, k + 3 * m - 3 * i - 1, rfl, by decide, by decide, u2.mono (by omega), fun H3 hgt b3 u3 g0 g1 => ?_⟩
      obtain ⟨uc2, uys2, hux2⟩ := u2.at
      obtain ⟨uc3, uys3, hux3⟩ := u3.at
      have B3 := B2.trans b3
      have l3 := b3.1 _ hlu _ l2
      have h3 := b3.1 _ hhu _ h2
      have el3 : Each (ZP K H3) al _ := el.imp fun v x z => z.but b3 hux2
      have eh3 : Each (ZP K H3) ah _ := eh.imp fun v x z => z.but b3 hux2
      simp only [tBM]
      walk_at "vc"
      refine ⟨.inl ⟨rfl, al, sl_of l3⟩, by decide, fun q1 hq1 => ?_⟩
      have s4 := same_upd (o := .tup [.int p, .int hgt]) hq1
      have t4 : SqT K (upd H3 q1 (.tup [.int p, .int hgt])) q1 [.int p, .int hgt] := st_of upd_same
      generalize upd H3 q1 (.tup [.int p, .int hgt]) = H4 at *
      have l4 := s4 _ _ l3
      refine ⟨Dl, al, _, rfl, rfl, l4, by rw [lal]; exact small1000 (by omega), ?_⟩
      have B4 := B3.trans (same_but s4)
      have B5 : But u H (upd H4 Dl (.lst (al ++ [.ref q1]))) := but_over hlu hl B4
      have u5 : Urn (upd H4 Dl (.lst (al ++ [.ref q1]))) u (k + 3 * m - 3 * i - 1) := urn_over hu hlu hl B4 (u3.same s4)
      have l5 : upd H4 Dl (.lst (al ++ [.ref q1])) Dl = some (.lst (al ++ [.ref q1])) := upd_same
      have h5 : upd H4 Dl (.lst (al ++ [.ref q1])) Dh = some (.lst ah) := by rw [upd_ne (Ne.symm hlh)]; exact s4 _ _ h3
      have el5 : Each (ZP K (upd H4 Dl (.lst (al ++ [.ref q1])))) (al ++ [.ref q1]) (rs.map lowZ ++ [(p, hgt)]) := each_snoc (el3.imp fun v x z => (z.same s4).keep l4) (ZP.keep l4 ⟨q1, rfl, t4⟩)
      have eh5 : Each (ZP K (upd H4 Dl (.lst (al ++ [.ref q1])))) ah (rs.map highZ) := eh3.imp fun v x z => (z.same s4).keep l4
      generalize upd H4 Dl (.lst (al ++ [.ref q1])) = H5 at *
      generalize al ++ [V.ref q1] = al2 at *
      clear s4 t4 l4 B4 el3 eh3 l3 h3 B3 u3 b3 hux2 hux3 B2 u2 l2 h2 el eh
      obtain ⟨uc5, uys5, hux5⟩ := u5.at
      refine ⟨.inl ⟨rfl, ah, sl_of h5⟩, u, 9, k + 3 * m - 3 * i - 2, rfl, by decide, by decide, u5.mono (by omega), fun H6 g b6 u6 j0 j1 => ⟨_, rfl, by decide, fun q2 hq2 => ?_⟩⟩
      obtain ⟨uc6, uys6, hux6⟩ := u6.at
      have B6 := B5.trans b6
      have l6 := b6.1 _ hlu _ l5
      have h6 := b6.1 _ hhu _ h5
      have el6 : Each (ZP K H6) al2 _ := el5.imp fun v x z => z.but b6 hux5
      have eh6 : Each (ZP K H6) ah _ := eh5.imp fun v x z => z.but b6 hux5
      have s7 := same_upd (o := .tup [.int p, .int (hgt + 1 + g)]) hq2
      have t7 : SqT K (upd H6 q2 (.tup [.int p, .int (hgt + 1 + g)])) q2 [.int p, .int (hgt + 1 + g)] := st_of upd_same
      generalize upd H6 q2 (.tup [.int p, .int (hgt + 1 + g)]) = H7 at *
      have h7 := s7 _ _ h6
      refine ⟨Dh, ah, _, rfl, rfl, h7, by rw [lah]; exact small1000 (by omega), ?_⟩
      have B7 := B6.trans (same_but s7)
      have B8 : But u H (upd H7 Dh (.lst (ah ++ [.ref q2]))) := but_over hhu hhH B7
      have u8 : Urn (upd H7 Dh (.lst (ah ++ [.ref q2]))) u (k + 3 * m - 3 * i - 2) := urn_over hu hhu hhH B7 (u6.same s7)
      have h8 : upd H7 Dh (.lst (ah ++ [.ref q2])) Dh = some (.lst (ah ++ [.ref q2])) := upd_same
      have l8 : upd H7 Dh (.lst (ah ++ [.ref q2])) Dl = some (.lst al2) := by rw [upd_ne hlh]; exact s7 _ _ l6
      have eh8 : Each (ZP K (upd H7 Dh (.lst (ah ++ [.ref q2])))) (ah ++ [.ref q2]) (rs.map highZ ++ [(p, hgt + 1 + g)]) := each_snoc (eh6.imp fun v x z => (z.same s7).keep h7) (ZP.keep h7 ⟨q2, rfl, t7⟩)
      have el8 : Each (ZP K (upd H7 Dh (.lst (ah ++ [.ref q2])))) al2 (rs.map lowZ ++ [(p, hgt)]) := el6.imp fun v x z => (z.same s7).keep h7
      generalize upd H7 Dh (.lst (ah ++ [.ref q2])) = H8 at *
      obtain ⟨uc8, uys8, hux8⟩ := u8.at
      refine ⟨u, 12, k + 3 * m - 3 * i - 3, rfl, by decide, by decide, u8.mono (by omega), fun H9 d b9 u9 d0 d1 => ⟨_, rfl, B8.trans b9, u9.mono (by omega), _, b9.1 _ hlu _ l8, _, b9.1 _ hhu _ h8, rs ++ [(p, hgt, hgt + 1 + g)], ?_, ?_, by rw [List.length_append, lr]; rfl, pl.snoc g0 g1 j0 j1 d0 d1⟩⟩
      · rw [List.map_append]
        exact el8.imp fun v x z => z.but b9 hux8
      · rw [List.map_append]
        exact eh8.imp fun v x z => z.but b9 hux8
    · rintro σ H2 ⟨p, o5, o6, al, ah, rs, rfl, B2, u2, l2, h2, el, eh, lr, pl⟩
      show N _ _
      subst hN
      have lr : rs.length = m := by omega
      have lal : al.length = m := by rw [el.1, List.length_map, lr]
      have lah : ah.length = m := by rw [eh.1, List.length_map, lr]
      walk_at "vc"
      simp only [Os.tSl3, tNoPart, tPart]
      walk_at "vc"
      refine ⟨Dh, ah, rfl, sl_of h2, rfl, .inl rfl, rfl, fun p1 hp1 => ?_⟩
      show rCat (V.ref Dl) (.ref p1) (upd H2 p1 (.lst ah.reverse)) Q
      have s3 := same_upd (o := .lst ah.reverse) hp1
      have r3 : upd H2 p1 (.lst ah.reverse) p1 = some (.lst ah.reverse) := upd_same
      generalize upd H2 p1 (.lst ah.reverse) = H3 at *
      refine ⟨Dl, p1, al, _, rfl, rfl, s3 _ _ l2, r3, by rw [List.length_reverse]; exact Nat.le_of_lt (small1000 (by omega)), fun L hL => ?_⟩
      have S := s3.trans (same_upd (o := .lst (al ++ ah.reverse)) hL)
      refine q _ _ _ _ (B2.trans (same_but S)) ((u2.same S).mono (by omega)) ?_ upd_same (each_app (el.imp fun v x z => z.same S) (each_rev (eh.imp fun v x z => z.same S))) ⟨rs, p, pl, lr, rfl⟩
      exact but_free (B2.trans (same_but s3)) ((u2.same s3).ne hL) hL
end
end Odd
/-! stars: sides, bends -/
namespace Odd
open GeoZ
def rayZ (j : Nat) : Int × Int := raysC.getD j (0, 0)
def rayE (k : Nat) : Int × Int := rayZ (k % 24)
theorem rays_tab : ∀ i : Fin 24, ∀ d : Fin 13, (d.1 = 0 → x0 (rayE i.1) (rayE (i.1 + d.1)) = 0) ∧ (0 < d.1 → d.1 < 12 → 0 < x0 (rayE i.1) (rayE (i.1 + d.1))) ∧ (d.1 = 12 → x0 (rayE i.1) (rayE (i.1 + d.1)) = 0) := by decide +kernel
theorem rayE_pos {a b : Nat} (h1 : a < b) (h2 : b < a + 12) : 0 < x0 (rayE a) (rayE b) := by
  have := (rays_tab ⟨a % 24, Nat.mod_lt _ (by decide)⟩ ⟨b - a, by omega⟩).2.1 (by show 0 < b - a; omega) (by show b - a < 12; omega)
  have e1 : rayE (a % 24) = rayE a := by unfold rayE; rw [Nat.mod_mod]
  have e2 : rayE (a % 24 + (b - a)) = rayE b := by unfold rayE; rw [Nat.mod_add_mod, show a + (b - a) = b by omega]
  rwa [e1, e2] at this
theorem rayE_nonneg {a b : Nat} (h1 : a ≤ b) (h2 : b ≤ a + 12) : 0 ≤ x0 (rayE a) (rayE b) := by
  have t := rays_tab ⟨a % 24, Nat.mod_lt _ (by decide)⟩ ⟨b - a, by omega⟩
  have e1 : rayE (a % 24) = rayE a := by unfold rayE; rw [Nat.mod_mod]
  have e2 : rayE (a % 24 + (b - a)) = rayE b := by unfold rayE; rw [Nat.mod_add_mod, show a + (b - a) = b by omega]
  dsimp only at t
  rw [e1, e2] at t
  rcases (by omega : b - a = 0 ∨ b - a = 12 ∨ (0 < b - a ∧ b - a < 12)) with h | h | ⟨h, h'⟩
  · exact Int.le_of_eq (t.1 h).symm
  · exact Int.le_of_eq (t.2.2 h).symm
  · exact Int.le_of_lt (t.2.1 h h')
def farR (k : Nat) (l : Int) : Int × Int := ((rayE k).1 * l, (rayE k).2 * l)
theorem x0_swap (p q : Int × Int) : x0 q p = - x0 p q := by unfold x0; grind
/-- two sides of a star, one behind the other -/
theorem star_sep {a b c d : Nat} (hab : a < b) (hbc : b < c) (hcd : c < d) (hda : d < a + 24) (h1 : b < a + 12) (h2 : d < c + 12) {k l m n : Int} (hk : 0 < k) (hl : 0 < l) (hm : 0 < m) (hn : 0 < n) : SepZ (farR a k) (farR b l) (farR c m) (farR d n) := by
  obtain ⟨u, v, hu1, hu2, huv, hv1, hv2, hu3, hv3⟩ : ∃ u v, b ≤ u ∧ d ≤ u + 12 ∧ u < v ∧ v ≤ c ∧ v ≤ a + 12 ∧ u < v ∧ (u = b ∨ u + 12 = d) := by
    by_cases e1 : b + 12 < d <;> by_cases e2 : c ≤ a + 12
    · exact ⟨d - 12, c, by omega, by omega, by omega, by omega, by omega, by omega, by omega⟩
    · exact ⟨d - 12, a + 12, by omega, by omega, by omega, by omega, by omega, by omega, by omega⟩
    · exact ⟨b, c, by omega, by omega, by omega, by omega, by omega, by omega, by omega⟩
    · exact ⟨b, a + 12, by omega, by omega, by omega, by omega, by omega, by omega, by omega⟩
  have A1 := rayE_pos (a := a) (b := u) (by omega) (by omega)
  have A2 := rayE_nonneg (a := a) (b := v) (by omega) (by omega)
  have B1 := rayE_nonneg (a := b) (b := u) (by omega) (by omega)
  have B2 := rayE_pos (a := b) (b := v) (by omega) (by omega)
  have C1 := rayE_pos (a := u) (b := c) (by omega) (by omega)
  have C2 := rayE_nonneg (a := v) (b := c) (by omega) (by omega)
  have D1 := rayE_nonneg (a := u) (b := d) (by omega) (by omega)
  have D2 := rayE_pos (a := v) (b := d) (by omega) (by omega)
  have e : ∀ (j : Nat) (r : Int), af ((rayE u).2 + (rayE v).2) (-((rayE u).1 + (rayE v).1)) 0 (farR j r) = (x0 (rayE j) (rayE u) + x0 (rayE j) (rayE v)) * r := fun j r => by
    unfold af x0 farR
    dsimp only
    grind
  rw [x0_swap] at C1 C2 D1 D2
  refine ⟨(rayE u).2 + (rayE v).2, -((rayE u).1 + (rayE v).1), 0, ?_, ?_, ?_, ?_⟩ <;> rw [e]
  · exact Int.mul_pos (by omega) hk
  · exact Int.mul_pos (by omega) hl
  · exact Int.mul_neg_of_neg_of_pos (by omega) hm
  · exact Int.mul_neg_of_neg_of_pos (by omega) hn
theorem ahead_x0 {u v w : Int × Int} (h1 : 0 < x0 u v) (h2 : 0 < x0 v w) : AheadZ u v w := by
  refine ⟨-v.2, v.1, ?_, ?_⟩ <;> unfold x0 at * <;> grind
/-- a corner that lies outmost on some side bends left -/
theorem left_max {u v w : Int × Int} {α β : Int} (hA : 0 < x0 u v) (hB : 0 < x0 v w) (hv : 0 < α * v.1 + β * v.2) (hu : α * u.1 + β * u.2 < α * v.1 + β * v.2) (hw : α * w.1 + β * w.2 ≤ α * v.1 + β * v.2) : 0 < cr u v w := by
  have e : (α * v.1 + β * v.2) * cr u v w = (α * v.1 + β * v.2 - (α * u.1 + β * u.2)) * x0 v w + (α * v.1 + β * v.2 - (α * w.1 + β * w.2)) * x0 u v := by
    unfold cr x0
    grind
  have p1 := Int.mul_pos (show 0 < α * v.1 + β * v.2 - (α * u.1 + β * u.2) by omega) hB
  have p2 := Int.mul_nonneg (show 0 ≤ α * v.1 + β * v.2 - (α * w.1 + β * w.2) by omega) (Int.le_of_lt hA)
  exact Int.pos_of_mul_pos_right (by rw [e]; omega) hv
theorem max_at (g : Nat → Int) : ∀ n, 0 < n → ∃ k, k < n ∧ ∀ i, i < n → g i ≤ g k := by
  intro n
  induction n with
  | zero => intro h; omega
  | succ n ih =>
    intro _
    rcases Nat.eq_zero_or_pos n with rfl | hn
    · exact ⟨0, by omega, fun i hi => by rw [show i = 0 by omega]; exact Int.le_refl _⟩
    · obtain ⟨k, hk, h⟩ := ih hn
      by_cases c : g k ≤ g n
      · exact ⟨n, by omega, fun i hi => by
          by_cases e : i = n
          · rw [e]; exact Int.le_refl _
          · exact Int.le_trans (h i (by omega)) c⟩
      · exact ⟨k, by omega, fun i hi => by
          by_cases e : i = n
          · rw [e]; omega
          · exact h i (by omega)⟩
/-- a row round (0, 0) -/
structure Round (zs : List (Int × Int)) : Prop where
  len : 3 ≤ zs.length
  pos : ∀ i, 0 < x0 (cyc zs i) (cyc zs (i + 1))
  span : ∃ i j k, 0 < x0 (cyc zs i) (cyc zs j) ∧ 0 < x0 (cyc zs j) (cyc zs k) ∧ 0 < x0 (cyc zs k) (cyc zs i)
  near : ∀ i, -168 ≤ (cyc zs i).1 ∧ (cyc zs i).1 ≤ 168 ∧ -168 ≤ (cyc zs i).2 ∧ (cyc zs i).2 ≤ 168
theorem span_pos {p q r : Int × Int} {α β : Int} (h1 : 0 < x0 p q) (h2 : 0 < x0 q r) (h3 : 0 < x0 r p) (hp : α * p.1 + β * p.2 ≤ 0) (hq : α * q.1 + β * q.2 ≤ 0) (hr : α * r.1 + β * r.2 ≤ 0) : α * p.1 + β * p.2 = α * q.1 + β * q.2 := by
  have e : x0 q r * (α * p.1 + β * p.2) + x0 r p * (α * q.1 + β * q.2) + x0 p q * (α * r.1 + β * r.2) = 0 := by
    unfold x0
    grind
  have n1 := Int.mul_nonpos_of_nonneg_of_nonpos (Int.le_of_lt h2) hp
  have n2 := Int.mul_nonpos_of_nonneg_of_nonpos (Int.le_of_lt h3) hq
  have n3 := Int.mul_nonpos_of_nonneg_of_nonpos (Int.le_of_lt h1) hr
  have z1 := (Int.mul_eq_zero.mp (show x0 q r * (α * p.1 + β * p.2) = 0 by omega)).resolve_left (by omega)
  have z2 := (Int.mul_eq_zero.mp (show x0 r p * (α * q.1 + β * q.2) = 0 by omega)).resolve_left (by omega)
  rw [z1, z2]
/-- on each side that tells corners apart there is an outmost one, and it bends left -/
theorem Round.outmost {zs : List (Int × Int)} (h : Round zs) (α β : Int) (inj : ∀ i j, α * (cyc zs i).1 + β * (cyc zs i).2 = α * (cyc zs j).1 + β * (cyc zs j).2 → cyc zs i = cyc zs j) :
    ∃ k, k < zs.length ∧ (∀ i, α * (cyc zs i).1 + β * (cyc zs i).2 ≤ α * (cyc zs k).1 + β * (cyc zs k).2) ∧ 0 < α * (cyc zs k).1 + β * (cyc zs k).2 ∧ 0 < cr (cyc zs (k + zs.length - 1)) (cyc zs (k + zs.length - 1 + 1)) (cyc zs (k + zs.length - 1 + 2)) := by
  have h3 := h.len
  obtain ⟨k, hk, hm⟩ := max_at (fun i => α * (cyc zs i).1 + β * (cyc zs i).2) zs.length (by omega)
  have hm' : ∀ i, α * (cyc zs i).1 + β * (cyc zs i).2 ≤ α * (cyc zs k).1 + β * (cyc zs k).2 := fun i => by
    have := hm (i % zs.length) (Nat.mod_lt _ (by omega))
    rwa [cyc_mod] at this
  have hv : 0 < α * (cyc zs k).1 + β * (cyc zs k).2 := by
    refine Classical.byContradiction fun n => ?_
    obtain ⟨p, q, r, h1, h2, h3⟩ := h.span
    have e := inj p q (span_pos h1 h2 h3 (by have := hm' p; omega) (by have := hm' q; omega) (by have := hm' r; omega))
    rw [e] at h1
    unfold x0 at h1
    grind
  refine ⟨k, hk, hm', hv, ?_⟩
  have p1 := h.pos (k + zs.length - 1)
  have p2 := h.pos k
  rw [show k + zs.length - 1 + 1 = k + zs.length by omega, cyc_per] at p1 ⊢
  rw [show k + zs.length - 1 + 2 = k + 1 + zs.length by omega, cyc_per]
  refine left_max p1 p2 hv ?_ (hm' _)
  refine Int.lt_iff_le_and_ne.mpr ⟨hm' _, fun z => ?_⟩
  have e := inj _ _ z
  rw [e] at p1
  unfold x0 at p1
  grind
theorem lex_inj {N g h : Int} (hN : 0 < N) (hb : -N < h ∧ h < N) (e : N * g + h = 0) : g = 0 ∧ h = 0 := by
  have hg : g = 0 := by
    rcases Int.lt_trichotomy g 0 with c | c | c
    · have := Int.mul_le_mul_of_nonneg_left (show g ≤ -1 by omega) (Int.le_of_lt hN)
      omega
    · exact c
    · have := Int.mul_le_mul_of_nonneg_left (show 1 ≤ g by omega) (Int.le_of_lt hN)
      omega
  subst hg
  omega
theorem mul_box {a b A B : Int} (h1 : -A ≤ a ∧ a ≤ A) (h2 : -B ≤ b ∧ b ≤ B) : -(A * B) ≤ a * b ∧ a * b ≤ A * B := by
  have hA : 0 ≤ A := by omega
  have k : (a * b).natAbs ≤ (A * B).natAbs := by
    rw [Int.natAbs_mul, Int.natAbs_mul]
    exact Nat.mul_le_mul (by omega) (by omega)
  have : 0 ≤ A * B := Int.mul_nonneg hA (by omega)
  omega
theorem Round.left {zs : List (Int × Int)} (h : Round zs) : 3 ≤ lfC zs := by
  have h3 := h.len
  obtain ⟨k1, hk1, m1, v1, l1⟩ := h.outmost 1000 1 (fun i j e => by
    have a := h.near i
    have b := h.near j
    have : (cyc zs i).1 = (cyc zs j).1 ∧ (cyc zs i).2 = (cyc zs j).2 := by omega
    exact Prod.ext this.1 this.2)
  obtain ⟨k2, hk2, m2, v2, l2⟩ := h.outmost (-1000) (-1) (fun i j e => by
    have a := h.near i
    have b := h.near j
    have : (cyc zs i).1 = (cyc zs j).1 ∧ (cyc zs i).2 = (cyc zs j).2 := by omega
    exact Prod.ext this.1 this.2)
  have hne : ¬ ((cyc zs k2).1 - (cyc zs k1).1 = 0 ∧ (cyc zs k2).2 - (cyc zs k1).2 = 0) := by omega
  have hkne : k1 ≠ k2 := by rintro rfl; omega
  -- a corner that is not on the line through both
  obtain ⟨t, s, hs, ht⟩ : ∃ t s, (s = 1 ∨ s = -1) ∧ 0 < s * cr (cyc zs k1) (cyc zs k2) (cyc zs t) := by
    refine Classical.byContradiction fun n => ?_
    have z : ∀ t, cr (cyc zs k1) (cyc zs k2) (cyc zs t) = 0 := fun t => by
      rcases Int.lt_trichotomy (cr (cyc zs k1) (cyc zs k2) (cyc zs t)) 0 with c | c | c
      · exact absurd ⟨t, -1, .inr rfl, by omega⟩ n
      · exact c
      · exact absurd ⟨t, 1, .inl rfl, by omega⟩ n
    obtain ⟨p, q, r, s1, s2, s3⟩ := h.span
    have zp := z p
    have zq := z q
    have zr := z r
    generalize cyc zs p = P at *
    generalize cyc zs q = Q at *
    generalize cyc zs r = R at *
    generalize cyc zs k1 = A at *
    generalize cyc zs k2 = B at *
    have cc : 0 < cr P Q R := by
      have : cr P Q R = x0 P Q + x0 Q R + x0 R P := by unfold cr x0; grind
      omega
    have f1 : (B.1 - A.1) * cr P Q R = 0 := by
      have : (B.1 - A.1) * cr P Q R = (Q.1 - P.1) * (cr A B R - cr A B P) - (R.1 - P.1) * (cr A B Q - cr A B P) := by unfold cr; grind
      rw [this, zp, zq, zr]
      omega
    have f2 : (B.2 - A.2) * cr P Q R = 0 := by
      have : (B.2 - A.2) * cr P Q R = (Q.2 - P.2) * (cr A B R - cr A B P) - (R.2 - P.2) * (cr A B Q - cr A B P) := by unfold cr; grind
      rw [this, zp, zq, zr]
      omega
    have f1 := (Int.mul_eq_zero.mp f1).resolve_right (by omega)
    have f2 := (Int.mul_eq_zero.mp f2).resolve_right (by omega)
    exact hne ⟨f1, f2⟩
  have na := h.near k1
  have nb := h.near k2
  generalize hdx : (cyc zs k2).1 - (cyc zs k1).1 = dx at *
  generalize hdy : (cyc zs k2).2 - (cyc zs k1).2 = dy at *
  have bx : -336 ≤ dx ∧ dx ≤ 336 := by omega
  have by' : -336 ≤ dy ∧ dy ≤ 336 := by omega
  have lin : ∀ p : Int × Int, (10000000 * (s * -dy) + dx) * p.1 + (10000000 * (s * dx) + dy) * p.2 = 10000000 * (s * (dx * p.2 - dy * p.1)) + (dx * p.1 + dy * p.2) := fun p => by grind
  have inj : ∀ i j, (10000000 * (s * -dy) + dx) * (cyc zs i).1 + (10000000 * (s * dx) + dy) * (cyc zs i).2 = (10000000 * (s * -dy) + dx) * (cyc zs j).1 + (10000000 * (s * dx) + dy) * (cyc zs j).2 → cyc zs i = cyc zs j := fun i j e => by
    have a := h.near i
    have b := h.near j
    rw [lin, lin] at e
    generalize cyc zs i = P at *
    generalize cyc zs j = Q at *
    obtain ⟨P1, P2⟩ := P
    obtain ⟨Q1, Q2⟩ := Q
    dsimp only at *
    have b1 := mul_box bx (show -336 ≤ P1 - Q1 ∧ P1 - Q1 ≤ 336 by omega)
    have b2 := mul_box by' (show -336 ≤ P2 - Q2 ∧ P2 - Q2 ≤ 336 by omega)
    obtain ⟨z1, z2⟩ := lex_inj (N := 10000000) (g := s * (dx * (P2 - Q2) - dy * (P1 - Q1))) (h := dx * (P1 - Q1) + dy * (P2 - Q2)) (by decide) (by omega) (by grind)
    have z1 := (Int.mul_eq_zero.mp z1).resolve_left (by omega)
    have f : dx * dx + dy * dy ≠ 0 := fun z => by
      have q1 : 0 ≤ dx * dx := by rcases Int.le_total 0 dx with h | h; exact Int.mul_nonneg h h; exact Int.mul_nonneg_of_nonpos_of_nonpos h h
      have q2 : 0 ≤ dy * dy := by rcases Int.le_total 0 dy with h | h; exact Int.mul_nonneg h h; exact Int.mul_nonneg_of_nonpos_of_nonpos h h
      exact hne ⟨(Int.mul_eq_zero.mp (show dx * dx = 0 by omega)).elim id id, (Int.mul_eq_zero.mp (show dy * dy = 0 by omega)).elim id id⟩
    have g1 : (dx * dx + dy * dy) * (P1 - Q1) = 0 := by grind
    have g2 : (dx * dx + dy * dy) * (P2 - Q2) = 0 := by grind
    have g1 := (Int.mul_eq_zero.mp g1).resolve_left f
    have g2 := (Int.mul_eq_zero.mp g2).resolve_left f
    rw [show P1 = Q1 by omega, show P2 = Q2 by omega]
  obtain ⟨k3, hk3, m3, v3, l3⟩ := h.outmost _ _ inj
  have far : ∀ k, s * cr (cyc zs k1) (cyc zs k2) (cyc zs k) = 0 → k3 ≠ k := fun k z e => by
    subst e
    have mt := m3 t
    rw [lin, lin] at mt
    have nt := h.near t
    have nk := h.near k3
    have ct : s * cr (cyc zs k1) (cyc zs k2) (cyc zs t) = s * (dx * (cyc zs t).2 - dy * (cyc zs t).1) - s * (dx * (cyc zs k1).2 - dy * (cyc zs k1).1) := by
      unfold cr
      rw [hdx, hdy]
      grind
    have ck : s * cr (cyc zs k1) (cyc zs k2) (cyc zs k3) = s * (dx * (cyc zs k3).2 - dy * (cyc zs k3).1) - s * (dx * (cyc zs k1).2 - dy * (cyc zs k1).1) := by
      unfold cr
      rw [hdx, hdy]
      grind
    have b1 := mul_box bx (show -168 ≤ (cyc zs t).1 ∧ (cyc zs t).1 ≤ 168 by omega)
    have b2 := mul_box by' (show -168 ≤ (cyc zs t).2 ∧ (cyc zs t).2 ≤ 168 by omega)
    have b3 := mul_box bx (show -168 ≤ (cyc zs k3).1 ∧ (cyc zs k3).1 ≤ 168 by omega)
    have b4 := mul_box by' (show -168 ≤ (cyc zs k3).2 ∧ (cyc zs k3).2 ≤ 168 by omega)
    omega
  have n1 : k3 ≠ k1 := far k1 (by unfold cr; grind)
  have n2 : k3 ≠ k2 := far k2 (by unfold cr; grind)
  have one : ∀ k, k < zs.length → 0 < cr (cyc zs (k + zs.length - 1)) (cyc zs (k + zs.length - 1 + 1)) (cyc zs (k + zs.length - 1 + 2)) → 1 ≤ (fun i => if 0 < cr (cyc zs i) (cyc zs (i + 1)) (cyc zs (i + 2)) then (1 : Int) else 0) ((k + zs.length - 1) % zs.length) := fun k hk l => by
    dsimp only
    rw [cyc_mod, cyc_modA, cyc_modA, if_pos l]
    exact Int.le_refl _
  have md : ∀ a b, a < zs.length → b < zs.length → a ≠ b → (a + zs.length - 1) % zs.length ≠ (b + zs.length - 1) % zs.length := fun a b ha hb hab => by
    have r : ∀ a, a < zs.length → (a + zs.length - 1) % zs.length = if a = 0 then zs.length - 1 else a - 1 := fun a ha => by
      split
      · rw [Nat.mod_eq_of_lt (by omega)]; omega
      · rw [show a + zs.length - 1 = a - 1 + zs.length by omega, Nat.add_mod_right, Nat.mod_eq_of_lt (by omega)]
    rw [r a ha, r b hb]
    split <;> split <;> omega
  unfold lfC
  exact sumN_three' (g := fun i => if 0 < cr (cyc zs i) (cyc zs (i + 1)) (cyc zs (i + 2)) then (1 : Int) else 0) (fun i => by split <;> decide)
    (md _ _ hk1 hk2 hkne) (md _ _ hk2 hk3 (Ne.symm n2)) (md _ _ hk1 hk3 (Ne.symm n1)) (Nat.mod_lt _ (by omega)) (Nat.mod_lt _ (by omega)) (Nat.mod_lt _ (by omega)) (one _ hk1 l1) (one _ hk2 l2) (one _ hk3 l3)
end Odd
/-! drawn stars -/
namespace Odd
open GeoZ
theorem rayE_eq {j : Nat} (h : j < 24) : rayE j = rayZ j := by unfold rayE; rw [Nat.mod_eq_of_lt h]
theorem rayE_24 (j : Nat) : rayE (j + 24) = rayE j := by unfold rayE; rw [Nat.add_mod_right]
theorem farR_24 (j : Nat) (l : Int) : farR (j + 24) l = farR j l := by unfold farR; rw [rayE_24]
theorem starPt_far {j : Nat} (h : j < 24) (l : Int) : starPt j l = farR j l := by
  unfold farR
  rw [rayE_eq h]
  rfl
theorem x0_far (a b : Nat) (k l : Int) : x0 (farR a k) (farR b l) = x0 (rayE a) (rayE b) * (k * l) := by
  unfold x0 farR
  dsimp only
  grind
theorem StarRow.fine {size : Int} {zs : List (Int × Int)} {m : Nat} (h3 : 3 ≤ m) (h0 : 0 < size) (hs : size ≤ 6) (h : StarRow size zs m) : Fine zs := by
  obtain ⟨js, ls, hp, e1, e2, h24, ⟨a, ha, a4⟩, ⟨b, hb, b8, b12⟩, ⟨c, hc, c16, c20⟩, hl, rfl⟩ := h
  have lz : (List.zipWith starPt js ls).length = m := by rw [List.length_zipWith]; omega
  generalize hz : List.zipWith starPt js ls = zs at *
  -- the rays and the lengths in their order
  obtain ⟨J, L, hJ, hL, hJm, hcy⟩ : ∃ (J : Nat → Nat) (L : Nat → Int), (∀ i j, i < j → j < m → J i < J j) ∧ (∀ i, i < m → J i < 24 ∧ 0 < L i ∧ L i < 24) ∧ (∀ j ∈ js, ∃ i, i < m ∧ J i = j) ∧ ∀ i, i < m → cyc zs i = farR (J i) (L i) := by
    refine ⟨fun i => js.getD i 0, fun i => ls.getD i 1, fun i j hij hj => ?_, fun i hi => ?_, fun j hj => ?_, fun i hi => ?_⟩
    · have := List.pairwise_iff_getElem.mp hp i j (by omega) (by omega) hij
      dsimp only
      rw [List.getD_eq_getElem?_getD, List.getD_eq_getElem?_getD, List.getElem?_eq_getElem (by omega), List.getElem?_eq_getElem (by omega)]
      exact this
    · dsimp only
      rw [List.getD_eq_getElem?_getD, List.getD_eq_getElem?_getD, List.getElem?_eq_getElem (by omega), List.getElem?_eq_getElem (by omega)]
      have q1 := h24 _ (List.getElem_mem (l := js) (n := i) (by omega))
      have q2 := hl _ (List.getElem_mem (l := ls) (n := i) (by omega))
      exact ⟨q1, by show 0 < ls[i]; omega, by show ls[i] < 24; omega⟩
    · obtain ⟨i, hi, rfl⟩ := List.mem_iff_getElem.mp hj
      refine ⟨i, by omega, ?_⟩
      dsimp only
      rw [List.getD_eq_getElem?_getD, List.getElem?_eq_getElem (by omega)]
      rfl
    · refine cyc_eq ?_
      dsimp only
      rw [← hz, List.getElem?_zipWith, List.getD_eq_getElem?_getD, List.getD_eq_getElem?_getD, List.getElem?_eq_getElem (by omega), List.getElem?_eq_getElem (by omega)]
      have q1 := h24 _ (List.getElem_mem (l := js) (n := i) (by omega))
      show some (starPt js[i] ls[i]) = _
      rw [starPt_far q1]
      rfl
  obtain ⟨ia, ia1, rfl⟩ := hJm a ha
  obtain ⟨ib, ib1, rfl⟩ := hJm b hb
  obtain ⟨ic, ic1, rfl⟩ := hJm c hc
  have le : ∀ i j, i ≤ j → j < m → J i ≤ J j := fun i j h1 h2 => by
    rcases Nat.eq_or_lt_of_le h1 with rfl | h
    · exact Nat.le_refl _
    · exact Nat.le_of_lt (hJ i j h h2)
  have gap : ∀ i, i + 1 < m → J (i + 1) < J i + 12 := fun i hi => by
    have o := hJ i (i + 1) (by omega) hi
    have t := (hL (i + 1) hi).1
    have na : ∀ k, k < m → ¬ (J i < J k ∧ J k < J (i + 1)) := fun k hk ⟨n1, n2⟩ => by
      rcases Nat.lt_or_ge i k with c | c
      · have := le (i + 1) k (by omega) hk; omega
      · have := le k i c (by omega); omega
    have := na _ ia1
    have := na _ ib1
    have := na _ ic1
    omega
  have first : J 0 < 4 := by have := le 0 ia (by omega) ia1; omega
  have last : 16 ≤ J (m - 1) := by have := le ic (m - 1) (by omega) (by omega); omega
  have lastT := (hL (m - 1) (by omega)).1
  -- extended by one round
  have cn : cyc zs m = farR (J 0 + 24) (L 0) := by
    have e := cyc_per zs 0
    rw [lz, Nat.zero_add] at e
    rw [e, hcy 0 (by omega), farR_24]
  obtain ⟨J', L', hJ', hL', hcy', hx⟩ : ∃ (J' : Nat → Nat) (L' : Nat → Int), (∀ i, i < m → J' i < J' (i + 1) ∧ J' (i + 1) < J' i + 12) ∧ (∀ i, i ≤ m → 0 < L' i) ∧ (∀ i, i ≤ m → cyc zs i = farR (J' i) (L' i)) ∧ (∀ i, i < m → J' i = J i) ∧ J' m = J 0 + 24 := by
    refine ⟨fun i => if i = m then J 0 + 24 else J i, fun i => if i = m then L 0 else L i, fun i hi => ?_, fun i hi => ?_, fun i hi => ?_, fun i hi => ?_, ?_⟩
    · dsimp only
      rw [if_neg (by omega)]
      by_cases e : i + 1 = m
      · rw [if_pos e, show i = m - 1 by omega]
        omega
      · rw [if_neg e]
        exact ⟨hJ _ _ (by omega) (by omega), gap i (by omega)⟩
    · dsimp only
      split
      · exact (hL 0 (by omega)).2.1
      · exact (hL i (by omega)).2.1
    · dsimp only
      by_cases e : i = m
      · rw [if_pos e, if_pos e, e, cn]
      · rw [if_neg e, if_neg e, hcy i (by omega)]
    · dsimp only
      rw [if_neg (by omega)]
    · dsimp only
      rw [if_pos rfl]
  have up : ∀ i j, i < j → j ≤ m → J' i < J' j := fun i j h1 h2 => by
    induction j with
    | zero => omega
    | succ j ih =>
      have s := (hJ' j (by omega)).1
      rcases Nat.eq_or_lt_of_le (show i ≤ j by omega) with rfl | h
      · exact s
      · exact Nat.lt_trans (ih h (by omega)) s
  have pos : ∀ i, 0 < x0 (cyc zs i) (cyc zs (i + 1)) := fun i => by
    rw [← cyc_mod, ← cyc_modA, lz]
    have hi := Nat.mod_lt i (show 0 < m by omega)
    generalize i % m = r at *
    rw [hcy' r (by omega), hcy' (r + 1) (by omega), x0_far]
    obtain ⟨g1, g2⟩ := hJ' r hi
    exact Int.mul_pos (rayE_pos g1 g2) (Int.mul_pos (hL' _ (by omega)) (hL' _ (by omega)))
  have rd : Round zs := by
    refine ⟨by omega, pos, ⟨ia, ib, ic, ?_, ?_, ?_⟩, fun i => ?_⟩
    · rw [hcy _ ia1, hcy _ ib1, x0_far]
      exact Int.mul_pos (rayE_pos (by omega) (by omega)) (Int.mul_pos (hL _ ia1).2.1 (hL _ ib1).2.1)
    · rw [hcy _ ib1, hcy _ ic1, x0_far]
      exact Int.mul_pos (rayE_pos (by omega) (by omega)) (Int.mul_pos (hL _ ib1).2.1 (hL _ ic1).2.1)
    · rw [hcy _ ia1, hcy _ ic1, ← farR_24 (J ia), x0_far]
      exact Int.mul_pos (rayE_pos (by omega) (by omega)) (Int.mul_pos (hL _ ic1).2.1 (hL _ ia1).2.1)
    · rw [← cyc_mod, lz]
      have hi := Nat.mod_lt i (show 0 < m by omega)
      generalize i % m = r at *
      rw [hcy r hi]
      obtain ⟨t1, t2, t3⟩ := hL r hi
      have tb : ∀ j : Fin 24, -7 ≤ (rayE j.1).1 ∧ (rayE j.1).1 ≤ 7 ∧ -7 ≤ (rayE j.1).2 ∧ (rayE j.1).2 ≤ 7 := by decide +kernel
      obtain ⟨u1, u2, u3, u4⟩ : -7 ≤ (rayE (J r)).1 ∧ (rayE (J r)).1 ≤ 7 ∧ -7 ≤ (rayE (J r)).2 ∧ (rayE (J r)).2 ≤ 7 := tb ⟨J r, t1⟩
      have w1 := mul_box (A := 7) (B := 24) ⟨u1, u2⟩ (show -24 ≤ L r ∧ L r ≤ 24 by omega)
      have w2 := mul_box (A := 7) (B := 24) ⟨u3, u4⟩ (show -24 ≤ L r ∧ L r ≤ 24 by omega)
      exact ⟨by show _ ≤ (rayE (J r)).1 * L r; omega, by show (rayE (J r)).1 * L r ≤ _; omega, by show _ ≤ (rayE (J r)).2 * L r; omega, by show (rayE (J r)).2 * L r ≤ _; omega⟩
  refine ⟨poly_of (by omega) (fun i _ => ?_) (fun i j h1 h2 h4 => ?_), ?_, rd.left⟩
  · exact ahead_x0 (pos i) (pos (i + 1))
  · rw [lz] at h2 h4
    rw [hcy' i (by omega), hcy' (i + 1) (by omega), hcy' j (by omega), hcy' (j + 1) (by omega)]
    have k1 := hJ' i (by omega)
    have k2 := hJ' j h2
    have k3 := up (i + 1) j (by omega) (by omega)
    refine star_sep k1.1 k3 k2.1 ?_ k1.2 k2.2 (hL' _ (by omega)) (hL' _ (by omega)) (hL' _ (by omega)) (hL' _ (by omega))
    rcases Nat.eq_or_lt_of_le (show j + 1 ≤ m by omega) with e | e
    · rw [e, hx.2]
      have := hJ 0 i (by omega) (by omega)
      rw [hx.1 i (by omega)]
      omega
    · rw [hx.1 _ e, hx.1 i (by omega)]
      have := (hL (j + 1) e).1
      omega
  · have k : ∀ n, 0 < n → 0 < sumN (fun i => x0 (cyc zs i) (cyc zs (i + 1))) n := fun n hn => by
      obtain ⟨n, rfl⟩ : ∃ k, n = k + 1 := ⟨n - 1, by omega⟩
      exact Int.add_pos_of_nonneg_of_pos (sumN_nonneg (fun i => Int.le_of_lt (pos i)) n) (pos n)
    exact k _ (by omega)
end Odd
/-! drawn strips -/
namespace Odd
open GeoZ
/-- two sides with all places of the one ahead of all of the other -/
theorem sep_left {a b c d : Int × Int} {t : Int} (h1 : a.1 ≤ t) (h2 : b.1 ≤ t) (h3 : t < c.1) (h4 : t < d.1) : SepZ a b c d := by
  refine ⟨-2, 0, 2 * t + 1, ?_, ?_, ?_, ?_⟩ <;> unfold af <;> omega
/-- a lower and an upper one over one step -/
theorem sep_mid {x0' x1 l0 l1 h0 h1 : Int} (hx : x0' < x1) (hl : l0 < h0) (hl' : l1 < h1) : SepZ (x0', l0) (x1, l1) (x1, h1) (x0', h0) := by
  have p0 := Int.mul_pos (show 0 < x1 - x0' by omega) (show 0 < h0 - l0 by omega)
  have p1 := Int.mul_pos (show 0 < x1 - x0' by omega) (show 0 < h1 - l1 by omega)
  refine ⟨(l1 + h1) - (l0 + h0), -2 * (x1 - x0'), (x1 - x0') * (l0 + h0) - ((l1 + h1) - (l0 + h0)) * x0', ?_, ?_, ?_, ?_⟩ <;> unfold af <;> dsimp only <;> grind
/-- a lower one, and an upper one that begins where it ends -/
theorem sep_up {xa x xb la l h hb : Int} (h1 : xa < x) (h2 : x < xb) (hl : l < h) (ba : -100 ≤ la ∧ la ≤ 100) (bl : -100 ≤ l ∧ l ≤ 100) (bh : -100 ≤ h ∧ h ≤ 100) (bb : -100 ≤ hb ∧ hb ≤ 100) : SepZ (xa, la) (x, l) (xb, hb) (x, h) := by
  refine ⟨-1000, -2, 1000 * x + (l + h), ?_, ?_, ?_, ?_⟩ <;> unfold af <;> dsimp only <;> omega
/-- a lower one, and an upper one that ends where it begins -/
theorem sep_down {xa x xb lb l h ha : Int} (h1 : xa < x) (h2 : x < xb) (hl : l < h) (ba : -100 ≤ ha ∧ ha ≤ 100) (bl : -100 ≤ l ∧ l ≤ 100) (bh : -100 ≤ h ∧ h ≤ 100) (bb : -100 ≤ lb ∧ lb ≤ 100) : SepZ (x, l) (xb, lb) (x, h) (xa, ha) := by
  refine ⟨1000, -2, -1000 * x + (l + h), ?_, ?_, ?_, ?_⟩ <;> unfold af <;> dsimp only <;> omega
theorem ahead_of {a b c : Int × Int} (α β : Int) (h1 : 0 < α * (b.1 - a.1) + β * (b.2 - a.2)) (h2 : 0 < α * (c.1 - b.1) + β * (c.2 - b.2)) : AheadZ a b c := ⟨α, β, h1, h2⟩
theorem StripRow.fine {zs : List (Int × Int)} {m : Nat} (h2 : 2 ≤ m) (h : StripRow zs m) : Fine zs := by
  obtain ⟨rs, p, ⟨hp, p0, p1, hr⟩, lr, hz⟩ := h
  have lz : zs.length = 2 * m := by
    rw [hz, List.length_append, List.length_reverse, List.length_map, List.length_map]
    omega
  obtain ⟨X, L, U, hX, hb, hlo, hhi⟩ : ∃ X L U : Nat → Int, (∀ i j, i < j → j < m → X i < X j) ∧ (∀ i, i < m → 0 ≤ L i ∧ L i < 40 ∧ L i < U i ∧ U i < L i + 10) ∧ (∀ i, i < m → cyc zs i = (X i, L i)) ∧ ∀ i, i < m → cyc zs (2 * m - 1 - i) = (X i, U i) := by
    refine ⟨fun i => (rs.getD i (0, 0, 0)).1, fun i => (rs.getD i (0, 0, 0)).2.1, fun i => (rs.getD i (0, 0, 0)).2.2, fun i j hij hj => ?_, fun i hi => ?_, fun i hi => ?_, fun i hi => ?_⟩
    · have := List.pairwise_iff_getElem.mp hp i j (by omega) (by omega) hij
      dsimp only
      rw [List.getD_eq_getElem?_getD, List.getD_eq_getElem?_getD, List.getElem?_eq_getElem (by omega), List.getElem?_eq_getElem (by omega)]
      exact this
    · dsimp only
      rw [List.getD_eq_getElem?_getD, List.getElem?_eq_getElem (by omega)]
      exact (hr _ (List.getElem_mem (by omega))).2.2
    · refine cyc_eq ?_
      dsimp only
      rw [hz, List.getElem?_append_left (by rw [List.length_map]; omega), List.getElem?_map, List.getD_eq_getElem?_getD, List.getElem?_eq_getElem (by omega)]
      rfl
    · refine cyc_eq ?_
      dsimp only
      rw [hz, List.getElem?_append_right (by rw [List.length_map]; omega), List.length_map, List.getElem?_reverse (by rw [List.length_map]; omega), List.length_map, List.getElem?_map, List.getD_eq_getElem?_getD, show rs.length - 1 - (2 * m - 1 - i - rs.length) = i by omega, List.getElem?_eq_getElem (by omega)]
      rfl
  have cn : cyc zs (2 * m) = (X 0, L 0) := by
    rw [← lz, ← hlo 0 (by omega), ← cyc_per zs 0, Nat.zero_add]
  have cn1 : cyc zs (2 * m + 1) = (X 1, L 1) := by
    rw [← lz, ← hlo 1 (by omega), ← cyc_per zs 1, Nat.add_comm]
  have mo : ∀ i j, i ≤ j → j < m → X i ≤ X j := fun i j h1 h2 => by
    rcases Nat.eq_or_lt_of_le h1 with rfl | h
    · exact Int.le_refl _
    · exact Int.le_of_lt (hX i j h h2)
  -- the four kinds of sides
  have kinds : ∀ i, i < 2 * m → (i + 1 < m ∧ cyc zs i = (X i, L i) ∧ cyc zs (i + 1) = (X (i + 1), L (i + 1))) ∨ (i + 1 = m ∧ cyc zs i = (X (m - 1), L (m - 1)) ∧ cyc zs (i + 1) = (X (m - 1), U (m - 1))) ∨
      (∃ q, q + 1 < m ∧ i = 2 * m - 2 - q ∧ cyc zs i = (X (q + 1), U (q + 1)) ∧ cyc zs (i + 1) = (X q, U q)) ∨ (i + 1 = 2 * m ∧ cyc zs i = (X 0, U 0) ∧ cyc zs (i + 1) = (X 0, L 0)) := fun i hi => by
    rcases (by omega : i + 1 < m ∨ i + 1 = m ∨ (m ≤ i ∧ i + 1 < 2 * m) ∨ i + 1 = 2 * m) with c | c | c | c
    · exact .inl ⟨c, hlo i (by omega), hlo (i + 1) c⟩
    · refine .inr (.inl ⟨c, ?_, ?_⟩)
      · rw [show i = m - 1 by omega]; exact hlo _ (by omega)
      · rw [← hhi (m - 1) (by omega), show i + 1 = 2 * m - 1 - (m - 1) by omega]
    · refine .inr (.inr (.inl ⟨2 * m - 2 - i, by omega, by omega, ?_, ?_⟩))
      · rw [← hhi (2 * m - 2 - i + 1) (by omega), show 2 * m - 1 - (2 * m - 2 - i + 1) = i by omega]
      · rw [← hhi (2 * m - 2 - i) (by omega), show 2 * m - 1 - (2 * m - 2 - i) = i + 1 by omega]
    · refine .inr (.inr (.inr ⟨c, ?_, ?_⟩))
      · rw [← hhi 0 (by omega), show 2 * m - 1 - 0 = i by omega]
      · rw [c, cn]
  have b0 := hb 0 (by omega)
  have bm := hb (m - 1) (by omega)
  refine ⟨poly_of (by omega) (fun i hi => ?_) (fun i j h1 h3 h4 => ?_), ?_, ?_⟩
  · rw [lz] at hi
    rcases kinds i hi with ⟨c, e1, e2⟩ | ⟨c, e1, e2⟩ | ⟨q, c, ei, e1, e2⟩ | ⟨c, e1, e2⟩
    · have x1 := hX i (i + 1) (by omega) c
      have y1 := hb i (by omega)
      have y2 := hb (i + 1) c
      rcases (by omega : i + 2 < m ∨ i + 2 = m) with k | k
      · have x2 := hX (i + 1) (i + 2) (by omega) k
        rw [e1, e2, hlo (i + 2) k]
        exact ahead_of 1 0 (by dsimp only; omega) (by dsimp only; omega)
      · have e3 := hhi (m - 1) (by omega)
        rw [show 2 * m - 1 - (m - 1) = i + 2 by omega] at e3
        rw [e1, e2, e3, show m - 1 = i + 1 by omega]
        exact ahead_of 1000 1 (by dsimp only; omega) (by dsimp only; omega)
    · have x1 := hX (m - 2) (m - 1) (by omega) (by omega)
      have y1 := hb (m - 2) (by omega)
      have e3 := hhi (m - 2) (by omega)
      rw [show 2 * m - 1 - (m - 2) = i + 2 by omega] at e3
      rw [e1, e2, e3]
      exact ahead_of (-1000) 1 (by dsimp only; omega) (by dsimp only; omega)
    · have x1 := hX q (q + 1) (by omega) c
      have y1 := hb q (by omega)
      have y2 := hb (q + 1) c
      rcases (by omega : 0 < q ∨ q = 0) with k | rfl
      · have e3 := hhi (q - 1) (by omega)
        have x2 := hX (q - 1) q (by omega) (by omega)
        rw [show 2 * m - 1 - (q - 1) = i + 2 by omega] at e3
        rw [e1, e2, e3]
        exact ahead_of (-1) 0 (by dsimp only; omega) (by dsimp only; omega)
      · rw [e1, e2, show i + 2 = 2 * m by omega, cn]
        exact ahead_of (-1000) (-1) (by dsimp only; omega) (by dsimp only; omega)
    · have x1 := hX 0 1 (by omega) (by omega)
      have y1 := hb 1 (by omega)
      rw [e1, e2, show i + 2 = 2 * m + 1 by omega, cn1]
      exact ahead_of 1000 (-1) (by dsimp only; omega) (by dsimp only; omega)
  · rw [lz] at h3 h4
    rcases kinds i (by omega) with ⟨c, e1, e2⟩ | ⟨c, e1, e2⟩ | ⟨q, c, ei, e1, e2⟩ | ⟨c, e1, e2⟩ <;>
      rcases kinds j h3 with ⟨d, f1, f2⟩ | ⟨d, f1, f2⟩ | ⟨r, d, fj, f1, f2⟩ | ⟨d, f1, f2⟩ <;> rw [e1, e2, f1, f2]
    · have x1 := mo i (i + 1) (by omega) c
      have x2 := hX (i + 1) j (by omega) (by omega)
      have x3 := mo j (j + 1) (by omega) d
      exact sep_left (t := X (i + 1)) x1 (Int.le_refl _) x2 (by dsimp only; omega)
    · have x1 := mo i (i + 1) (by omega) c
      have x2 := hX (i + 1) (m - 1) (by omega) (by omega)
      exact sep_left (t := X (i + 1)) x1 (Int.le_refl _) x2 x2
    · have x1 := hX i (i + 1) (by omega) c
      have y1 := hX r (r + 1) (by omega) d
      have bi := hb i (by omega)
      have bi1 := hb (i + 1) c
      have br := hb r (by omega)
      have br1 := hb (r + 1) d
      rcases (by omega : i + 1 < r ∨ i + 1 = r ∨ i = r ∨ r + 1 = i ∨ r + 1 < i) with k | k | k | k | k
      · have z := hX (i + 1) r k (by omega)
        exact sep_left (t := X (i + 1)) (by dsimp only; omega) (Int.le_refl _) (by dsimp only; omega) z
      · subst k
        exact sep_up x1 y1 (by omega) (by omega) (by omega) (by omega) (by omega)
      · subst k
        exact sep_mid x1 (by omega) (by omega)
      · subst k
        exact sep_down y1 x1 (by omega) (by omega) (by omega) (by omega) (by omega)
      · have z := hX (r + 1) i k (by omega)
        exact (sep_left (t := X (r + 1)) (Int.le_refl _) (by dsimp only; omega) z (by dsimp only; omega)).neg
    · have x1 := hX i (i + 1) (by omega) c
      have x2 := hX 0 i (by omega) (by omega)
      exact (sep_left (t := X 0) (Int.le_refl _) (Int.le_refl _) x2 (by dsimp only; omega)).neg
    all_goals first | (exfalso; omega) | skip
    · have y1 := hX r (r + 1) (by omega) d
      have z := hX (r + 1) (m - 1) (by omega) (by omega)
      exact (sep_left (t := X (r + 1)) (Int.le_refl _) (by dsimp only; omega) z z).neg
    · have z := hX 0 (m - 1) (by omega) (by omega)
      exact (sep_left (t := X 0) (Int.le_refl _) (Int.le_refl _) z z).neg
    · have x1 := hX q (q + 1) (by omega) c
      have y1 := hX r (r + 1) (by omega) d
      have z := hX (r + 1) q (by omega) (by omega)
      exact (sep_left (t := X (r + 1)) (Int.le_refl _) (by dsimp only; omega) (by dsimp only; omega) z).neg
    · have x1 := hX q (q + 1) (by omega) c
      have z := hX 0 q (by omega) (by omega)
      exact (sep_left (t := X 0) (Int.le_refl _) (Int.le_refl _) (by dsimp only; omega) z).neg
  · have st : ∀ i, i + 1 < m → 0 < (X (i + 1) - X i) * ((U i - L i) + (U (i + 1) - L (i + 1))) := fun i hi => by
      have := hX i (i + 1) (by omega) hi
      have := hb i (by omega)
      have := hb (i + 1) hi
      exact Int.mul_pos (by omega) (by omega)
    -- the lower ones from the left, the upper ones from the right
    have low : ∀ n, n + 1 ≤ m → sumN (fun i => x0 (cyc zs i) (cyc zs (i + 1))) n = sumN (fun i => x0 (X i, L i) (X (i + 1), L (i + 1))) n := fun n hn => sumN_congr fun i hi => by
      rw [hlo i (by omega), hlo (i + 1) (by omega)]
    have half : ∀ n, n + 1 ≤ m → sumN (fun i => x0 (cyc zs i) (cyc zs (i + 1))) (2 * m - 1) = sumN (fun i => x0 (cyc zs i) (cyc zs (i + 1))) (2 * m - 1 - n) + sumN (fun i => x0 (X (i + 1), U (i + 1)) (X i, U i)) n := by
      intro n
      induction n with
      | zero => intro _; show _ = sumN _ (2 * m - 1) + 0; omega
      | succ n ih =>
        intro hn
        rw [ih (by omega), show 2 * m - 1 - n = (2 * m - 1 - (n + 1)) + 1 by omega]
        show (sumN (fun i => x0 (cyc zs i) (cyc zs (i + 1))) (2 * m - 1 - (n + 1)) + x0 (cyc zs (2 * m - 1 - (n + 1))) (cyc zs (2 * m - 1 - (n + 1) + 1))) + sumN _ n = _ + (sumN _ n + x0 (X (n + 1), U (n + 1)) (X n, U n))
        rw [hhi (n + 1) (by omega), show 2 * m - 1 - (n + 1) + 1 = 2 * m - 1 - n by omega, hhi n (by omega)]
        omega
    have all : sumN (fun i => x0 (cyc zs i) (cyc zs (i + 1))) (2 * m) = sumN (fun i => x0 (X i, L i) (X (i + 1), L (i + 1)) + x0 (X (i + 1), U (i + 1)) (X i, U i)) (m - 1) + x0 (X (m - 1), L (m - 1)) (X (m - 1), U (m - 1)) + x0 (X 0, U 0) (X 0, L 0) := by
      have h1 : sumN (fun i => x0 (cyc zs i) (cyc zs (i + 1))) (2 * m) = sumN (fun i => x0 (cyc zs i) (cyc zs (i + 1))) (2 * m - 1) + x0 (cyc zs (2 * m - 1)) (cyc zs (2 * m - 1 + 1)) := by
        rw [show sumN (fun i => x0 (cyc zs i) (cyc zs (i + 1))) (2 * m) = sumN (fun i => x0 (cyc zs i) (cyc zs (i + 1))) (2 * m - 1 + 1) by rw [show 2 * m - 1 + 1 = 2 * m by omega]]
        rfl
      have h2 := half (m - 1) (by omega)
      have h3 : sumN (fun i => x0 (cyc zs i) (cyc zs (i + 1))) m = sumN (fun i => x0 (cyc zs i) (cyc zs (i + 1))) (m - 1) + x0 (cyc zs (m - 1)) (cyc zs (m - 1 + 1)) := by
        rw [show sumN (fun i => x0 (cyc zs i) (cyc zs (i + 1))) m = sumN (fun i => x0 (cyc zs i) (cyc zs (i + 1))) (m - 1 + 1) by rw [show m - 1 + 1 = m by omega]]
        rfl
      have h4 := low (m - 1) (by omega)
      have e1 := hlo (m - 1) (by omega)
      have e2 := hhi (m - 1) (by omega)
      have e3 := hhi 0 (by omega)
      rw [show 2 * m - 1 - (m - 1) = m by omega] at h2 e2
      rw [show 2 * m - 1 - 0 = 2 * m - 1 by omega] at e3
      rw [show m - 1 + 1 = m by omega, e1, e2] at h3
      rw [e3, show 2 * m - 1 + 1 = 2 * m by omega, cn] at h1
      have ad : ∀ (f g : Nat → Int) n, sumN (fun i => f i + g i) n = sumN f n + sumN g n := fun f g n => by
        induction n with
        | zero => rfl
        | succ n ih =>
          show sumN (fun i => f i + g i) n + (f n + g n) = sumN f n + f n + (sumN g n + g n)
          rw [ih]
          omega
      rw [ad, h1, h2, h3, h4]
      omega
    have step : ∀ n, n + 1 ≤ m → sumN (fun i => x0 (X i, L i) (X (i + 1), L (i + 1)) + x0 (X (i + 1), U (i + 1)) (X i, U i)) n + X n * (U n - L n) - X 0 * (U 0 - L 0) = sumN (fun i => (X (i + 1) - X i) * ((U i - L i) + (U (i + 1) - L (i + 1)))) n := by
      intro n
      induction n with
      | zero => intro _; show (0 : Int) + _ - _ = 0; omega
      | succ n ih =>
        intro hn
        have := ih (by omega)
        show sumN (fun i => x0 (X i, L i) (X (i + 1), L (i + 1)) + x0 (X (i + 1), U (i + 1)) (X i, U i)) n + (x0 (X n, L n) (X (n + 1), L (n + 1)) + x0 (X (n + 1), U (n + 1)) (X n, U n)) + X (n + 1) * (U (n + 1) - L (n + 1)) - X 0 * (U 0 - L 0) = sumN (fun i => (X (i + 1) - X i) * ((U i - L i) + (U (i + 1) - L (i + 1)))) n + (X (n + 1) - X n) * ((U n - L n) + (U (n + 1) - L (n + 1)))
        have e : x0 (X n, L n) (X (n + 1), L (n + 1)) + x0 (X (n + 1), U (n + 1)) (X n, U n) + X (n + 1) * (U (n + 1) - L (n + 1)) - X n * (U n - L n) = (X (n + 1) - X n) * ((U n - L n) + (U (n + 1) - L (n + 1))) := by
          unfold x0
          grind
        omega
    have pos : ∀ n, n + 1 ≤ m → 1 ≤ n → 0 < sumN (fun i => (X (i + 1) - X i) * ((U i - L i) + (U (i + 1) - L (i + 1)))) n := by
      intro n
      induction n with
      | zero => intro _ h; omega
      | succ n ih =>
        intro hn _
        have s := st n (by omega)
        show 0 < sumN _ n + (X (n + 1) - X n) * ((U n - L n) + (U (n + 1) - L (n + 1)))
        rcases Nat.eq_zero_or_pos n with rfl | z
        · show 0 < 0 + _
          omega
        · have := ih (by omega) z
          omega
    unfold arC
    rw [lz, all]
    have p := pos (m - 1) (by omega) (by omega)
    rw [← step (m - 1) (by omega)] at p
    have e1 : x0 (X (m - 1), L (m - 1)) (X (m - 1), U (m - 1)) = X (m - 1) * (U (m - 1) - L (m - 1)) := by unfold x0; grind
    have e2 : x0 (X 0, U 0) (X 0, L 0) = - (X 0 * (U 0 - L 0)) := by unfold x0; grind
    omega
  · -- the ends bend left
    have xm := hX (m - 2) (m - 1) (by omega) (by omega)
    have x1 := hX 0 1 (by omega) (by omega)
    have l0 := hlo 0 (by omega); have l1 := hlo 1 (by omega)
    have u0 := hhi 0 (by omega); have u1 := hhi 1 (by omega)
    have lm := hlo (m - 1) (by omega); have lm2 := hlo (m - 2) (by omega)
    have um := hhi (m - 1) (by omega)
    unfold lfC
    rw [lz]
    refine sumN_three (i := m - 2) (j := 2 * m - 2) (k := 2 * m - 1) (fun i => by split <;> decide) (by omega) (by omega) (by omega) ?_ ?_ ?_ <;> rw [if_pos] <;> first | exact Int.le_refl _ | skip
    · rw [show m - 2 + 2 = 2 * m - 1 - (m - 1) by omega, show m - 2 + 1 = m - 1 by omega, lm, lm2, um]
      have := Int.mul_pos (show 0 < X (m - 1) - X (m - 2) by omega) (show 0 < U (m - 1) - L (m - 1) by omega)
      unfold cr
      grind
    · rw [show 2 * m - 2 + 2 = 2 * m by omega, show 2 * m - 2 + 1 = 2 * m - 1 - 0 by omega, show 2 * m - 2 = 2 * m - 1 - 1 by omega, cn, u0, u1]
      have := Int.mul_pos (show 0 < X 1 - X 0 by omega) (show 0 < U 0 - L 0 by omega)
      unfold cr
      grind
    · rw [show 2 * m - 1 + 2 = 2 * m + 1 by omega, show 2 * m - 1 + 1 = 2 * m by omega, cn, cn1, show 2 * m - 1 = 2 * m - 1 - 0 by omega, u0]
      have := Int.mul_pos (show 0 < X 1 - X 0 by omega) (show 0 < U 0 - L 0 by omega)
      unfold cr
      grind
end Odd
/-! fences beside one another, or within a box -/
namespace Odd
open GeoZ
def Win (b : Int) (p : Int × Int) : Prop := -b ≤ p.1 ∧ p.1 ≤ b ∧ -b ≤ p.2 ∧ p.2 ≤ b
theorem StripRow.win {zs : List (Int × Int)} {m : Nat} (hm : m ≤ 20) (h : StripRow zs m) : ∀ z ∈ zs, Win 5040 z := by
  obtain ⟨rs, p, ⟨_, p0, p1, hr⟩, e, rfl⟩ := h
  intro z hz
  rcases List.mem_append.mp hz with h | h
  · obtain ⟨r, hr', rfl⟩ := List.mem_map.mp h
    have := hr r hr'
    unfold Win lowZ
    dsimp only
    omega
  · obtain ⟨r, hr', rfl⟩ := List.mem_map.mp (List.mem_reverse.mp h)
    have := hr r hr'
    unfold Win highZ
    dsimp only
    omega
theorem StripRow.len {zs : List (Int × Int)} {m : Nat} (h : StripRow zs m) : zs.length = 2 * m := by
  obtain ⟨rs, p, _, e, rfl⟩ := h
  rw [List.length_append, List.length_reverse, List.length_map, List.length_map]
  omega
theorem StarRow.bd {size : Int} {zs : List (Int × Int)} {m : Nat} (h0 : 0 < size) (h : StarRow size zs m) : zs.length = m ∧ ∀ z ∈ zs, Win (28 * size) z := by
  obtain ⟨js, ls, _, e1, e2, h24, _, _, _, hl, rfl⟩ := h
  refine ⟨by rw [List.length_zipWith]; omega, fun z hz => ?_⟩
  obtain ⟨i, hi, rfl⟩ := List.mem_iff_getElem.mp hz
  rw [List.length_zipWith] at hi
  rw [List.getElem_zipWith]
  have q1 := h24 _ (List.getElem_mem (l := js) (n := i) (by omega))
  have q2 := hl _ (List.getElem_mem (l := ls) (n := i) (by omega))
  generalize js[i] = j at *
  generalize ls[i] = l at *
  have tb : ∀ j : Fin 24, -7 ≤ (raysC.getD j.1 (0, 0)).1 ∧ (raysC.getD j.1 (0, 0)).1 ≤ 7 ∧ -7 ≤ (raysC.getD j.1 (0, 0)).2 ∧ (raysC.getD j.1 (0, 0)).2 ≤ 7 := by decide +kernel
  obtain ⟨u1, u2, u3, u4⟩ : -7 ≤ (raysC.getD j (0, 0)).1 ∧ (raysC.getD j (0, 0)).1 ≤ 7 ∧ -7 ≤ (raysC.getD j (0, 0)).2 ∧ (raysC.getD j (0, 0)).2 ≤ 7 := tb ⟨j, q1⟩
  have b : ∀ t : Int, -7 ≤ t → t ≤ 7 → -(28 * size) ≤ t * l ∧ t * l ≤ 28 * size := fun t h1 h2 => by
    have a1 := Int.mul_le_mul_of_nonneg_right h1 (show 0 ≤ l by omega)
    have a2 := Int.mul_le_mul_of_nonneg_right h2 (show 0 ≤ l by omega)
    omega
  exact ⟨(b _ u1 u2).1, (b _ u1 u2).2, (b _ u3 u4).1, (b _ u3 u4).2⟩
/-- a row of corners, left-hand round, not too far -/
structure OkRow (r : List (Int × Int)) : Prop where
  fine : Fine r
  ten : r.length ≤ 10
  win : ∀ z ∈ r, Win 10000 z
def SepR (r s : List (Int × Int)) : Prop := ∀ a b, SepZ (cyc r a) (cyc r (a + 1)) (cyc s b) (cyc s (b + 1))
/-- rows apart from one another -/
structure PLot (rows : List (List (Int × Int))) : Prop where
  ok : ∀ r ∈ rows, OkRow r
  sep : rows.Pairwise SepR
theorem sep_x {r s : List (Int × Int)} (t : Int) (hr : 0 < r.length) (hs : 0 < s.length) (h1 : ∀ z ∈ r, z.1 ≤ t) (h2 : ∀ z ∈ s, t < z.1) : SepR r s := fun a b => by
  have a1 := h1 _ (cyc_mem hr a)
  have a2 := h1 _ (cyc_mem hr (a + 1))
  have b1 := h2 _ (cyc_mem hs b)
  have b2 := h2 _ (cyc_mem hs (b + 1))
  exact ⟨-2, 0, 2 * t + 1, by unfold af; omega, by unfold af; omega, by unfold af; omega, by unfold af; omega⟩
theorem OkRow.pos {r : List (Int × Int)} (h : OkRow r) : 0 < r.length := by have := h.fine.poly.len; omega
theorem PLot.snoc {rows : List (List (Int × Int))} (h : PLot rows) {s : List (Int × Int)} (hs : OkRow s) (k : ∀ r ∈ rows, SepR r s) : PLot (rows ++ [s]) := by
  refine ⟨fun r hr => ?_, List.pairwise_append.mpr ⟨h.sep, List.pairwise_singleton _ _, fun r hr q hq => ?_⟩⟩
  · rcases List.mem_append.mp hr with hr | hr
    · exact h.ok r hr
    · rw [List.mem_singleton.mp hr]; exact hs
  · rw [List.mem_singleton.mp hq]; exact k r hr
theorem PLot.cons {rows : List (List (Int × Int))} (h : PLot rows) {s : List (Int × Int)} (hs : OkRow s) (k : ∀ r ∈ rows, SepR s r) : PLot (s :: rows) := by
  refine ⟨fun r hr => ?_, List.pairwise_cons.mpr ⟨k, h.sep⟩⟩
  rcases List.mem_cons.mp hr with rfl | hr
  · exact hs
  · exact h.ok r hr
theorem PLot.one {s : List (Int × Int)} (hs : OkRow s) : PLot [s] := ⟨fun r hr => by rw [List.mem_singleton.mp hr]; exact hs, List.pairwise_singleton _ _⟩
def shiftP (a b : Int) (p : Int × Int) : Int × Int := (p.1 + a, p.2 + b)
theorem shift_aff (a b : Int) : shiftP a b = affZ 1 0 a 0 1 b := by
  funext p
  unfold shiftP affZ
  refine Prod.ext ?_ ?_ <;> dsimp only <;> omega
theorem Fine.shift {zs : List (Int × Int)} (h : Fine zs) (a b : Int) : Fine (zs.map (shiftP a b)) := by
  rw [shift_aff]
  exact h.aff (by decide)
/-- the box: its corners -/
def boxZ (l r d t : Int) : List (Int × Int) := [(l, d), (r, d), (r, t), (l - 1, t)]
theorem box_fine {l r d t : Int} (h1 : l < r) (h2 : d < t) : Fine (boxZ l r d t) := by
  have k0 : cyc (boxZ l r d t) 0 = (l, d) := rfl
  have k1 : cyc (boxZ l r d t) 1 = (r, d) := rfl
  have k2 : cyc (boxZ l r d t) 2 = (r, t) := rfl
  have k3 : cyc (boxZ l r d t) 3 = (l - 1, t) := rfl
  have k4 : cyc (boxZ l r d t) 4 = (l, d) := (cyc_per (boxZ l r d t) 0).trans k0
  have k5 : cyc (boxZ l r d t) 5 = (r, d) := (cyc_per (boxZ l r d t) 1).trans k1
  refine ⟨poly_of (by show 3 ≤ 4; decide) (fun i hi => ?_) (fun i j p1 p2 p3 => ?_), ?_, ?_⟩
  · have hi : i < 4 := hi
    match i, hi with
    | 0, _ => rw [k0, k1, k2]; exact ⟨1, 1, by dsimp only; omega, by dsimp only; omega⟩
    | 1, _ => rw [k1, k2, k3]; exact ⟨-1, 1, by dsimp only; omega, by dsimp only; omega⟩
    | 2, _ => rw [k2, k3, k4]; exact ⟨-1, -2, by dsimp only; omega, by dsimp only; omega⟩
    | 3, _ => rw [k3, k4, k5]; exact ⟨1, -1, by dsimp only; omega, by dsimp only; omega⟩
  · have p2 : j < 4 := p2
    have p3 : ¬ (i = 0 ∧ j + 1 = 4) := p3
    have : (i = 0 ∧ j = 2) ∨ (i = 1 ∧ j = 3) := by omega
    rcases this with ⟨rfl, rfl⟩ | ⟨rfl, rfl⟩
    · rw [k0, k1, k2, k3]
      exact ⟨0, -2, 2 * t - 1, by unfold af; dsimp only; omega, by unfold af; dsimp only; omega, by unfold af; dsimp only; omega, by unfold af; dsimp only; omega⟩
    · rw [k1, k2, k3, k4]
      exact ⟨2, 0, -(2 * r - 1), by unfold af; dsimp only; omega, by unfold af; dsimp only; omega, by unfold af; dsimp only; omega, by unfold af; dsimp only; omega⟩
  · have m : 0 < (r - l) * (t - d) := Int.mul_pos (by omega) (by omega)
    have e : arC (boxZ l r d t) = 2 * ((r - l) * (t - d)) + (t - d) := by
      show sumN _ 4 = _
      simp only [sumN, k0, k1, k2, k3, k4, x0]
      grind
    rw [e]
    omega
  · have m : 0 < (r - l) * (t - d) := Int.mul_pos (by omega) (by omega)
    have c0 : 0 < cr (l, d) (r, d) (r, t) := by
      unfold cr
      dsimp only
      have : (r - l) * (t - d) - (d - d) * (r - l) = (r - l) * (t - d) := by grind
      omega
    have c1 : 0 < cr (r, d) (r, t) (l - 1, t) := by
      unfold cr
      dsimp only
      have : (r - r) * (t - d) - (t - d) * (l - 1 - r) = (r - l) * (t - d) + (t - d) := by grind
      omega
    have c2 : 0 < cr (r, t) (l - 1, t) (l, d) := by
      unfold cr
      dsimp only
      have : (l - 1 - r) * (d - t) - (t - t) * (l - r) = (r - l) * (t - d) + (t - d) := by grind
      omega
    have c3 : 0 < cr (l - 1, t) (l, d) (r, d) := by
      unfold cr
      dsimp only
      have : (l - (l - 1)) * (d - t) - (d - t) * (r - (l - 1)) = (r - l) * (t - d) := by grind
      omega
    show 3 ≤ sumN _ 4
    simp only [sumN, k0, k1, k2, k3, k4, k5]
    rw [if_pos c0, if_pos c1, if_pos c2, if_pos c3]
    decide
theorem box_sep {l r d t : Int} {s : List (Int × Int)} (h0 : 0 < s.length) (hs : ∀ z ∈ s, l < z.1 ∧ z.1 < r ∧ d < z.2 ∧ z.2 < t) : SepR (boxZ l r d t) s := fun a b => by
  have b1 := hs _ (cyc_mem h0 b)
  have b2 := hs _ (cyc_mem h0 (b + 1))
  have k0 : cyc (boxZ l r d t) 0 = (l, d) := rfl
  have k1 : cyc (boxZ l r d t) 1 = (r, d) := rfl
  have k2 : cyc (boxZ l r d t) 2 = (r, t) := rfl
  have k3 : cyc (boxZ l r d t) 3 = (l - 1, t) := rfl
  have k4 : cyc (boxZ l r d t) 4 = (l, d) := (cyc_per (boxZ l r d t) 0).trans k0
  rw [← cyc_mod (boxZ l r d t) a, ← cyc_modA (boxZ l r d t) a 1]
  have ha := Nat.mod_lt a (show 0 < 4 by decide)
  have ha : a % (boxZ l r d t).length < 4 := ha
  generalize a % (boxZ l r d t).length = i at *
  match i, ha with
  | 0, _ => rw [k0, k1]; exact ⟨0, -2, 2 * d + 1, by unfold af; dsimp only; omega, by unfold af; dsimp only; omega, by unfold af; omega, by unfold af; omega⟩
  | 1, _ => rw [k1, k2]; exact ⟨2, 0, -(2 * r - 1), by unfold af; dsimp only; omega, by unfold af; dsimp only; omega, by unfold af; omega, by unfold af; omega⟩
  | 2, _ => rw [k2, k3]; exact ⟨0, 2, -(2 * t - 1), by unfold af; dsimp only; omega, by unfold af; dsimp only; omega, by unfold af; omega, by unfold af; omega⟩
  | 3, _ => rw [k3, k4]; exact ⟨-2, 0, 2 * l + 1, by unfold af; dsimp only; omega, by unfold af; dsimp only; omega, by unfold af; omega, by unfold af; omega⟩
end Odd
namespace Odd
open PySem PySem.Spec PyProof.Rows L2
section
variable {P : Program} {w : World} {K : PySem.W.Frag} {mg : Str → Option Value} {base : Heap} {A : Ads}
theorem lc_zpG {β : Type} {RO : Hp → V → β → Prop} (mo : ∀ {H H' : Hp} {v y}, Same H H' → RO H v y → RO H' v y) (ko : ∀ {H : Hp} {D : Addr} {as bs : List V} {v y}, H D = some (.lst as) → RO H v y → RO (upd H D (.lst bs)) v y) {i j : Nat} {vs : List Nat} {σ : L2.St} {te : TE} {H1 : Hp} {d D : Addr} {us : List V} {ps : List (Int × Int)} {f : Int × Int → β} {Qd : Hp → Prop} (hd : H1 d = some (.lst us)) (he : Each (ZP K H1) us ps) (hD : H1 D = none) (hl : us.length < 1000)
    (hw : ∀ a b, wipe (((wipe σ vs).set i (some (.int a))).set j (some (.int b))) vs = wipe σ vs)
    (hs : ∀ (H2 : Hp) (p : Int × Int) (Q : VK), Same H1 H2 → p ∈ ps → (∀ y H4, Same H2 H4 → RO H4 y (f p) → Q y H4) → te (((wipe σ vs).set i (some (.int p.1))).set j (some (.int p.2))) H2 Q)
    (hq : ∀ H' ws, Same H1 H' → H' D = some (.lst ws) → Each (RO H') ws (ps.map f) → Qd H') :
    ∃ W : Nat → Nat → Hp → Prop, (∃ m, W 0 m (upd H1 D (.lst []))) ∧ ∀ k m H, W k m H →
      ((Itl K d).stop k H ∧ Qd H) ∨ ((Itl K d).go k H ∧ ∃ Nx : Hp → Prop, (∀ H', Nx H' → ∃ m', m' < m ∧ W (k + 1) m' H') ∧ ∀ x H', (Itl K d).yld k H x H' → gTup K 2 (gCons (gName i) (gCons (gName j) gNil)) x (wipe σ vs) H' fun σ2 H2 => wipe σ2 vs = wipe σ vs ∧ tYes σ2 H2 fun b H3 =>
        if b = true then te σ2 H3 fun y H4 => ∃ acc, H4 D = some (.lst acc) ∧ acc.length < sizeLine ∧ Nx (upd H4 D (.lst (acc ++ [y]))) else Nx H3) := by
  have sD := same_upd (o := .lst []) hD
  refine lc_list (xs := us) (fun k H2 => Same H1 H2 ∧ ∃ acc, H2 D = some (.lst acc) ∧ Each (RO H2) acc ((ps.take k).map f)) ⟨sD, _, upd_same, rfl, fun k v x e => by simp at e⟩ (fun k H2 _ h => sl_of (h.1 _ _ hd)) ?_ ?_
  · rintro k x H2 hx ⟨s2, acc, e3, ea⟩
    obtain ⟨p, hp, a, rfl, ha⟩ := he.of hx
    refine ⟨a, _, rfl, same_tup s2 ha, rfl, _, _, rfl, _, _, rfl, rfl, hw _ _, ?_⟩
    simp only [tYes, if_true]
    refine hs H2 p _ s2 (List.mem_of_getElem? hp) fun y H4 s4 hy => ⟨acc, s4 _ _ e3, ?_, fun c o ec => ?_, _, upd_same, ?_⟩
    · rw [ea.1, List.length_map, List.length_take]
      have := he.1
      exact small1000 (by omega)
    · rw [upd_ne (ne_of_none ec hD)]
      exact s4 _ _ (s2 _ _ ec)
    · have hD4 := s4 _ _ e3
      rw [List.take_add_one, hp, List.map_append]
      refine each_snoc ⟨ea.1, fun i v x e1 e2 => ko hD4 (mo s4 (ea.2 i v x e1 e2))⟩ (ko hD4 hy)
  · rintro H2 ⟨s2, acc, e3, ea⟩
    rw [he.1, List.take_length] at ea
    exact hq H2 acc s2 e3 ea
theorem PP.pt {H : Hp} {v : V} {p : P2} (h : PP K H v p) (c : CanonP p) : Pt K H v p := by
  obtain ⟨a, x, y, e, h, hx, hy⟩ := h
  exact ⟨a, x, y, e, .inr h, hx.num c.1, hy.num c.2⟩
theorem mk_fence {C : Addr} {H1 : Hp} {x dx p : Addr} {us : List V} {ps : List P2} {N : Nat} {Q : Hp → Prop} (hx : H1 x = none) (hdx : H1 dx = none) (ne : dx ≠ x) (hp : Sq K H1 p us) (he : Each (Pt K H1) us ps) (wh : Whole N ps)
    (q : ∀ H', Same H1 H' → FenceF K C H' x (roundL ps) → Q H') : spFenceInit K C [.ref x, .ref p] (upd (upd H1 dx (.own x)) x (.ins C dx [])) (fun v H2 => v = .non ∧ Q H2) E0 := by
  have s1 := same_upd (o := .own x) hdx
  have hx1 : upd H1 dx (.own x) x = none := by rw [upd_ne (Ne.symm ne)]; exact hx
  have s2 := s1.trans (same_upd (o := .ins C dx []) hx1)
  refine ⟨x, dx, p, us, ps, N, rfl, upd_same, hp.same s2, he.imp fun v y z => z.same s2, wh, fun H' k hf => ⟨rfl, q H' (fun c o e => ?_) hf⟩⟩
  exact k _ _ (fun z => by rw [z, hx] at e; cases e) (s2 _ _ e)
theorem lc_each {α β : Type} {i : Nat} {vs : List Nat} {σ : L2.St} {te : TE} {H1 : Hp} {d D : Addr} {us : List V} {xs : List α} {RI : Hp → V → α → Prop} {RO : Hp → V → β → Prop} {f : α → β} {Qd : Hp → Prop}
    (mi : ∀ {H H' : Hp} {v x}, Same H H' → RI H v x → RI H' v x) (mo : ∀ {H H' : Hp} {v y}, Same H H' → RO H v y → RO H' v y) (ko : ∀ {H : Hp} {as bs : List V} {v y}, H D = some (.lst as) → RO H v y → RO (upd H D (.lst bs)) v y)
    (hd : H1 d = some (.lst us)) (he : Each (RI H1) us xs) (hD : H1 D = none) (hl : us.length < 1000)
    (hw : ∀ v, wipe ((wipe σ vs).set i (some v)) vs = wipe σ vs)
    (hs : ∀ (H2 : Hp) (v : V) (x : α) (Q : VK), Same H1 H2 → RI H2 v x → x ∈ xs → (∀ y H4, Same H2 H4 → RO H4 y (f x) → Q y H4) → te ((wipe σ vs).set i (some v)) H2 Q)
    (hq : ∀ H' ws, Same H1 H' → H' D = some (.lst ws) → Each (RO H') ws (xs.map f) → Qd H') :
    ∃ W : Nat → Nat → Hp → Prop, (∃ m, W 0 m (upd H1 D (.lst []))) ∧ ∀ k m H, W k m H →
      ((Itl K d).stop k H ∧ Qd H) ∨ ((Itl K d).go k H ∧ ∃ Nx : Hp → Prop, (∀ H', Nx H' → ∃ m', m' < m ∧ W (k + 1) m' H') ∧ ∀ x H', (Itl K d).yld k H x H' → gName i x (wipe σ vs) H' fun σ2 H2 => wipe σ2 vs = wipe σ vs ∧ tYes σ2 H2 fun b H3 =>
        if b = true then te σ2 H3 fun y H4 => ∃ acc, H4 D = some (.lst acc) ∧ acc.length < sizeLine ∧ Nx (upd H4 D (.lst (acc ++ [y]))) else Nx H3) := by
  have sD := same_upd (o := .lst []) hD
  refine lc_list (xs := us) (fun k H2 => Same H1 H2 ∧ ∃ acc, H2 D = some (.lst acc) ∧ Each (RO H2) acc ((xs.take k).map f)) ⟨sD, _, upd_same, rfl, fun k v x e => by simp at e⟩ (fun k H2 _ h => sl_of (h.1 _ _ hd)) ?_ ?_
  · rintro k v H2 hx ⟨s2, acc, e3, ea⟩
    obtain ⟨x, hp, ha⟩ := he.of hx
    refine ⟨hw _, ?_⟩
    simp only [tYes, if_true]
    refine hs H2 v x _ s2 (mi s2 ha) (List.mem_of_getElem? hp) fun y H4 s4 hy => ⟨acc, s4 _ _ e3, ?_, fun c o ec => ?_, _, upd_same, ?_⟩
    · rw [ea.1, List.length_map, List.length_take]
      have := he.1
      exact small1000 (by omega)
    · rw [upd_ne (ne_of_none ec hD)]
      exact s4 _ _ (s2 _ _ ec)
    · have hD4 := s4 _ _ e3
      rw [List.take_add_one, hp, List.map_append]
      exact each_snoc ⟨ea.1, fun i v x e1 e2 => ko hD4 (mo s4 (ea.2 i v x e1 e2))⟩ (ko hD4 hy)
  · rintro H2 ⟨s2, acc, e3, ea⟩
    rw [he.1, List.take_length] at ea
    exact hq H2 acc s2 e3 ea
theorem lc_rngE {β : Type} {i : Nat} {vs : List Nat} {σ : L2.St} {te : TE} {H1 : Hp} {D : Addr} {n : Nat} {RO : Hp → V → β → Prop} {f : Nat → β} {Qd : Hp → Prop}
    (mo : ∀ {H H' : Hp} {v y}, Same H H' → RO H v y → RO H' v y) (ko : ∀ {H : Hp} {as bs : List V} {v y}, H D = some (.lst as) → RO H v y → RO (upd H D (.lst bs)) v y)
    (hD : H1 D = none) (hl : n < 1000)
    (hw : ∀ v, wipe ((wipe σ vs).set i (some v)) vs = wipe σ vs)
    (hs : ∀ (H2 : Hp) (k : Nat) (Q : VK), Same H1 H2 → k < n → (∀ y H4, Same H2 H4 → RO H4 y (f k) → Q y H4) → te ((wipe σ vs).set i (some (.int (k : Nat)))) H2 Q)
    (hq : ∀ H' ws, Same H1 H' → H' D = some (.lst ws) → Each (RO H') ws ((List.range n).map f) → Qd H') :
    ∃ W : Nat → Nat → Hp → Prop, (∃ m, W 0 m (upd H1 D (.lst []))) ∧ ∀ k m H, W k m H →
      ((Itr 0 n).stop k H ∧ Qd H) ∨ ((Itr 0 n).go k H ∧ ∃ Nx : Hp → Prop, (∀ H', Nx H' → ∃ m', m' < m ∧ W (k + 1) m' H') ∧ ∀ x H', (Itr 0 n).yld k H x H' → gName i x (wipe σ vs) H' fun σ2 H2 => wipe σ2 vs = wipe σ vs ∧ tYes σ2 H2 fun b H3 =>
        if b = true then te σ2 H3 fun y H4 => ∃ acc, H4 D = some (.lst acc) ∧ acc.length < sizeLine ∧ Nx (upd H4 D (.lst (acc ++ [y]))) else Nx H3) := by
  have sD := same_upd (o := .lst []) hD
  refine lc_range (lo := 0) (n := n) (fun k H2 => Same H1 H2 ∧ ∃ acc, H2 D = some (.lst acc) ∧ Each (RO H2) acc ((List.range k).map f)) ⟨sD, _, upd_same, rfl, fun k v x e => by simp at e⟩ ?_ ?_
  · rintro k H2 hk ⟨s2, acc, e3, ea⟩
    refine ⟨hw _, ?_⟩
    rw [show (0 : Int) + (k : Nat) = (k : Nat) by omega]
    simp only [tYes, if_true]
    refine hs H2 k _ s2 hk fun y H4 s4 hy => ⟨acc, s4 _ _ e3, ?_, fun c o ec => ?_, _, upd_same, ?_⟩
    · rw [ea.1, List.length_map, List.length_range]
      exact small1000 (by omega)
    · rw [upd_ne (ne_of_none ec hD)]
      exact s4 _ _ (s2 _ _ ec)
    · have hD4 := s4 _ _ e3
      rw [List.range_succ, List.map_append]
      exact each_snoc ⟨ea.1, fun i v x e1 e2 => ko hD4 (mo s4 (ea.2 i v x e1 e2))⟩ (ko hD4 hy)
  · rintro H2 ⟨s2, acc, e3, ea⟩
    exact hq H2 acc s2 e3 ea
theorem each_eq {ws xs : List V} (h : Each (fun v x => v = x) ws xs) : ws = xs := by
  refine List.ext_getElem? fun i => ?_
  have l := h.1
  by_cases c : i < ws.length
  · have e1 := List.getElem?_eq_getElem c
    have e2 := List.getElem?_eq_getElem (l := xs) (i := i) (by omega)
    rw [e1, e2, h.2 i _ _ e1 e2]
  · rw [List.getElem?_eq_none (by omega), List.getElem?_eq_none (by omega)]
theorem each_one {α : Type} {R : V → α → Prop} {v : V} {x : α} (h : R v x) : Each R [v] [x] := ⟨rfl, fun i w y e1 e2 => by
  match i, e1, e2 with
  | 0, e1, e2 => cases e1; cases e2; exact h
  | i + 1, e1, e2 => cases e1⟩
theorem each_ins {α : Type} {R : V → α → Prop} {vs : List V} {xs : List α} (h : Each R vs xs) (n : Nat) {v : V} {x : α} (hv : R v x) : Each R (vs.take n ++ [v] ++ vs.drop n) (xs.take n ++ [x] ++ xs.drop n) :=
  each_app (each_app (each_take h n) (each_one hv)) (each_drop h n)
end
end Odd
namespace Odd
open PySem PySem.Spec PyProof.Rows L2
local macro_rules | `(tactic| walk_at "vc") => `(tactic| simp only [tSeq, tAsg, gName, tCB, tCons, tNil, tVar, tC, tOp, tUn, rI0, rI, rU, tTup, tLst, tIfS, tTest, tB, tRet, tNext, rGcd, L2.start, List.map, List.set, List.replicate, List.cons_append, List.nil_append, List.length_cons, List.length_nil, List.getElem?_cons_succ, List.getElem?_cons_zero, Option.some.injEq, exists_eq_left', exists_eq_left, List.append_nil, List.cons.injEq, V.int.injEq, exists_and_left, and_true, true_and, and_assoc, exists_const, V.bl.injEq, V.ref.injEq, Nat.sub_self, Nat.reduceAdd, Nat.reduceSub, List.replicate_succ, List.replicate_zero, tAnd, tOr, tNot, tAndV, tOrV, tNotV, tIf, tCall, tCallK, tDrop, rEq, rNe, decide_eq_true_eq, Bool.not_eq_true', decide_eq_false_iff_not, Bool.false_eq_true, if_true, if_false, reduceIte, reduceCtorEq, tMkLow, tRaiseLow, rIsB, rNotB, tBreak, tPar, gSub, rSetL, tChain, gTup, gCons, gNil, gSeq, cx_K, cx_Kn, optV, V.str.injEq, Bool.not_true, Bool.not_false, false_and, and_false, or_false, false_or, exists_false, tCallN, tCallS, tPairs])
theorem bt_min : bootBuiltins "min" = some (.builtin "min") := by decide +kernel
theorem bt_max : bootBuiltins "max" = some (.builtin "max") := by decide +kernel
section
variable {P : Program} {w : World} {K : PySem.W.Frag} {mg : Str → Option Value} {base : Heap} {A : Ads}
/-- a list of points of integers, none of X -/
def RowZ (K : PySem.W.Frag) (X : List Addr) (H : Hp) (v : V) (r : List (Int × Int)) : Prop := ∃ L us, v = .ref L ∧ (∀ e ∈ X, L ≠ e) ∧ H L = some (.lst us) ∧ Each (ZP K H) us r
theorem RowZ.same {X : List Addr} {H H' : Hp} {v : V} {r : List (Int × Int)} (s : Same H H') (h : RowZ K X H v r) : RowZ K X H' v r := by
  obtain ⟨L, us, e, h2, h3, h4⟩ := h
  exact ⟨L, us, e, h2, s _ _ h3, h4.imp fun v x z => z.same s⟩
theorem RowZ.but {X : List Addr} {u : Addr} {H H' : Hp} {v : V} {r : List (Int × Int)} {ys : List V} (s : But u H H') (hu : H u = some (.lst ys)) (hX : u ∈ X) (h : RowZ K X H v r) : RowZ K X H' v r := by
  obtain ⟨L, us, e, h2, h3, h4⟩ := h
  exact ⟨L, us, e, h2, s.1 _ (h2 _ hX) _ h3, h4.imp fun v x z => z.but s hu⟩
theorem RowZ.keep {X : List Addr} {D : Addr} {H : Hp} {as bs : List V} {v : V} {r : List (Int × Int)} (hD : H D = some (.lst as)) (hX : D ∈ X) (h : RowZ K X H v r) : RowZ K X (upd H D (.lst bs)) v r := by
  obtain ⟨L, us, e, h2, h3, h4⟩ := h
  exact ⟨L, us, e, h2, by rw [upd_ne (h2 _ hX)]; exact h3, h4.imp fun v x z => ZP.keep hD z⟩
/-- [.. for x, y in L], integers -/
theorem coord_lc {σ : L2.St} {te : TE} {j : Nat} {G : Hp} {L : Addr} {ws : List V} {zs : List (Int × Int)} {f : Int × Int → Int} {Q : VK} (hj : σ[j]? = some (some (V.ref L))) (hL : G L = some (.lst ws)) (hws : Each (ZP K G) ws zs) (hl : zs.length < 1000)
    (hw : ∀ a b, wipe (((wipe σ [1, 2]).set 1 (some (.int a))).set 2 (some (.int b))) [1, 2] = wipe σ [1, 2])
    (hv : ∀ (p : Int × Int) (H : Hp) (Q : VK), Q (.int (f p)) H → te (((wipe σ [1, 2]).set 1 (some (.int p.1))).set 2 (some (.int p.2))) H Q)
    (q : ∀ G' D, Same G G' → G' D = some (.lst ((zs.map f).map V.int)) → Q (.ref D) G') : tLc (iList K (tVar j)) (gTup K 2 (gCons (gName 1) (gCons (gName 2) gNil))) tYes te [1, 2] σ G Q := by
  refine ⟨_, hj, L, rfl, ⟨_, sl_of hL⟩, fun D hD => lc_zpG (RO := fun _ v y => v = V.int y) (f := f) (fun _ h => h) (fun _ h => h) hL hws hD (by rw [hws.1]; exact hl) hw (fun H2 p Q2 s2 hp hQ => hv p H2 Q2 (hQ _ _ (fun _ _ h => h) rfl)) fun H' vs s' hvs he => q H' D s' ?_⟩
  rw [hvs]
  congr 1
  congr 1
  refine each_eq ⟨by rw [he.1, List.length_map, List.length_map, List.length_map], fun i v x e1 e2 => ?_⟩
  rw [List.getElem?_map] at e2
  obtain ⟨y, hy, rfl⟩ := Option.map_eq_some_iff.mp e2
  exact he.2 i v y e1 hy
theorem butL {u D : Addr} {H H' : Hp} {x : HO} (B : But u H H') (hD : H D = none) (hu : D ≠ u) : But u H (upd H' D x) :=
  ⟨fun b nb o ho => by rw [upd_ne (ne_of_none ho hD)]; exact B.1 b nb o ho, fun c ys ho => by
    obtain ⟨ys', g⟩ := B.2 c ys ho
    exact ⟨ys', by rw [upd_ne (Ne.symm hu)]; exact g⟩⟩
theorem urnL {u D : Addr} {H H' : Hp} {m k : Nat} {x : HO} (hu : Urn H u m) (hDu : D ≠ u) (hDH : H D = none) (B : But u H H') (hU : Urn H' u k) : Urn (upd H' D x) u k := by
  obtain ⟨c0, n0, r0, cells0, e1, e2, _⟩ := hu
  obtain ⟨c, n', r', cells, f1, f2, f3, f4, f5⟩ := hU
  obtain ⟨ys', g⟩ := B.2 _ _ e1
  rw [f1] at g
  cases g
  exact ⟨_, n', r', cells, by rw [upd_ne (Ne.symm hDu)]; exact f1, by rw [upd_ne (ne_of_none e2 hDH)]; exact f2, f3, f4, f5⟩
def spLot10 (K : PySem.W.Frag) : Sp := fun vs H Q _ => ∃ (u : Addr) (k : Nat), vs = [.ref u] ∧ Urn H u (k + 1000) ∧
  ∀ H' L vs rows, But u H H' → Urn H' u k → H L = none → H' L = some (.lst vs) → Each (RowZ K [u, L] H') vs rows → 0 < rows.length → rows.length ≤ 6 → PLot rows → Q (.ref L) H'
theorem ok__law_lot (T : Txt K mg A) : FnOk P w K mg base CX0 4 A.f__law_lot A.d__law_lot ["ditch"] (spLot10 K) := by
  refine T._law_lot.F.ok sc__law_lot (fun vs H Q E h => ?_) (fun cdv A' outer s H vs Q E hr h => ?_)
  · obtain ⟨_, _, rfl, _⟩ := h; rfl
  · obtain ⟨u, k, rfl, hu, q⟩ := h
    refine ⟨_, (pss_cons (ps_set (i := 3) sc__law_lot.nd rfl (.inl rfl) (pe_call (ok__law_dig T) (hr.mono (by decide)) (by rfl) T._law_dig.g T._law_dig.F.kp T._law_dig.b .nil pass0 (pa_cons (pv 0) (pa_cons pe_int pa_nil))))
      (pss_cons (ps_if (PW.pt (pw_and (pt_cmpR op_eq (pv 3) pe_int (nomark _)) (pw_and1 (pt_cmpR op_eq (pe_call (ok__law_dig T) (hr.mono (by decide)) (by rfl) T._law_dig.g T._law_dig.F.kp T._law_dig.b .nil pass0 (pa_cons (pv 0) (pa_cons pe_int pa_nil))) pe_int (nomark _))))) (pss_cons (ps_asg (pe_tup (pa_cons (pe_lst pa_nil) (pa_cons (pe_op op_add pe_int (pe_call (ok__law_dig T) (hr.mono (by decide)) (by rfl) T._law_dig.g T._law_dig.F.kp T._law_dig.b .nil pass0 (pa_cons (pv 0) (pa_cons pe_int pa_nil)))) pa_nil))) (pg_tup rfl (pgs_cons (pg_name (i := 4) sc__law_lot.nd rfl (.inl rfl)) (pgs_cons (pg_name (i := 5) sc__law_lot.nd rfl (.inr rfl)) pgs_nil))))
      (pss_cons (ps_for PassesOwn.never rfl (pi_range1 rfl T.n_range (pa_cons (pe_op op_add pe_int (pe_call (ok__law_dig T) (hr.mono (by decide)) (by rfl) T._law_dig.g T._law_dig.F.kp T._law_dig.b .nil pass0 (pa_cons (pv 0) (pa_cons pe_int pa_nil)))) pa_nil)) (pg_name (i := 6) sc__law_lot.nd rfl (.inr rfl)) (pss_one (ps_expr (pe_bm F.plainAttrs_list F.slot_list_append F.type_list_append mt_append (pv 4) (pa_cons (pe_lc (own := [("x", 1), ("y", 2)]) (g := gTup K 2 (gCons (gName 1) (gCons (gName 2) gNil))) (tt := tYes) rfl sc__law_lot.nd (pi_list (pe_call (ok__law_star T) (hr.mono (by decide)) (by rfl) T._law_star.g T._law_star.F.kp T._law_star.b .nil pass0 (pa_cons (pv 0) (pa_cons pe_int (pa_cons pe_int pa_nil))))) (blkOk_by (N := ["ditch", "x", "y", "way", "found", "far", "at", "first", "wide", "high", "low", "left", "rows", "second"]) (sc := defScope s__law_lot) (by decide +kernel)) (fun _ _ _ _ _ => OZ.pg_tupK (K := K) (n := 2) rfl rfl (pgs_cons (pg_name (i := 1) sc__law_lot.nd rfl (Or.inl rfl)) (pgs_cons (pg_name (i := 2) sc__law_lot.nd rfl (Or.inl rfl)) pgs_nil))) (fun _ _ _ _ _ => pts_nil) (fun _ _ _ _ _ => (pe_tup (pa_cons (pe_op op_add (pv 1) (pe_op op_mul (pv 5) (pv 6))) (pa_cons (pe_op op_sub (pv 2) (pe_op op_mul pe_int (pv 6))) pa_nil))))) pa_nil)))))
      (pss_one (ps_ret (pv 4))))) pss_nil)
      (pss_cons (ps_set (i := 7) sc__law_lot.nd rfl (.inl rfl) (pe_ifExp (pt_cmpR op_lt (pv 3) pe_int (nomark _)) (pe_call (ok__law_star T) (hr.mono (by decide)) (by rfl) T._law_star.g T._law_star.F.kp T._law_star.b .nil pass0 (pa_cons (pv 0) (pa_cons (pe_op op_add pe_int (pe_call (ok__law_dig T) (hr.mono (by decide)) (by rfl) T._law_dig.g T._law_dig.F.kp T._law_dig.b .nil pass0 (pa_cons (pv 0) (pa_cons pe_int pa_nil)))) (pa_cons pe_int pa_nil)))) (pe_call (ok__law_strip T) (hr.mono (by decide)) (by rfl) T._law_strip.g T._law_strip.F.kp T._law_strip.b .nil pass0 (pa_cons (pv 0) (pa_cons (pe_op op_add pe_int (pe_call (ok__law_dig T) (hr.mono (by decide)) (by rfl) T._law_dig.g T._law_dig.F.kp T._law_dig.b .nil pass0 (pa_cons (pv 0) (pa_cons pe_int pa_nil)))) pa_nil)))))
      (pss_cons (ps_if (pt_cmpR op_eq (pv 3) pe_int (nomark _)) (pss_one (ps_ret (pe_lst (pa_cons (pv 7) pa_nil)))) pss_nil)
      (pss_cons (ps_asg (pe_tup (pa_cons (pe_callB (cr_max rfl) (by rfl) T.n_max bt_max (pa_cons (pe_lc (own := [("x", 1), ("y", 2)]) (g := gTup K 2 (gCons (gName 1) (gCons (gName 2) gNil))) (tt := tYes) rfl sc__law_lot.nd (pi_list (pv 7)) (blkOk_by (N := ["ditch", "x", "y", "way", "found", "far", "at", "first", "wide", "high", "low", "left", "rows", "second"]) (sc := defScope s__law_lot) (by decide +kernel)) (fun _ _ _ _ _ => OZ.pg_tupK (K := K) (n := 2) rfl rfl (pgs_cons (pg_name (i := 1) sc__law_lot.nd rfl (Or.inl rfl)) (pgs_cons (pg_name (i := 2) sc__law_lot.nd rfl (Or.inl rfl)) pgs_nil))) (fun _ _ _ _ _ => pts_nil) (fun _ _ _ _ _ => (pv 1))) pa_nil)) (pa_cons (pe_callB (cr_max rfl) (by rfl) T.n_max bt_max (pa_cons (pe_lc (own := [("x", 1), ("y", 2)]) (g := gTup K 2 (gCons (gName 1) (gCons (gName 2) gNil))) (tt := tYes) rfl sc__law_lot.nd (pi_list (pv 7)) (blkOk_by (N := ["ditch", "x", "y", "way", "found", "far", "at", "first", "wide", "high", "low", "left", "rows", "second"]) (sc := defScope s__law_lot) (by decide +kernel)) (fun _ _ _ _ _ => OZ.pg_tupK (K := K) (n := 2) rfl rfl (pgs_cons (pg_name (i := 1) sc__law_lot.nd rfl (Or.inl rfl)) (pgs_cons (pg_name (i := 2) sc__law_lot.nd rfl (Or.inl rfl)) pgs_nil))) (fun _ _ _ _ _ => pts_nil) (fun _ _ _ _ _ => (pv 2))) pa_nil)) pa_nil))) (pg_tup rfl (pgs_cons (pg_name (i := 8) sc__law_lot.nd rfl (.inr rfl)) (pgs_cons (pg_name (i := 9) sc__law_lot.nd rfl (.inr rfl)) pgs_nil))))
      (pss_cons (ps_par (i := 10) (j := 11) rfl sc__law_lot.nd rfl rfl (by decide) rfl rfl (pa_cons (pe_callB (cr_min rfl) (by rfl) T.n_min bt_min (pa_cons (pe_lc (own := [("x", 1), ("y", 2)]) (g := gTup K 2 (gCons (gName 1) (gCons (gName 2) gNil))) (tt := tYes) rfl sc__law_lot.nd (pi_list (pv 7)) (blkOk_by (N := ["ditch", "x", "y", "way", "found", "far", "at", "first", "wide", "high", "low", "left", "rows", "second"]) (sc := defScope s__law_lot) (by decide +kernel)) (fun _ _ _ _ _ => OZ.pg_tupK (K := K) (n := 2) rfl rfl (pgs_cons (pg_name (i := 1) sc__law_lot.nd rfl (Or.inl rfl)) (pgs_cons (pg_name (i := 2) sc__law_lot.nd rfl (Or.inl rfl)) pgs_nil))) (fun _ _ _ _ _ => pts_nil) (fun _ _ _ _ _ => (pv 2))) pa_nil)) (pa_cons (pe_callB (cr_min rfl) (by rfl) T.n_min bt_min (pa_cons (pe_lc (own := [("x", 1), ("y", 2)]) (g := gTup K 2 (gCons (gName 1) (gCons (gName 2) gNil))) (tt := tYes) rfl sc__law_lot.nd (pi_list (pv 7)) (blkOk_by (N := ["ditch", "x", "y", "way", "found", "far", "at", "first", "wide", "high", "low", "left", "rows", "second"]) (sc := defScope s__law_lot) (by decide +kernel)) (fun _ _ _ _ _ => OZ.pg_tupK (K := K) (n := 2) rfl rfl (pgs_cons (pg_name (i := 1) sc__law_lot.nd rfl (Or.inl rfl)) (pgs_cons (pg_name (i := 2) sc__law_lot.nd rfl (Or.inl rfl)) pgs_nil))) (fun _ _ _ _ _ => pts_nil) (fun _ _ _ _ _ => (pv 1))) pa_nil)) pa_nil)) rfl)
      (pss_cons (ps_asg (pe_tup (pa_cons (pe_lst (pa_cons (pv 7) pa_nil)) (pa_cons (pe_op op_add pe_int (pe_call (ok__law_dig T) (hr.mono (by decide)) (by rfl) T._law_dig.g T._law_dig.F.kp T._law_dig.b .nil pass0 (pa_cons (pv 0) (pa_cons pe_int pa_nil)))) pa_nil))) (pg_tup rfl (pgs_cons (pg_name (i := 12) sc__law_lot.nd rfl (.inl rfl)) (pgs_cons (pg_name (i := 5) sc__law_lot.nd rfl (.inr rfl)) pgs_nil))))
      (pss_cons (ps_if (pt_cmpR op_ne (pv 3) pe_int (nomark _)) (pss_cons (ps_set (i := 13) sc__law_lot.nd rfl (.inl rfl) (pe_call (ok__law_star T) (hr.mono (by decide)) (by rfl) T._law_star.g T._law_star.F.kp T._law_star.b .nil pass0 (pa_cons (pv 0) (pa_cons (pe_op op_add pe_int (pe_call (ok__law_dig T) (hr.mono (by decide)) (by rfl) T._law_dig.g T._law_dig.F.kp T._law_dig.b .nil pass0 (pa_cons (pv 0) (pa_cons pe_int pa_nil)))) (pa_cons pe_int pa_nil)))))
      (pss_cons (ps_set (i := 6) sc__law_lot.nd rfl (.inr rfl) (pe_callB (cr_min rfl) (by rfl) T.n_min bt_min (pa_cons (pe_lc (own := [("x", 1), ("y", 2)]) (g := gTup K 2 (gCons (gName 1) (gCons (gName 2) gNil))) (tt := tYes) rfl sc__law_lot.nd (pi_list (pv 13)) (blkOk_by (N := ["ditch", "x", "y", "way", "found", "far", "at", "first", "wide", "high", "low", "left", "rows", "second"]) (sc := defScope s__law_lot) (by decide +kernel)) (fun _ _ _ _ _ => OZ.pg_tupK (K := K) (n := 2) rfl rfl (pgs_cons (pg_name (i := 1) sc__law_lot.nd rfl (Or.inl rfl)) (pgs_cons (pg_name (i := 2) sc__law_lot.nd rfl (Or.inl rfl)) pgs_nil))) (fun _ _ _ _ _ => pts_nil) (fun _ _ _ _ _ => (pv 1))) pa_nil)))
      (pss_one (ps_expr (pe_bm F.plainAttrs_list F.slot_list_append F.type_list_append mt_append (pv 12) (pa_cons (pe_lc (own := [("x", 1), ("y", 2)]) (g := gTup K 2 (gCons (gName 1) (gCons (gName 2) gNil))) (tt := tYes) rfl sc__law_lot.nd (pi_list (pv 13)) (blkOk_by (N := ["ditch", "x", "y", "way", "found", "far", "at", "first", "wide", "high", "low", "left", "rows", "second"]) (sc := defScope s__law_lot) (by decide +kernel)) (fun _ _ _ _ _ => OZ.pg_tupK (K := K) (n := 2) rfl rfl (pgs_cons (pg_name (i := 1) sc__law_lot.nd rfl (Or.inl rfl)) (pgs_cons (pg_name (i := 2) sc__law_lot.nd rfl (Or.inl rfl)) pgs_nil))) (fun _ _ _ _ _ => pts_nil) (fun _ _ _ _ _ => (pe_tup (pa_cons (pe_op op_add (pe_op op_add (pe_op op_sub (pv 1) (pv 6)) (pv 8)) (pv 5)) (pa_cons (pe_op op_add (pv 2) (pv 9)) pa_nil))))) pa_nil)))))) pss_nil)
      (pss_cons (ps_if (pt_cmpR op_in_seq (pv 3) (pe_tup (pa_cons pe_int (pa_cons pe_int pa_nil))) (by with_unfolding_all rfl)) (pss_one (ps_expr (pe_bm F.plainAttrs_list F.slot_list_insert F.type_list_insert mt_insert (pv 12) (pa_cons pe_int (pa_cons (pe_lst (pa_cons (pe_tup (pa_cons (pe_op op_sub (pv 11) (pv 5)) (pa_cons (pe_op op_sub (pv 10) pe_int) pa_nil))) (pa_cons (pe_tup (pa_cons (pe_op op_add (pv 8) pe_int) (pa_cons (pe_op op_sub (pv 10) pe_int) pa_nil))) (pa_cons (pe_tup (pa_cons (pe_op op_add (pv 8) pe_int) (pa_cons (pe_op op_add (pv 9) pe_int) pa_nil))) (pa_cons (pe_tup (pa_cons (pe_op op_sub (pe_op op_sub (pv 11) (pv 5)) pe_int) (pa_cons (pe_op op_add (pv 9) pe_int) pa_nil))) pa_nil))))) pa_nil))))) pss_nil)
      (pss_one (ps_ret (pv 12)))))))))))), ?_⟩
    obtain ⟨c0, ys0, hux0⟩ := hu.at
    refine seq_by fun N hN => ?_
    walk_at "vc"
    refine ⟨u, 5, k + 999, rfl, by decide, by decide, hu.mono (by omega), fun H1 way b1 hu1 w0 w5 => ?_⟩
    subst hN
    refine seq_by fun N hN => ?_
    have rest : ∀ H2 o4 o5 o6, But u H H2 → Urn H2 u (k + 900) → N [some (.ref u), none, none, some (.int way), o4, o5, o6, none, none, none, none, none, none, none] H2 := by
      intro H2 o4 o5 o6 b2 hu2
      subst hN
      refine seq_by fun N2 hN2 => ?_
      have rest2 : ∀ H3 L ws zs, But u H H3 → Urn H3 u (k + 800) → H L = none → H3 L = some (.lst ws) → Each (ZP K H3) ws zs → OkRow zs → (∀ z ∈ zs, Win 6000 z) → N2 [some (.ref u), none, none, some (.int way), o4, o5, o6, some (.ref L), none, none, none, none, none, none] H3 := by
        intro H3 L ws zs B3 u3 fL hL hws ok wn
        have nL : L ≠ u := fun z => by rw [z, hux0] at fL; cases fL
        obtain ⟨c3, ys3, hux3⟩ := u3.at
        subst hN2
        refine seq_by fun N3 hN3 => ?_
        walk_at "vc"
        refine ⟨rfl, ?_⟩
        split
        · refine ⟨by decide, fun R hR => ?_⟩
          have sR := same_upd (o := .lst [.ref L]) hR
          have fR : H R = none := but_free B3 (fun z => by rw [z, hux3] at hR; cases hR) hR
          refine q _ R [.ref L] [zs] (B3.trans (same_but sR)) ((u3.same sR).mono (by omega)) fR upd_same (each_one ⟨L, ws, rfl, fun e he => ?_, sR _ _ hL, hws.imp fun v x z => z.same sR⟩) (Nat.succ_pos _) (by show 1 ≤ 6; decide) (PLot.one ok)
          rcases List.mem_cons.mp he with rfl | he
          · exact nL
          · rw [List.mem_singleton.mp he]
            exact fun z => by rw [z, hR] at hL; cases hL
        · rename_i hw4
          subst hN3
          refine seq_by fun N4 hN4 => ?_
          walk_at "vc"
          have l10 := ok.ten
          have l0 := ok.pos
          have ne1 : 0 < (zs.map Prod.fst).length := by rw [List.length_map]; exact l0
          have ne2 : 0 < (zs.map Prod.snd).length := by rw [List.length_map]; exact l0
          refine coord_lc (f := Prod.fst) rfl hL hws (by omega) (fun _ _ => rfl) (fun p H Q h => ⟨_, rfl, h⟩) fun H4 D1 s4 hD1 => ⟨D1, zs.map Prod.fst, rfl, sl_of hD1, ne1, fun wide mw xw => ?_⟩
          refine coord_lc (f := Prod.snd) rfl (s4 _ _ hL) (hws.imp fun v x z => z.same s4) (by omega) (fun _ _ => rfl) (fun p H Q h => ⟨_, rfl, h⟩) fun H5 D2 s5 hD2 => ⟨D2, zs.map Prod.snd, rfl, sl_of hD2, ne2, fun high mh xh => ⟨by decide, fun p1 hp1 => ⟨_, st_of upd_same, rfl, _, _, rfl, _, _, rfl, rfl, ?_⟩⟩⟩
          have s6 := (s4.trans s5).trans (same_upd (o := .tup [.int wide, .int high]) hp1)
          generalize upd H5 p1 _ = H6 at *
          clear hD1 hD2 s4 s5 hp1
          subst hN4
          refine seq_by fun N5 hN5 => ?_
          walk_at "vc"
          refine coord_lc (f := Prod.snd) rfl (s6 _ _ hL) (hws.imp fun v x z => z.same s6) (by omega) (fun _ _ => rfl) (fun p H Q h => ⟨_, rfl, h⟩) fun H7 D1 s7 hD1 => ⟨D1, zs.map Prod.snd, rfl, sl_of hD1, ne2, fun low ml xl => ?_⟩
          have s67 := s6.trans s7
          refine coord_lc (f := Prod.fst) rfl (s67 _ _ hL) (hws.imp fun v x z => z.same s67) (by omega) (fun _ _ => rfl) (fun p H Q h => ⟨_, rfl, h⟩) fun H9 D2 s8 hD2 => ⟨D2, zs.map Prod.fst, rfl, sl_of hD2, ne1, fun left mf xf => ?_⟩
          have s9 := s67.trans s8
          clear hD1 hD2 s7 s8 s67 s6
          have bx : ∀ z ∈ zs, left ≤ z.1 ∧ z.1 ≤ wide ∧ low ≤ z.2 ∧ z.2 ≤ high := fun z hz => ⟨xf _ (List.mem_map.mpr ⟨z, hz, rfl⟩), xw _ (List.mem_map.mpr ⟨z, hz, rfl⟩), xl _ (List.mem_map.mpr ⟨z, hz, rfl⟩), xh _ (List.mem_map.mpr ⟨z, hz, rfl⟩)⟩
          have wn2 : ∀ t, t ∈ zs.map Prod.fst ∨ t ∈ zs.map Prod.snd → -6000 ≤ t ∧ t ≤ 6000 := fun t ht => by
            rcases ht with h | h
            · obtain ⟨z, hz, rfl⟩ := List.mem_map.mp h
              have := wn z hz
              unfold Win at this
              omega
            · obtain ⟨z, hz, rfl⟩ := List.mem_map.mp h
              have := wn z hz
              unfold Win at this
              omega
          have b1' := wn2 wide (.inl mw)
          have b2' := wn2 high (.inr mh)
          have b3' := wn2 low (.inr ml)
          have b4' := wn2 left (.inl mf)
          have lh : low ≤ high := xl _ mh
          have lw : left ≤ wide := xf _ mw
          have B9 := B3.trans (same_but s9)
          have u9 := u3.same s9
          have hL9 := s9 _ _ hL
          have hws9 : Each (ZP K H9) ws zs := hws.imp fun v x z => z.same s9
          clear mw xw mh xh ml xl mf xf wn2 s9 hws hL u3 B3 hux3 H3
          subst hN5
          refine seq_by fun N6 hN6 => ?_
          walk_at "vc"
          obtain ⟨c9, ys9, hux9⟩ := u9.at
          refine ⟨by decide, fun R hR => ?_⟩
          have sR := same_upd (o := .lst [.ref L]) hR
          have nRu : R ≠ u := fun z => by rw [z, hux9] at hR; cases hR
          have nLR : L ≠ R := fun z => by rw [z, hR] at hL9; cases hL9
          have fR : H R = none := but_free B9 nRu hR
          refine ⟨u, 12, k + 799, rfl, by decide, by decide, (u9.same sR).mono (by omega), fun H10 fr b10 u10 f0 f12 => ⟨fr, rfl, by decide, fun p1 hp1 => ⟨_, st_of upd_same, rfl, _, _, rfl, _, _, rfl, rfl, ?_⟩⟩⟩
          have s11 := same_upd (o := .tup [.ref R, .int (1 + fr)]) hp1
          have B911 := ((same_but sR).trans b10).trans (same_but s11)
          have u11 := u10.same s11
          have nuR : u ≠ R := Ne.symm nRu
          have hR11 := s11 _ _ (b10.1 _ nRu _ upd_same)
          have hL11 := B911.1 _ nL _ hL9
          have hws11 : Each (ZP K _) ws zs := hws9.imp fun v x z => z.but B911 hux9
          have B11 := B9.trans B911
          generalize upd H10 p1 _ = H11 at *
          clear B911 s11 hp1 u10 b10 sR hws9 hL9 u9 B9 hux9 hR H10 H9
          show N6 _ _
          subst hN6
          refine seq_by fun N7 hN7 => ?_
          have rest3 : ∀ H12 o6 o13 vs rows, But u H H12 → Urn H12 u (k + 700) → H12 R = some (.lst vs) → Each (RowZ K [u, R] H12) vs rows → 0 < rows.length → rows.length ≤ 2 → PLot rows → (∀ r ∈ rows, ∀ z ∈ r, left ≤ z.1 ∧ z.1 ≤ wide + 200 ∧ low - 60 ≤ z.2 ∧ z.2 ≤ high + 60) → N7 [some (.ref u), none, none, some (.int way), o4, some (.int (1 + fr)), o6, some (.ref L), some (.int wide), some (.int high), some (.int low), some (.int left), some (.ref R), o13] H12 := by
            intro H12 o6 o13 vs rows B12 u12 hR12 hrs n0 n2 pl bd
            subst hN7
            refine seq_by fun N8 hN8 => ?_
            walk_at "vc"
            obtain ⟨c12, ys12, hux12⟩ := u12.at
            refine ⟨by decide, fun p hp => ⟨p, _, rfl, .inr (st_of upd_same), rfl, rfl, inV (V.int way) [V.int 0, V.int 1], rfl, ?_⟩⟩
            have sp := same_upd (o := .tup [.int 0, .int 1]) hp
            have B13 := B12.trans (same_but sp)
            have u13 := u12.same sp
            have hR13 := sp _ _ hR12
            have hrs13 : Each (RowZ K [u, R] _) vs rows := hrs.imp fun v x z => z.same sp
            generalize upd H12 p _ = H13 at *
            have eI : inV (V.int way) [V.int 0, V.int 1] = decide (way = 0 ∨ way = 1) := by
              have e1 : ∀ a b : Int, eqV (V.int a) (V.int b) = decide (a = b) := fun a b => by
                show (a == b) = decide (a = b)
                by_cases c : a = b <;> simp [c]
              show (List.any _ _) = _
              simp only [List.any_cons, List.any_nil, e1, Bool.or_false]
              rw [Bool.eq_iff_iff]
              simp only [Bool.or_eq_true, decide_eq_true_eq]
              omega
            rw [eI]
            by_cases cw : way = 0 ∨ way = 1
            · rw [if_pos (decide_eq_true cw)]
              simp only [tBM]
              walk_at "vc"
              refine ⟨.inl ⟨rfl, _, sl_of hR13⟩, by decide, fun q1 hq1 => ?_⟩
              have t1 := same_upd (o := .tup [.int (left - (1 + fr)), .int (low - 200)]) hq1
              have z1 : ZP K (upd H13 q1 (.tup [.int (left - (1 + fr)), .int (low - 200)])) (.ref q1) (left - (1 + fr), low - 200) := ⟨q1, rfl, st_of upd_same⟩
              generalize upd H13 q1 _ = G1 at *
              refine ⟨by decide, fun q2 hq2 => ?_⟩
              have t2 := same_upd (o := .tup [.int (wide + 300), .int (low - 200)]) hq2
              have z2 : ZP K (upd G1 q2 (.tup [.int (wide + 300), .int (low - 200)])) (.ref q2) (wide + 300, low - 200) := ⟨q2, rfl, st_of upd_same⟩
              have z1 := z1.same t2
              generalize upd G1 q2 _ = G2 at *
              refine ⟨by decide, fun q3 hq3 => ?_⟩
              have t3 := same_upd (o := .tup [.int (wide + 300), .int (high + 200)]) hq3
              have z3 : ZP K (upd G2 q3 (.tup [.int (wide + 300), .int (high + 200)])) (.ref q3) (wide + 300, high + 200) := ⟨q3, rfl, st_of upd_same⟩
              have z1 := z1.same t3
              have z2 := z2.same t3
              generalize upd G2 q3 _ = G3 at *
              refine ⟨by decide, fun q4 hq4 => ?_⟩
              have t4 := same_upd (o := .tup [.int (left - (1 + fr) - 1), .int (high + 200)]) hq4
              have z4 : ZP K (upd G3 q4 (.tup [.int (left - (1 + fr) - 1), .int (high + 200)])) (.ref q4) (left - (1 + fr) - 1, high + 200) := ⟨q4, rfl, st_of upd_same⟩
              have z1 := z1.same t4
              have z2 := z2.same t4
              have z3 := z3.same t4
              generalize upd G3 q4 _ = G4 at *
              refine ⟨by decide, fun q5 hq5 => ?_⟩
              have t5 := same_upd (o := .lst [.ref q1, .ref q2, .ref q3, .ref q4]) hq5
              have hb : Each (ZP K (upd G4 q5 (.lst [.ref q1, .ref q2, .ref q3, .ref q4]))) [.ref q1, .ref q2, .ref q3, .ref q4] (boxZ (left - (1 + fr)) (wide + 300) (low - 200) (high + 200)) := by
                refine ⟨rfl, fun i v x e1 e2 => ?_⟩
                match i, e1, e2 with
                | 0, e1, e2 => cases e1; cases e2; exact z1.same t5
                | 1, e1, e2 => cases e1; cases e2; exact z2.same t5
                | 2, e1, e2 => cases e1; cases e2; exact z3.same t5
                | 3, e1, e2 => cases e1; cases e2; exact z4.same t5
              have h5 : upd G4 q5 (.lst [.ref q1, .ref q2, .ref q3, .ref q4]) q5 = some (.lst [.ref q1, .ref q2, .ref q3, .ref q4]) := upd_same
              have t14 := ((t1.trans t2).trans t3).trans t4
              have n5R : q5 ≠ R := fun z => by rw [z, t14 _ _ hR13] at hq5; cases hq5
              have n5u : q5 ≠ u := fun z => by
                obtain ⟨c13, ys13, hux13⟩ := u13.at
                rw [z, t14 _ _ hux13] at hq5; cases hq5
              have t15 := t14.trans t5
              generalize upd G4 q5 _ = G5 at *
              have hR5 := t15 _ _ hR13
              have hrs5 : Each (RowZ K [u, R] G5) vs rows := hrs13.imp fun v x z => z.same t15
              have hv0 : Each (RowZ K [u, R] G5) ([.ref q5] ++ vs) ([boxZ (left - (1 + fr)) (wide + 300) (low - 200) (high + 200)] ++ rows) := each_app (each_one ⟨q5, _, rfl, fun e he => by
                rcases List.mem_cons.mp he with rfl | he
                · exact n5u
                · rw [List.mem_singleton.mp he]; exact n5R, h5, hb⟩) hrs5
              have hvl : vs.length ≤ 2 := by rw [hrs5.1]; exact n2
              refine ⟨vs, hR5, small1000 (by omega), by decide, by decide, ?_⟩
              subst hN8
              walk_at "vc"
              have eR : List.take (Int.toNat 0) vs ++ [V.ref q5] ++ List.drop (Int.toNat 0) vs = [V.ref q5] ++ vs := rfl
              rw [eR]
              have bw : OkRow (boxZ (left - (1 + fr)) (wide + 300) (low - 200) (high + 200)) := ⟨box_fine (by omega) (by omega), by show 4 ≤ 10; decide, fun z hz => by
                unfold boxZ at hz
                unfold Win
                simp only [List.mem_cons, List.not_mem_nil, or_false] at hz
                rcases hz with rfl | rfl | rfl | rfl <;> dsimp only <;> omega⟩
              refine q _ R ([.ref q5] ++ vs) ([boxZ (left - (1 + fr)) (wide + 300) (low - 200) (high + 200)] ++ rows) (butL (B13.trans (same_but t15)) fR nRu) ((urnL hu nRu fR (B13.trans (same_but t15)) (u13.same t15)).mono (by omega)) fR upd_same (hv0.imp fun v x z => z.keep hR5 (.tail _ (.head _))) (Nat.succ_pos _) (by rw [List.length_append, List.length_singleton]; omega) (pl.cons bw fun r hr => box_sep (pl.ok r hr).pos fun z hz => ?_)
              have := bd r hr z hz
              omega
            · rw [if_neg (by rw [decide_eq_false cw]; decide)]
              subst hN8
              walk_at "vc"
              exact q H13 R vs rows B13 (u13.mono (by omega)) fR hR13 hrs13 n0 (by omega) pl
          walk_at "vc"
          refine ⟨rfl, ?_⟩
          split
          · refine ⟨u, 2, k + 798, rfl, by decide, by decide, u11.mono (by omega), fun H12 x b12 u12 x0 x2 => ⟨x, rfl, ?_⟩⟩
            obtain ⟨n, rfl⟩ := Int.eq_ofNat_of_zero_le x0
            obtain ⟨c11, ys11, hux11⟩ := u11.at
            refine ⟨u, 3 + n, 2, k + 798 - 2 * (3 + n), (by show _ = [V.ref u, V.int ((3 + n : Nat) : Int), V.int 2]; rw [Int.natCast_add]; rfl), by omega, by omega, by decide, by decide, u12.mono (by omega), fun H13 M ms ys b13 u13 fM hM hms st => ?_⟩
            have sb := st.bd (by decide)
            have b1113 := b12.trans b13
            have nMu : M ≠ u := u12.ne fM
            have fM11 : H11 M = none := but_free b12 nMu fM
            have nMR : M ≠ R := fun z => by rw [z, hR11] at fM11; cases fM11
            have hR13 := b1113.1 _ nRu _ hR11
            have hL13 := b1113.1 _ nL _ hL11
            have hws13 : Each (ZP K H13) ws zs := hws11.imp fun v x z => z.but b1113 hux11
            have B13 := B11.trans b1113
            have hyl := sb.1
            refine coord_lc (f := Prod.fst) rfl hM hms (by omega) (fun _ _ => rfl) (fun p H Q h => ⟨_, rfl, h⟩) fun H14 D1 s14 hD1 => ⟨D1, ys.map Prod.fst, rfl, sl_of hD1, by rw [List.length_map]; omega, fun at' ma xa => ?_⟩
            have ba : -56 ≤ at' ∧ at' ≤ 56 := by
              obtain ⟨z, hz, rfl⟩ := List.mem_map.mp ma
              have := sb.2 z hz
              unfold Win at this
              omega
            simp only [tBM]
            walk_at "vc"
            have hR14 := s14 _ _ hR13
            refine ⟨.inl ⟨rfl, _, sl_of hR14⟩, _, rfl, M, rfl, ⟨_, sl_of (s14 _ _ hM)⟩, fun D hD => lc_zp (f := shiftP (wide + (1 + fr) - at') high) (s14 _ _ hM) (hms.imp fun v x z => z.same s14) hD (by rw [hms.1]; omega) (fun _ _ => rfl) (fun H2 p Q2 S2 hp hQ => ?_) fun H15 vs2 s15 hvs2 he2 => ?_⟩
            · simp only [wipe, List.foldl, List.set]
              walk_at "vc"
              refine ⟨by decide, fun t ht => hQ _ _ (same_upd ht) ⟨t, rfl, ?_⟩⟩
              have e : p.1 - at' + wide + (1 + fr) = (shiftP (wide + (1 + fr) - at') high p).1 := by unfold shiftP; dsimp only; omega
              rw [e]
              exact st_of upd_same
            · have s15' := s14.trans s15
              have hR15 := s15' _ _ hR13
              have nDR : D ≠ R := fun z => by rw [z, hR14] at hD; cases hD
              have u15 := u13.same s15'
              have nDu : D ≠ u := fun z => by
                obtain ⟨c, y, e⟩ := (u13.same s14).at
                rw [z, e] at hD; cases hD
              have ok2 : OkRow (ys.map (shiftP (wide + (1 + fr) - at') high)) := by
                refine ⟨(st.fine (by omega) (by decide) (by decide)).shift _ _, by rw [List.length_map]; omega, fun z hz => ?_⟩
                obtain ⟨y, hy, rfl⟩ := List.mem_map.mp hz
                have := sb.2 y hy
                unfold Win shiftP at *
                dsimp only
                omega
              have lo2 : ∀ z ∈ ys.map (shiftP (wide + (1 + fr) - at') high), wide < z.1 ∧ z.1 ≤ wide + 200 ∧ high - 60 ≤ z.2 ∧ z.2 ≤ high + 60 := fun z hz => by
                obtain ⟨y, hy, rfl⟩ := List.mem_map.mp hz
                have := sb.2 y hy
                have := xa _ (List.mem_map.mpr ⟨y, hy, rfl⟩)
                unfold Win shiftP at *
                dsimp only at *
                omega
              have sp2 : SepR zs (ys.map (shiftP (wide + (1 + fr) - at') high)) := sep_x wide ok.pos ok2.pos (fun z hz => (bx z hz).2.1) (fun z hz => (lo2 z hz).1)
              refine ⟨R, [.ref L], .ref D, rfl, rfl, hR15, (by show 1 < sizeLine; decide), ?_⟩
              have B15 := B13.trans (same_but s15')
              refine rest3 _ _ _ ([.ref L] ++ [.ref D]) ([zs] ++ [ys.map (shiftP (wide + (1 + fr) - at') high)]) (butL B15 fR nRu) ((urnL hu nRu fR B15 u15).mono (by omega)) upd_same ((each_app (each_one ⟨L, ws, rfl, fun e he => ?_, s15' _ _ hL13, hws13.imp fun v x z => z.same s15'⟩) (each_one ⟨D, vs2, rfl, fun e he => ?_, hvs2, he2⟩) : Each (RowZ K [u, R] H15) _ _).imp fun v x z => z.keep hR15 (.tail _ (.head _))) (Nat.succ_pos _) (by show 2 ≤ 2; decide) ((PLot.one ok).snoc ok2 fun r hr => by rw [List.mem_singleton.mp hr]; exact sp2) fun r hr z hz => ?_
              · rcases List.mem_cons.mp he with rfl | he
                · exact nL
                · rw [List.mem_singleton.mp he]; exact nLR
              · rcases List.mem_cons.mp he with rfl | he
                · exact nDu
                · rw [List.mem_singleton.mp he]; exact nDR
              · rcases List.mem_append.mp hr with hr | hr
                · rw [List.mem_singleton.mp hr] at hz
                  have := bx z hz
                  omega
                · rw [List.mem_singleton.mp hr] at hz
                  have := lo2 z hz
                  omega
          · exact rest3 H11 _ _ [.ref L] [zs] B11 (u11.mono (by omega)) hR11 (each_one ⟨L, ws, rfl, fun e he => by
              rcases List.mem_cons.mp he with rfl | he
              · exact nL
              · rw [List.mem_singleton.mp he]; exact nLR, hL11, hws11⟩) (Nat.succ_pos _) (by show 1 ≤ 2; decide) (PLot.one ok) (fun r hr z hz => by
              rw [List.mem_singleton.mp hr] at hz
              have := bx z hz
              omega)
      walk_at "vc"
      split
      · refine ⟨u, 4, k + 899, rfl, by decide, by decide, hu2.mono (by omega), fun H3 x b3 hu3 x0 x4 => ⟨x, rfl, ?_⟩⟩
        obtain ⟨n, rfl⟩ := Int.eq_ofNat_of_zero_le x0
        refine ⟨u, 3 + n, 3, k + 899 - 2 * (3 + n), (by show _ = [V.ref u, V.int ((3 + n : Nat) : Int), V.int 3]; rw [Int.natCast_add]; rfl), by omega, by omega, by decide, by decide, hu3.mono (by omega), fun H4 L ws zs b4 hu4 fL hL hws st => ?_⟩
        have bd := st.bd (by decide)
        exact rest2 H4 L ws zs ((b2.trans b3).trans b4) (hu4.mono (by omega)) (but_free (b2.trans b3) (hu3.ne fL) fL) hL hws ⟨st.fine (by omega) (by decide) (by decide), by omega, fun z hz => by have := bd.2 z hz; unfold Win at *; omega⟩ fun z hz => by have := bd.2 z hz; unfold Win at *; omega
      · refine ⟨u, 4, k + 899, rfl, by decide, by decide, hu2.mono (by omega), fun H3 x b3 hu3 x0 x4 => ⟨x, rfl, ?_⟩⟩
        obtain ⟨n, rfl⟩ := Int.eq_ofNat_of_zero_le x0
        refine ⟨u, 2 + n, k + 899 - 3 * (2 + n), (by show _ = [V.ref u, V.int ((2 + n : Nat) : Int)]; rw [Int.natCast_add]; rfl), by omega, by omega, hu3.mono (by omega), fun H4 L ws zs b4 hu4 fL hL hws st => ?_⟩
        have bd := st.win (by omega)
        have ln := st.len
        exact rest2 H4 L ws zs ((b2.trans b3).trans b4) (hu4.mono (by omega)) (but_free (b2.trans b3) (hu3.ne fL) fL) hL hws ⟨st.fine (by omega), by omega, fun z hz => by have := bd z hz; unfold Win at *; omega⟩ fun z hz => by have := bd z hz; unfold Win at *; omega
    walk_at "vc"
    refine ⟨rfl, ?_⟩
    split
    · obtain ⟨c1, ys1, hux1⟩ := hu1.at
      refine ⟨u, 2, k + 998, rfl, by decide, by decide, hu1.mono (by omega), fun H2 x b2 hu2 x0 x2 => ⟨rfl, ?_⟩⟩
      have B2 := b1.trans b2
      split
      · refine ⟨by decide, fun F hF => ?_⟩
        have sF := same_upd (o := .lst []) hF
        have nFu : F ≠ u := hu2.ne hF
        have fF : H F = none := but_free B2 nFu hF
        refine ⟨u, 60, k + 997, rfl, by decide, by decide, (hu2.same sF).mono (by omega), fun H3 far b3 hu3 f0 f60 => ⟨far, rfl, by decide, fun p1 hp1 => ⟨_, st_of upd_same, rfl, _, _, rfl, _, _, rfl, rfl, ?_⟩⟩⟩
        have s3 := same_upd (o := .tup [.ref F, .int (130 + far)]) hp1
        have hF3 := s3 _ _ (b3.1 _ nFu _ upd_same)
        have B3 := ((B2.trans (same_but sF)).trans b3).trans (same_but s3)
        have u3 := hu3.same s3
        generalize upd H3 p1 _ = H4 at *
        clear s3 hp1 hu3 b3 sF hF hu2 b2 hux1 H3 B2 H2
        obtain ⟨c4, ys4, hux4⟩ := u3.at
        refine ⟨_, rfl, u, 3, k + 996, rfl, by decide, by decide, u3.mono (by omega), fun H5 y b5 u5 y0 y3 => ⟨_, _, rfl, rfl, _, rfl, by omega, by omega, ?_⟩⟩
        have B5 := B3.trans b5
        have hF5 := b5.1 _ nFu _ hF3
        refine for_range (n := (4 + y).toNat) (fun i σ H6 => ∃ o6 vs rows, σ = [some (.ref u), none, none, some (.int way), some (.ref F), some (.int (130 + far)), o6, none, none, none, none, none, none, none] ∧ But u H H6 ∧ Urn H6 u (k + 990 - 10 * i) ∧ H6 F = some (.lst vs) ∧ Each (RowZ K [u, F] H6) vs rows ∧ rows.length = i ∧ PLot rows ∧ ∀ r ∈ rows, ∀ z ∈ r, z.1 + (130 + far) ≤ (130 + far) * (i : Nat) + 56) ?_ ?_ ?_
        · exact ⟨_, [], [], rfl, B5, u5.mono (by omega), hF5, ⟨rfl, fun i v x e => by simp at e⟩, rfl, ⟨(fun r hr => nomatch hr), List.Pairwise.nil⟩, (fun r hr => nomatch hr)⟩
        · rintro i σ H6 hi ⟨o6, vs, rows, rfl, B6, u6, hF6, hrs, ln, pl, bd⟩
          have hi : i < 6 := by omega
          rw [show (0 : Int) + (i : Nat) = (i : Nat) by omega]
          simp only [gName, List.set, tDrop, tBM]
          walk_at "vc"
          obtain ⟨c6, ys6, hux6⟩ := u6.at
          refine ⟨.inl ⟨rfl, _, sl_of hF6⟩, _, rfl, u, 3, 2, k + 990 - 10 * i - 6, rfl, by decide, by decide, by decide, by decide, u6.mono (by omega), fun H7 M ms ys b7 u7 fM hM hms st => ⟨M, rfl, ⟨_, sl_of hM⟩, fun D hD => ?_⟩⟩
          have sb := st.bd (by decide)
          have hyl := sb.1
          have hF7 := b7.1 _ nFu _ hF6
          have B7 := B6.trans b7
          have hrs7 : Each (RowZ K [u, F] H7) vs rows := hrs.imp fun v x z => z.but b7 hux6 (.head _)
          have i0 : (0 : Int) ≤ (i : Nat) := by omega
          have cm : ∀ a b : Int, -(2 ^ 64) < a → a < 2 ^ 64 → CMul a b := fun a b h1 h2 => .inl ⟨h1, h2⟩
          have fb : 0 ≤ (130 + far) * (i : Nat) ∧ (130 + far) * (i : Nat) ≤ 190 * 6 := ⟨Int.mul_nonneg (by omega) i0, Int.mul_le_mul (by omega) (by omega) i0 (by decide)⟩
          have fe : (130 + far) * ((i + 1 : Nat) : Int) = (130 + far) * (i : Nat) + (130 + far) := by
            rw [Int.natCast_add, Int.mul_add]
            show _ + (130 + far) * 1 = _
            omega
          refine lc_zp (f := shiftP ((130 + far) * (i : Nat)) (-(7 * (i : Nat)))) hM hms hD (by rw [hms.1]; omega) (fun _ _ => rfl) (fun H2 p Q2 S2 hp hQ => ?_) fun H8 vs2 s8 hvs2 he2 => ?_
          · simp only [wipe, List.foldl, List.set]
            walk_at "vc"
            refine ⟨cm _ _ (by omega) (by omega), cm _ _ (by decide) (by decide), by decide, fun t ht => hQ _ _ (same_upd ht) ⟨t, rfl, ?_⟩⟩
            have e : p.2 - 7 * (i : Nat) = (shiftP ((130 + far) * (i : Nat)) (-(7 * (i : Nat))) p).2 := by unfold shiftP; dsimp only; omega
            rw [e]
            exact st_of upd_same
          · have hF8 := s8 _ _ hF7
            have nDF : D ≠ F := fun z => by rw [z, hF7] at hD; cases hD
            have nDu : D ≠ u := fun z => by
              obtain ⟨c, y, e⟩ := u7.at
              rw [z, e] at hD; cases hD
            generalize (130 + far) * ((i : Nat) : Int) = fi at *
            have ok2 : OkRow (ys.map (shiftP fi (-(7 * (i : Nat))))) := by
              refine ⟨(st.fine (by decide) (by decide) (by decide)).shift _ _, by rw [List.length_map]; omega, fun z hz => ?_⟩
              obtain ⟨y, hy, rfl⟩ := List.mem_map.mp hz
              have := sb.2 y hy
              unfold Win shiftP at *
              dsimp only
              omega
            have lo2 : ∀ z ∈ ys.map (shiftP fi (-(7 * (i : Nat)))), fi - 56 ≤ z.1 ∧ z.1 ≤ fi + 56 := fun z hz => by
              obtain ⟨y, hy, rfl⟩ := List.mem_map.mp hz
              have := sb.2 y hy
              unfold Win shiftP at *
              dsimp only at *
              omega
            have B8 := B7.trans (same_but s8)
            have u8 := u7.same s8
            refine ⟨F, vs, .ref D, rfl, rfl, hF8, small1000 (by rw [hrs.1]; omega), ?_⟩
            refine ⟨butL B8 fF nFu, (urnL hu nFu fF B8 u8).mono (by omega), vs ++ [.ref D], upd_same, rows ++ [ys.map (shiftP fi (-(7 * (i : Nat))))], (each_snoc (hrs7.imp fun v x z => z.same s8) ⟨D, vs2, rfl, fun e he => ?_, hvs2, he2⟩ : Each (RowZ K [u, F] H8) _ _).imp fun v x z => z.keep hF8 (.tail _ (.head _)), by rw [List.length_append, ln]; rfl, pl.snoc ok2 fun r hr => sep_x (fi - (130 + far) + 56) (pl.ok r hr).pos ok2.pos (fun z hz => by have := bd r hr z hz; omega) (fun z hz => by have := lo2 z hz; omega), fun r hr z hz => ?_⟩
            · rcases List.mem_cons.mp he with rfl | he
              · exact nDu
              · rw [List.mem_singleton.mp he]; exact nDF
            · rw [fe]
              rcases List.mem_append.mp hr with hr | hr
              · have := bd r hr z hz
                omega
              · rw [List.mem_singleton.mp hr] at hz
                have := lo2 z hz
                omega
        · rintro σ H6 ⟨o6, vs, rows, rfl, B6, u6, hF6, hrs, ln, pl, bd⟩
          show tRet (tVar 4) _ _ _
          walk_at "vc"
          exact q H6 F vs rows B6 (u6.mono (by omega)) fF hF6 hrs (by omega) (by omega) pl
      · exact rest _ _ _ _ B2 (hu2.mono (by omega))
    · exact rest _ _ _ _ b1 (hu1.mono (by omega))
end
end Odd
namespace Odd
open PySem PySem.Spec PyProof.Rows L2
local macro_rules | `(tactic| walk_at "vc") => `(tactic| simp only [tSeq, tAsg, gName, tCB, tCons, tNil, tVar, tC, tOp, tUn, rI0, rI, rU, tTup, tLst, tIfS, tTest, tB, tRet, tNext, rGcd, L2.start, List.map, List.set, List.replicate, List.cons_append, List.nil_append, List.length_cons, List.length_nil, List.getElem?_cons_succ, List.getElem?_cons_zero, Option.some.injEq, exists_eq_left', exists_eq_left, List.append_nil, List.cons.injEq, V.int.injEq, exists_and_left, and_true, true_and, and_assoc, exists_const, V.bl.injEq, V.ref.injEq, Nat.sub_self, Nat.reduceAdd, Nat.reduceSub, List.replicate_succ, List.replicate_zero, tAnd, tOr, tNot, tAndV, tOrV, tNotV, tIf, tCall, tCallK, tDrop, rEq, rNe, decide_eq_true_eq, Bool.not_eq_true', decide_eq_false_iff_not, Bool.false_eq_true, if_true, if_false, reduceIte, reduceCtorEq, tMkLow, tRaiseLow, rIsB, rNotB, tBreak, tPar, gSub, rSetL, tChain, gTup, gCons, gNil, gSeq, cx_K, cx_Kn, optV, V.str.injEq, Bool.not_true, Bool.not_false, false_and, and_false, or_false, false_or, exists_false, tCallN, tCallS, tPairs])
section
variable {P : Program} {w : World} {K : PySem.W.Frag} {mg : Str → Option Value} {base : Heap} {A : Ads}
/-- a side: two points of integers -/
def SdZ (K : PySem.W.Frag) (H : Hp) (v : V) (s : (Int × Int) × (Int × Int)) : Prop := ∃ t x y, v = .ref t ∧ SqT K H t [x, y] ∧ ZP K H x s.1 ∧ ZP K H y s.2
theorem SdZ.same {H H' : Hp} {v : V} {s : (Int × Int) × (Int × Int)} (e : Same H H') (h : SdZ K H v s) : SdZ K H' v s := by
  obtain ⟨t, x, y, e1, h1, h2, h3⟩ := h
  exact ⟨t, x, y, e1, same_tup e h1, h2.same e, h3.same e⟩
def spFoot (K : PySem.W.Frag) : Sp := fun vs H Q _ => ∃ v u p s, vs = [v, u] ∧ ZP K H v p ∧ SdZ K H u s ∧ SmZ p ∧ SmZ s.1 ∧ SmZ s.2 ∧ RetP K H (ftN p s.1 s.2, ftD p s.1 s.2) Q
theorem ok__law_foot (T : Txt K mg A) : FnOk P w K mg base CX0 2 A.f__law_foot A.d__law_foot ["point", "side"] (spFoot K) := by
  refine T._law_foot.F.ok sc__law_foot (fun vs H Q E h => ?_) (fun cdv A' outer s H vs Q E hr h => ?_)
  · obtain ⟨_, _, _, _, rfl, _⟩ := h; rfl
  · obtain ⟨v, u, p, sd, rfl, ⟨pa, rfl, hp⟩, ⟨t, x, y, rfl, ht, ⟨xa, rfl, hx⟩, ⟨ya, rfl, hy⟩⟩, mp, m1, m2, ret⟩ := h
    refine ⟨_, (pss_cons (ps_asg (pv 1) (pg_tup rfl (pgs_cons (pg_name (i := 2) sc__law_foot.nd rfl (.inl rfl)) (pgs_cons (pg_name (i := 3) sc__law_foot.nd rfl (.inl rfl)) pgs_nil))))
      (pss_cons (ps_set (i := 4) sc__law_foot.nd rfl (.inl rfl) (pe_op op_add (pe_op op_mulW (pe_op op_sub (pe_ix ix_tup (pv 3) pe_int (fun _ _ => rfl)) (pe_ix ix_tup (pv 2) pe_int (fun _ _ => rfl))) (pe_op op_sub (pe_ix ix_tup (pv 3) pe_int (fun _ _ => rfl)) (pe_ix ix_tup (pv 2) pe_int (fun _ _ => rfl)))) (pe_op op_mulW (pe_op op_sub (pe_ix ix_tup (pv 3) pe_int (fun _ _ => rfl)) (pe_ix ix_tup (pv 2) pe_int (fun _ _ => rfl))) (pe_op op_sub (pe_ix ix_tup (pv 3) pe_int (fun _ _ => rfl)) (pe_ix ix_tup (pv 2) pe_int (fun _ _ => rfl))))))
      (pss_cons (ps_set (i := 5) sc__law_foot.nd rfl (.inl rfl) (pe_op op_add (pe_op op_mulW (pe_op op_sub (pe_ix ix_tup (pv 0) pe_int (fun _ _ => rfl)) (pe_ix ix_tup (pv 2) pe_int (fun _ _ => rfl))) (pe_op op_sub (pe_ix ix_tup (pv 3) pe_int (fun _ _ => rfl)) (pe_ix ix_tup (pv 2) pe_int (fun _ _ => rfl)))) (pe_op op_mulW (pe_op op_sub (pe_ix ix_tup (pv 0) pe_int (fun _ _ => rfl)) (pe_ix ix_tup (pv 2) pe_int (fun _ _ => rfl))) (pe_op op_sub (pe_ix ix_tup (pv 3) pe_int (fun _ _ => rfl)) (pe_ix ix_tup (pv 2) pe_int (fun _ _ => rfl))))))
      (pss_cons (ps_if (pt_chain op_lt op_lt pe_int (pv 5) (pv 4)) (pss_one (ps_ret (pe_tup (pa_cons (pe_op op_mulW (pe_call (ok__law_turn T) (hr.mono (by decide)) (by rfl) T._law_turn.g T._law_turn.F.kp T._law_turn.b .nil pass0 (pa_cons (pv 2) (pa_cons (pv 3) (pa_cons (pv 0) pa_nil)))) (pe_call (ok__law_turn T) (hr.mono (by decide)) (by rfl) T._law_turn.g T._law_turn.F.kp T._law_turn.b .nil pass0 (pa_cons (pv 2) (pa_cons (pv 3) (pa_cons (pv 0) pa_nil))))) (pa_cons (pv 4) pa_nil))))) pss_nil)
      (pss_cons (ps_set (i := 6) sc__law_foot.nd rfl (.inl rfl) (pe_ifExp (pt_cmpR op_le (pv 5) pe_int (nomark _)) (pv 2) (pv 3)))
      (pss_one (ps_ret (pe_tup (pa_cons (pe_op op_add (pe_op op_mulW (pe_op op_sub (pe_ix ix_tup (pv 0) pe_int (fun _ _ => rfl)) (pe_ix ix_tup (pv 6) pe_int (fun _ _ => rfl))) (pe_op op_sub (pe_ix ix_tup (pv 0) pe_int (fun _ _ => rfl)) (pe_ix ix_tup (pv 6) pe_int (fun _ _ => rfl)))) (pe_op op_mulW (pe_op op_sub (pe_ix ix_tup (pv 0) pe_int (fun _ _ => rfl)) (pe_ix ix_tup (pv 6) pe_int (fun _ _ => rfl))) (pe_op op_sub (pe_ix ix_tup (pv 0) pe_int (fun _ _ => rfl)) (pe_ix ix_tup (pv 6) pe_int (fun _ _ => rfl))))) (pa_cons pe_int pa_nil)))))))))), ?_⟩
    refine seq_by fun N hN => ?_
    walk_at "vc"
    refine ⟨_, ht, rfl, _, _, rfl, _, _, rfl, rfl, ?_⟩
    subst hN
    refine seq_by fun N hN => ?_
    walk_at "vc"
    have k : ∀ {x y u v : Int}, x.natAbs < 2 ^ 1000 → y.natAbs < 2 ^ 1000 → u.natAbs < 2 ^ 1000 → v.natAbs < 2 ^ 1000 → CMulW (x - y) (u - v) := by
      intro x y u v h1 h2 h3 h4
      have l : ∀ {i j : Int}, i.natAbs < 2 ^ 1000 → j.natAbs < 2 ^ 1000 → (i - j).natAbs < 2 ^ 1001 := fun {i j} h h' => by
        have e : (2 : Nat) ^ 1001 = 2 ^ 1000 + 2 ^ 1000 := by decide +kernel
        omega
      exact wide_mul (l h1 h2) (l h3 h4) (by decide) (by decide) (by decide)
    have two : ∀ {pb pc pd pe : Addr} {b c d e : Int × Int} {H : Hp} {R : VK}, SqT K H pb [.int b.1, .int b.2] → SqT K H pc [.int c.1, .int c.2] → SqT K H pd [.int d.1, .int d.2] → SqT K H pe [.int e.1, .int e.2] → SmZ b → SmZ c → SmZ d → SmZ e → R (.int ((b.1 - c.1) * (d.1 - e.1) + (b.2 - c.2) * (d.2 - e.2))) H →
        rIxT K (V.ref pb) (V.int 0) H fun x H1 => rIxT K (V.ref pc) (V.int 0) H1 fun y H2 => ∃ i, x = V.int i ∧ ∃ x, y = V.int x ∧ rIxT K (V.ref pd) (V.int 0) H2 fun x_1 H1 => rIxT K (V.ref pe) (V.int 0) H1 fun y H2 => ∃ i_1, x_1 = V.int i_1 ∧ ∃ x_2, y = V.int x_2 ∧ CMulW (i - x) (i_1 - x_2) ∧
          rIxT K (V.ref pb) (V.int 1) H2 fun x_3 H1 => rIxT K (V.ref pc) (V.int 1) H1 fun y H2 => ∃ i_2, x_3 = V.int i_2 ∧ ∃ x_4, y = V.int x_4 ∧ rIxT K (V.ref pd) (V.int 1) H2 fun x_5 H1 => rIxT K (V.ref pe) (V.int 1) H1 fun y H2 => ∃ i_3, x_5 = V.int i_3 ∧ ∃ x_6, y = V.int x_6 ∧ CMulW (i_2 - x_4) (i_3 - x_6) ∧ R (.int ((i - x) * (i_1 - x_2) + (i_2 - x_4) * (i_3 - x_6))) H2 := by
      intro pb pc pd pe b c d e H R hb hc hd he sb sc sd se r
      exact ixT hb rfl (ixT hc rfl ⟨_, rfl, _, rfl, ixT hd rfl (ixT he rfl ⟨_, rfl, _, rfl, k sb.1 sc.1 sd.1 se.1, ixT hb rfl (ixT hc rfl ⟨_, rfl, _, rfl, ixT hd rfl (ixT he rfl ⟨_, rfl, _, rfl, k sb.2 sc.2 sd.2 se.2, r⟩)⟩)⟩)⟩)
    refine two (R := fun v H => N [some (.ref pa), some (.ref t), some (.ref xa), some (.ref ya), some v, none, none] H) hy hx hy hx m2 m1 m2 m1 ?_
    have eL : (sd.2.1 - sd.1.1) * (sd.2.1 - sd.1.1) + (sd.2.2 - sd.1.2) * (sd.2.2 - sd.1.2) = lnZ sd.1 sd.2 := rfl
    rw [eL]
    subst hN
    refine seq_by fun N hN => ?_
    walk_at "vc"
    have eD : (p.1 - sd.1.1) * (sd.2.1 - sd.1.1) + (p.2 - sd.1.2) * (sd.2.2 - sd.1.2) = dtZ sd.1 sd.2 p := by unfold dtZ; grind
    refine two (R := fun v H => N [some (.ref pa), some (.ref t), some (.ref xa), some (.ref ya), some (.int (lnZ sd.1 sd.2)), some v, none] H) hp hx hy hx mp m1 m2 m1 ?_
    rw [eD]
    subst hN
    refine seq_by fun N hN => ?_
    walk_at "vc"
    have tail : ¬ (0 < dtZ sd.1 sd.2 p ∧ dtZ sd.1 sd.2 p < lnZ sd.1 sd.2) → N [some (.ref pa), some (.ref t), some (.ref xa), some (.ref ya), some (.int (lnZ sd.1 sd.2)), some (.int (dtZ sd.1 sd.2 p)), none] H := by
      intro no
      subst hN
      refine seq_by fun N2 hN2 => ?_
      walk_at "vc"
      split
      · rename_i c
        subst hN2
        walk_at "vc"
        refine two (R := fun v H => 2 ≤ sizeLine ∧ ∀ r, H r = none → Q (.ref r) (upd H r (.tup [v, .int 1]))) hp hx hp hx mp m1 mp m1 ⟨by decide, fun r hr => ret _ r (same_upd hr) ?_⟩
        unfold ftN ftD
        rw [if_pos c, if_pos c]
        exact st_of upd_same
      · rename_i c
        subst hN2
        walk_at "vc"
        refine two (R := fun v H => 2 ≤ sizeLine ∧ ∀ r, H r = none → Q (.ref r) (upd H r (.tup [v, .int 1]))) hp hy hp hy mp m2 mp m2 ⟨by decide, fun r hr => ret _ r (same_upd hr) ?_⟩
        unfold ftN ftD
        rw [if_neg c, if_pos (by omega), if_neg c, if_pos (by omega)]
        exact st_of upd_same
    split
    · rename_i c1
      split
      · rename_i c2
        have ec : crZ sd.1 sd.2 p = GeoZ.cr sd.1 sd.2 p := rfl
        have tb : (crZ sd.1 sd.2 p).natAbs < 2 ^ 2003 := by
          unfold crZ
          have l : ∀ {i j : Int}, i.natAbs < 2 ^ 1000 → j.natAbs < 2 ^ 1000 → (i - j).natAbs < 2 ^ 1001 := fun {i j} h h' => by
            have e : (2 : Nat) ^ 1001 = 2 ^ 1000 + 2 ^ 1000 := by decide +kernel
            omega
          have e1 : ((sd.2.1 - sd.1.1) * (p.2 - sd.1.2)).natAbs < 2 ^ 2002 := wide_lt (l m2.1 m1.1) (l mp.2 m1.2)
          have e2 : ((sd.2.2 - sd.1.2) * (p.1 - sd.1.1)).natAbs < 2 ^ 2002 := wide_lt (l m2.2 m1.2) (l mp.1 m1.1)
          have e : (2 : Nat) ^ 2003 = 2 ^ 2002 + 2 ^ 2002 := by decide +kernel
          omega
        have zx : ZP K H (.ref xa) sd.1 := ⟨xa, rfl, hx⟩
        have zy : ZP K H (.ref ya) sd.2 := ⟨ya, rfl, hy⟩
        have zp : ZP K H (.ref pa) p := ⟨pa, rfl, hp⟩
        refine ⟨_, _, _, _, _, _, rfl, zx, zy, zp, m1, m2, mp, _, _, _, _, _, _, rfl, zx, zy, zp, m1, m2, mp, _, rfl, _, rfl, wide_mul tb tb (by decide) (by decide) (by decide), by decide, fun r hr => ret _ r (same_upd hr) ?_⟩
        unfold ftN ftD
        rw [if_neg (by omega), if_neg (by omega), if_neg (by omega), if_neg (by omega), ← ec]
        exact st_of upd_same
      · rename_i c2
        exact tail fun h => c2 h.2
    · rename_i c1
      exact tail fun h => c1 h.1
end
end Odd
namespace Odd
open PySem PySem.Spec PyProof.Rows L2
local macro_rules | `(tactic| walk_at "vc") => `(tactic| simp only [tSeq, tAsg, gName, tCB, tCons, tNil, tVar, tC, tOp, tUn, rI0, rI, rU, tTup, tLst, tIfS, tTest, tB, tRet, tNext, rGcd, L2.start, List.map, List.set, List.replicate, List.cons_append, List.nil_append, List.length_cons, List.length_nil, List.getElem?_cons_succ, List.getElem?_cons_zero, Option.some.injEq, exists_eq_left', exists_eq_left, List.append_nil, List.cons.injEq, V.int.injEq, exists_and_left, and_true, true_and, and_assoc, exists_const, V.bl.injEq, V.ref.injEq, Nat.sub_self, Nat.reduceAdd, Nat.reduceSub, List.replicate_succ, List.replicate_zero, tAnd, tOr, tNot, tAndV, tOrV, tNotV, tIf, tCall, tCallK, tDrop, rEq, rNe, decide_eq_true_eq, Bool.not_eq_true', decide_eq_false_iff_not, Bool.false_eq_true, if_true, if_false, reduceIte, reduceCtorEq, tMkLow, tRaiseLow, rIsB, rNotB, tBreak, tPar, gSub, rSetL, tChain, gTup, gCons, gNil, gSeq, cx_K, cx_Kn, optV, V.str.injEq, Bool.not_true, Bool.not_false, false_and, and_false, or_false, false_or, exists_false, tCallN, tCallS, tPairs])
section
variable {P : Program} {w : World} {K : PySem.W.Frag} {mg : Str → Option Value} {base : Heap} {A : Ads}
theorem lc_tupN {α β : Type} {i : Nat} {vs : List Nat} {σ : L2.St} {te : TE} {H1 : Hp} {d D : Addr} {us : List V} {xs : List α} {RI : Hp → V → α → Prop} {RO : Hp → V → β → Prop} {f : α → β} {Qd : Hp → Prop}
    (mi : ∀ {H H' : Hp} {v x}, Same H H' → RI H v x → RI H' v x) (mo : ∀ {H H' : Hp} {v y}, Same H H' → RO H v y → RO H' v y) (ko : ∀ {H : Hp} {as bs : List V} {v y}, H D = some (.lst as) → RO H v y → RO (upd H D (.lst bs)) v y)
    (hd : SqT K H1 d us) (he : Each (RI H1) us xs) (hD : H1 D = none) (hl : us.length < 1000)
    (hw : ∀ v, wipe ((wipe σ vs).set i (some v)) vs = wipe σ vs)
    (hs : ∀ (H2 : Hp) (v : V) (x : α) (Q : VK), Same H1 H2 → (∀ c, H2 c = none → upd H1 D (.lst []) c = none) → RI H2 v x → x ∈ xs → (∀ y H4, Same H2 H4 → RO H4 y (f x) → Q y H4) → te ((wipe σ vs).set i (some v)) H2 Q)
    (hq : ∀ H' ws, Same H1 H' → H' D = some (.lst ws) → Each (RO H') ws (xs.map f) → Qd H') :
    ∃ W : Nat → Nat → Hp → Prop, (∃ m, W 0 m (upd H1 D (.lst []))) ∧ ∀ k m H, W k m H →
      ((Itt K d).stop k H ∧ Qd H) ∨ ((Itt K d).go k H ∧ ∃ Nx : Hp → Prop, (∀ H', Nx H' → ∃ m', m' < m ∧ W (k + 1) m' H') ∧ ∀ x H', (Itt K d).yld k H x H' → gName i x (wipe σ vs) H' fun σ2 H2 => wipe σ2 vs = wipe σ vs ∧ tYes σ2 H2 fun b H3 =>
        if b = true then te σ2 H3 fun y H4 => ∃ acc, H4 D = some (.lst acc) ∧ acc.length < sizeLine ∧ Nx (upd H4 D (.lst (acc ++ [y]))) else Nx H3) := by
  have sD := same_upd (o := .lst []) hD
  refine lc_tup (xs := us) (fun k H2 => Same H1 H2 ∧ ∃ acc, H2 D = some (.lst acc) ∧ Each (RO H2) acc ((xs.take k).map f)) ⟨sD, _, upd_same, rfl, fun k v x e => by simp at e⟩ (fun k H2 _ h => same_tup h.1 hd) ?_ ?_
  · rintro k v H2 hx ⟨s2, acc, e3, ea⟩
    obtain ⟨x, hp, ha⟩ := he.of hx
    refine ⟨hw _, ?_⟩
    simp only [tYes, if_true]
    have fr : ∀ c, H2 c = none → upd H1 D (.lst []) c = none := fun c hc => by
      have nc : c ≠ D := fun z => by rw [z, e3] at hc; cases hc
      rw [upd_ne nc]
      cases e : H1 c with
      | none => rfl
      | some o => rw [s2 _ _ e] at hc; cases hc
    refine hs H2 v x _ s2 fr (mi s2 ha) (List.mem_of_getElem? hp) fun y H4 s4 hy => ⟨acc, s4 _ _ e3, ?_, fun c o ec => ?_, _, upd_same, ?_⟩
    · rw [ea.1, List.length_map, List.length_take]
      have := he.1
      exact small1000 (by omega)
    · rw [upd_ne (ne_of_none ec hD)]
      exact s4 _ _ (s2 _ _ ec)
    · have hD4 := s4 _ _ e3
      rw [List.take_add_one, hp, List.map_append]
      exact each_snoc ⟨ea.1, fun i v x e1 e2 => ko hD4 (mo s4 (ea.2 i v x e1 e2))⟩ (ko hD4 hy)
  · rintro H2 ⟨s2, acc, e3, ea⟩
    rw [he.1, List.take_length] at ea
    exact hq H2 acc s2 e3 ea
theorem pr_keepL {H : Hp} {D : Addr} {as bs : List V} {v : V} {q : Int × Int} (hD : H D = some (.lst as)) (h : Pr K H v q) : Pr K (upd H D (.lst bs)) v q := by
  obtain ⟨a, e, h'⟩ := h
  exact ⟨a, e, keep_tup hD h'⟩
abbrev ZS := (Int × Int) × (Int × Int)
def foot (p : Int × Int) (s : ZS) : Int × Int := (ftN p s.1 s.2, ftD p s.1 s.2)
def feet (s t : ZS) : List (Int × Int) := [foot s.1 t, foot s.2 t, foot t.1 s, foot t.2 s]
/-- the least of these fractions -/
def LeastF (l : List (Int × Int)) (f : Int × Int) : Prop := f ∈ l ∧ ∀ g ∈ l, f.1 * g.2 ≤ g.1 * f.2
def SmF (f : Int × Int) : Prop := f.1.natAbs < 2 ^ 5000 ∧ f.2.natAbs < 2 ^ 5000
theorem foot_sm {p : Int × Int} {s : ZS} (mp : SmZ p) (m1 : SmZ s.1) (m2 : SmZ s.2) : SmF (foot p s) := by
  have l : ∀ {i j : Int}, i.natAbs < 2 ^ 1000 → j.natAbs < 2 ^ 1000 → (i - j).natAbs < 2 ^ 1001 := fun {i j} h h' => by
    have e : (2 : Nat) ^ 1001 = 2 ^ 1000 + 2 ^ 1000 := by decide +kernel
    omega
  have w : ∀ {x y u v a b c d : Int}, x.natAbs < 2 ^ 1000 → y.natAbs < 2 ^ 1000 → u.natAbs < 2 ^ 1000 → v.natAbs < 2 ^ 1000 → a.natAbs < 2 ^ 1000 → b.natAbs < 2 ^ 1000 → c.natAbs < 2 ^ 1000 → d.natAbs < 2 ^ 1000 → ((x - y) * (u - v) + (a - b) * (c - d)).natAbs < 2 ^ 2003 ∧ ((x - y) * (u - v) - (a - b) * (c - d)).natAbs < 2 ^ 2003 := by
    intro x y u v a b c d h1 h2 h3 h4 h5 h6 h7 h8
    have e1 : ((x - y) * (u - v)).natAbs < 2 ^ 2002 := wide_lt (l h1 h2) (l h3 h4)
    have e2 : ((a - b) * (c - d)).natAbs < 2 ^ 2002 := wide_lt (l h5 h6) (l h7 h8)
    have e : (2 : Nat) ^ 2003 = 2 ^ 2002 + 2 ^ 2002 := by decide +kernel
    omega
  have up : ∀ {x : Int}, x.natAbs < 2 ^ 2003 → x.natAbs < 2 ^ 5000 := fun h => Nat.lt_of_lt_of_le h (Nat.pow_le_pow_right (by decide) (by decide))
  have hl := (w m2.1 m1.1 m2.1 m1.1 m2.2 m1.2 m2.2 m1.2).1
  refine ⟨?_, ?_⟩
  · show (ftN p s.1 s.2).natAbs < 2 ^ 5000
    unfold ftN
    split
    · exact up (w mp.1 m1.1 mp.1 m1.1 mp.2 m1.2 mp.2 m1.2).1
    · split
      · exact up (w mp.1 m2.1 mp.1 m2.1 mp.2 m2.2 mp.2 m2.2).1
      · have hc := (w m2.1 m1.1 mp.2 m1.2 m2.2 m1.2 mp.1 m1.1).2
        have hc : (GeoZ.cr s.1 s.2 p).natAbs < 2 ^ 2003 := hc
        have h : (GeoZ.cr s.1 s.2 p * GeoZ.cr s.1 s.2 p).natAbs < 2 ^ 4006 := wide_lt hc hc
        exact Nat.lt_of_lt_of_le h (Nat.pow_le_pow_right (by decide) (by decide))
  · show (ftD p s.1 s.2).natAbs < 2 ^ 5000
    unfold ftD
    split
    · exact Nat.one_lt_two_pow (by decide)
    · split
      · exact Nat.one_lt_two_pow (by decide)
      · exact up hl
theorem least_trans {a b c : Int × Int} (ha : 0 < a.2) (hb : 0 < b.2) (hc : 0 < c.2) (h1 : a.1 * b.2 ≤ b.1 * a.2) (h2 : b.1 * c.2 ≤ c.1 * b.2) : a.1 * c.2 ≤ c.1 * a.2 := by
  have m1 := Int.mul_le_mul_of_nonneg_right h1 (Int.le_of_lt hc)
  have m2 := Int.mul_le_mul_of_nonneg_right h2 (Int.le_of_lt ha)
  refine Int.le_of_mul_le_mul_right (a := b.2) ?_ hb
  have e1 : a.1 * c.2 * b.2 = a.1 * b.2 * c.2 := by grind
  have e2 : c.1 * a.2 * b.2 = c.1 * b.2 * a.2 := by grind
  have e3 : b.1 * a.2 * c.2 = b.1 * c.2 * a.2 := by grind
  omega
def spBetween (K : PySem.W.Frag) : Sp := fun vs H Q _ => ∃ v u s t, vs = [v, u] ∧ SdZ K H v s ∧ SdZ K H u t ∧ SmZ s.1 ∧ SmZ s.2 ∧ SmZ t.1 ∧ SmZ t.2 ∧ s.1 ≠ s.2 ∧ t.1 ≠ t.2 ∧
  ∀ H' r f, Same H H' → SqT K H' r [.int f.1, .int f.2] → LeastF (feet s t) f → Q (.ref r) H'
theorem ok__law_between (T : Txt K mg A) : FnOk P w K mg base CX0 3 A.f__law_between A.d__law_between ["one", "other"] (spBetween K) := by
  refine T._law_between.F.ok sc__law_between (fun vs H Q E h => ?_) (fun cdv A' outer s H vs Q E hr h => ?_)
  · obtain ⟨_, _, _, _, rfl, _⟩ := h; rfl
  · obtain ⟨v, u, sd, td, rfl, hs, ht, m1, m2, m3, m4, ns, nt, ret⟩ := h
    refine ⟨_, (pss_cons (ps_set (i := 3) sc__law_between.nd rfl (.inl rfl) (pe_op op_cat (pe_lc (own := [("point", 2)]) (g := gName 2) (tt := tYes) rfl sc__law_between.nd (pi_tup (pv 0)) (blkOk_by (N := ["one", "other", "point", "some", "best", "each"]) (sc := defScope s__law_between) (by decide +kernel)) (fun _ _ _ _ _ => pg_name (i := 2) sc__law_between.nd rfl (Or.inl rfl)) (fun _ _ _ _ _ => pts_nil) (fun _ _ _ _ _ => (pe_call (ok__law_foot T) (hr.mono (by decide)) (by rfl) T._law_foot.g T._law_foot.F.kp T._law_foot.b .nil pass0 (pa_cons (pv 2) (pa_cons (pv 1) pa_nil))))) (pe_lc (own := [("point", 2)]) (g := gName 2) (tt := tYes) rfl sc__law_between.nd (pi_tup (pv 1)) (blkOk_by (N := ["one", "other", "point", "some", "best", "each"]) (sc := defScope s__law_between) (by decide +kernel)) (fun _ _ _ _ _ => pg_name (i := 2) sc__law_between.nd rfl (Or.inl rfl)) (fun _ _ _ _ _ => pts_nil) (fun _ _ _ _ _ => (pe_call (ok__law_foot T) (hr.mono (by decide)) (by rfl) T._law_foot.g T._law_foot.F.kp T._law_foot.b .nil pass0 (pa_cons (pv 2) (pa_cons (pv 0) pa_nil)))))))
      (pss_cons (ps_set (i := 4) sc__law_between.nd rfl (.inl rfl) (pe_ix ix_list (pv 3) pe_int (fun _ _ => rfl)))
      (pss_cons (ps_for PassesOwn.never rfl (pi_list (pv 3)) (pg_name (i := 5) sc__law_between.nd rfl (.inl rfl)) (pss_one (ps_if (pt_cmpR op_lt (pe_op op_mulW (pe_ix ix_tup (pv 5) pe_int (fun _ _ => rfl)) (pe_ix ix_tup (pv 4) pe_int (fun _ _ => rfl))) (pe_op op_mulW (pe_ix ix_tup (pv 4) pe_int (fun _ _ => rfl)) (pe_ix ix_tup (pv 5) pe_int (fun _ _ => rfl))) (nomark _)) (pss_one (ps_set (i := 4) sc__law_between.nd rfl (.inl rfl) (pv 5))) pss_nil)))
      (pss_one (ps_ret (pv 4)))))), ?_⟩
    refine seq_by fun N hN => ?_
    walk_at "vc"
    obtain ⟨a1, x1, y1, rfl, h1, hx1, hy1⟩ := id hs
    obtain ⟨a2, x2, y2, rfl, h2, hx2, hy2⟩ := id ht
    have e1 : Each (ZP K H) [x1, y1] [sd.1, sd.2] := ⟨rfl, fun n w q e1 e2 => by
      match n, e1, e2 with
      | 0, e1, e2 => cases e1; cases e2; exact hx1
      | 1, e1, e2 => cases e1; cases e2; exact hy1⟩
    have e2 : Each (ZP K H) [x2, y2] [td.1, td.2] := ⟨rfl, fun n w q e1 e2 => by
      match n, e1, e2 with
      | 0, e1, e2 => cases e1; cases e2; exact hx2
      | 1, e1, e2 => cases e1; cases e2; exact hy2⟩
    have sm1 : ∀ q ∈ [sd.1, sd.2], SmZ q := fun q hq => by
      simp only [List.mem_cons, List.not_mem_nil, or_false] at hq
      rcases hq with rfl | rfl
      · exact m1
      · exact m2
    have sm2 : ∀ q ∈ [td.1, td.2], SmZ q := fun q hq => by
      simp only [List.mem_cons, List.not_mem_nil, or_false] at hq
      rcases hq with rfl | rfl
      · exact m3
      · exact m4
    refine ⟨_, rfl, a1, rfl, ⟨_, h1⟩, fun D1 hD1 => lc_tupN (RI := ZP K) (RO := Pr K) (f := fun q => foot q td) (xs := [sd.1, sd.2]) (fun s h => h.same s) (fun s h => h.same s) (fun h k => pr_keepL h k) h1 e1 hD1 (by show 2 < 1000; decide) (fun _ => rfl) (fun H2 w q Q2 S2 _ hw hq hQ => ?_) fun H2 ws s2 hws he => ?_⟩
    · simp only [wipe, List.foldl, List.set]
      walk_at "vc"
      exact ⟨_, _, q, td, rfl, hw, ht.same S2, sm1 q hq, m3, m4, fun H3 r s3 hr => hQ _ _ s3 ⟨r, rfl, hr⟩⟩
    refine ⟨_, rfl, a2, rfl, ⟨_, same_tup s2 h2⟩, fun D2 hD2 => lc_tupN (RI := ZP K) (RO := Pr K) (f := fun q => foot q sd) (xs := [td.1, td.2]) (fun s h => h.same s) (fun s h => h.same s) (fun h k => pr_keepL h k) (same_tup s2 h2) (e2.imp fun v x z => z.same s2) hD2 (by show 2 < 1000; decide) (fun _ => rfl) (fun H3 w q Q2 S3 _ hw hq hQ => ?_) fun H3 ws2 s3 hws2 he2 => ?_⟩
    · simp only [wipe, List.foldl, List.set]
      walk_at "vc"
      exact ⟨_, _, q, sd, rfl, hw, hs.same (s2.trans S3), sm2 q hq, m1, m2, fun H4 r s4 hr => hQ _ _ s4 ⟨r, rfl, hr⟩⟩
    have hws3 := s3 _ _ hws
    have l1 : ws.length = 2 := he.1
    have l2 : ws2.length = 2 := he2.1
    refine ⟨D1, D2, ws, ws2, rfl, rfl, hws3, hws2, Nat.le_of_lt (small1000 (by omega)), fun D hD => ?_⟩
    have s23 := s2.trans s3
    have s4 := same_upd (o := .lst (ws ++ ws2)) hD
    have hD4 : upd H3 D (.lst (ws ++ ws2)) D = some (.lst (ws ++ ws2)) := upd_same
    have hA : Each (Pr K (upd H3 D (.lst (ws ++ ws2)))) (ws ++ ws2) (feet sd td) := each_app (he.imp fun v x z => z.same (s3.trans s4)) (he2.imp fun v x z => z.same s4)
    have S := s23.trans s4
    generalize upd H3 D _ = G at *
    have lA : (ws ++ ws2).length = 4 := by rw [List.length_append, l1, l2]
    generalize ws ++ ws2 = us at *
    clear s4 s23 hws2 he2 hws3 hws he s3 s2 hD hD1 hD2 l1 l2
    have smF : ∀ f ∈ feet sd td, SmF f := fun f hf => by
      unfold feet at hf
      simp only [List.mem_cons, List.not_mem_nil, or_false] at hf
      rcases hf with rfl | rfl | rfl | rfl
      · exact foot_sm m1 m3 m4
      · exact foot_sm m2 m3 m4
      · exact foot_sm m3 m1 m2
      · exact foot_sm m4 m1 m2
    have posF : ∀ f ∈ feet sd td, 0 < f.2 := fun f hf => by
      unfold feet at hf
      simp only [List.mem_cons, List.not_mem_nil, or_false] at hf
      rcases hf with rfl | rfl | rfl | rfl
      · exact ftD_pos nt
      · exact ftD_pos nt
      · exact ftD_pos ns
      · exact ftD_pos ns
    show N _ _
    subst hN
    refine seq_by fun N hN => ?_
    walk_at "vc"
    obtain ⟨w0, hw0, hp0⟩ := hA.at (i := 0) (x := foot sd.1 td) rfl
    refine ixL (sl_of hD4) (v := w0) (atI_nat (j := 0) hw0) ?_
    subst hN
    refine seq_by fun N hN => ?_
    walk_at "vc"
    have lF : (feet sd td).length = 4 := rfl
    refine ⟨_, rfl, D, rfl, ⟨_, sl_of hD4⟩, for_list (xs := us) (fun i σ H' => ∃ b e f, σ = [some (.ref a1), some (.ref a2), none, some (.ref D), some b, e] ∧ Same G H' ∧ Pr K H' b f ∧ f ∈ feet sd td ∧ ∀ g ∈ (feet sd td).take i, f.1 * g.2 ≤ g.1 * f.2) ?_ ?_ ?_ ?_⟩
    · exact ⟨_, _, _, rfl, fun _ _ e => e, hp0, List.mem_cons_self, fun g hg => by simp at hg⟩
    · rintro i σ H' _ ⟨_, _, _, _, s', _⟩
      exact sl_of (s' _ _ hD4)
    · rintro i x σ H' hx ⟨b, e, f, rfl, s', hb, hf, hl⟩
      obtain ⟨g, hg, hx'⟩ := (hA.imp fun v x z => z.same s').of hx
      have mg := List.mem_of_getElem? hg
      obtain ⟨xa, rfl, hxa⟩ := id hx'
      obtain ⟨ba, rfl, hba⟩ := id hb
      walk_at "vc"
      have cm : ∀ a ∈ feet sd td, ∀ c ∈ feet sd td, CMulW a.1 c.2 := fun a ha c hc => wide_mul (smF a ha).1 (smF c hc).2 (by decide) (by decide) (by decide)
      refine ixT hxa rfl (ixT hba rfl ⟨_, rfl, _, rfl, cm g mg f hf, ixT hba rfl (ixT hxa rfl ⟨_, rfl, _, rfl, cm f hf g mg, ?_⟩)⟩)
      split
      · rename_i c
        refine ⟨s', g, hx', mg, fun k hk => ?_⟩
        rw [List.take_add_one, hg] at hk
        rcases List.mem_append.mp hk with hk | hk
        · exact least_trans (posF g mg) (posF f hf) (posF k (List.mem_of_mem_take hk)) (Int.le_of_lt c) (hl k hk)
        · rw [Option.toList, List.mem_singleton] at hk
          rw [hk]
          exact Int.le_refl _
      · rename_i c
        refine ⟨s', f, hb, hf, fun k hk => ?_⟩
        rw [List.take_add_one, hg] at hk
        rcases List.mem_append.mp hk with hk | hk
        · exact hl k hk
        · rw [Option.toList, List.mem_singleton] at hk
          rw [hk]
          exact Int.not_lt.mp c
    · rintro σ H' ⟨b, e, f, rfl, s', hb, hf, hl⟩
      show N _ _
      subst hN
      walk_at "vc"
      obtain ⟨ba, rfl, hba⟩ := id hb
      refine ret _ _ _ (S.trans s') hba ⟨hf, ?_⟩
      rw [lA, ← lF, List.take_length] at hl
      exact hl
end
end Odd
open PySem PySem.Spec PyProof.Rows L2
namespace OZ
theorem pi_listK {X : Cx} {K : PySem.W.Frag} {tg l : Expr} {tl : TE} (e : X.K = K) (hl : PE X l tl) : PI X tg l (iList K tl) := by subst e; exact pi_list hl
theorem pi_tupK {X : Cx} {K : PySem.W.Frag} {l : Expr} {tg : Expr} {tl : TE} (e : X.K = K) (hl : PE X l tl) : PI X tg l (iTup K tl) := by subst e; exact pi_tup hl
theorem pe_fldK {X : Cx} {K : PySem.W.Frag} {e : Expr} {ta : TE} {f : Str} {pos : Pos} (e1 : X.K = K) (he : PE X e ta) (hb : attributeBase e f X.env (eval e X.env) = eval e X.env) : PE X (.Attribute e f pos) (tFld K ta f) := by subst e1; exact pe_fld he hb
theorem call_reprDK {X : Cx} {K : PySem.W.Frag} (e : X.K = K) (hg : X.A.guards = some []) (hu : X.A.units + 64 < cLine) : CallR X (.builtin "repr") (Odd.rRepr K) := by subst e; exact Odd.call_reprD hg hu
end OZ
namespace Odd
open PySem PySem.Spec PyProof.Rows L2
local macro_rules | `(tactic| walk_at "vc") => `(tactic| simp only [tSeq, tAsg, gName, tCB, tCons, tNil, tVar, tC, tOp, tUn, rI0, rI, rU, tTup, tLst, tIfS, tTest, tB, tRet, tNext, rGcd, L2.start, List.map, List.set, List.replicate, List.cons_append, List.nil_append, List.length_cons, List.length_nil, List.getElem?_cons_succ, List.getElem?_cons_zero, Option.some.injEq, exists_eq_left', exists_eq_left, List.append_nil, List.cons.injEq, V.int.injEq, exists_and_left, and_true, true_and, and_assoc, exists_const, V.bl.injEq, V.ref.injEq, Nat.sub_self, Nat.reduceAdd, Nat.reduceSub, List.replicate_succ, List.replicate_zero, tAnd, tOr, tNot, tAndV, tOrV, tNotV, tIf, tCall, tCallK, tDrop, rEq, rNe, decide_eq_true_eq, Bool.not_eq_true', decide_eq_false_iff_not, Bool.false_eq_true, if_true, if_false, reduceIte, reduceCtorEq, tMkLow, tRaiseLow, rIsB, rNotB, tBreak, tPar, gSub, rSetL, tChain, gTup, gCons, gNil, gSeq, cx_K, cx_Kn, optV, V.str.injEq, Bool.not_true, Bool.not_false, false_and, and_false, or_false, false_or, exists_false, tCallN, tCallS, tPairs])
section
variable {P : Program} {w : World} {K : PySem.W.Frag} {mg : Str → Option Value} {base : Heap} {A : Ads}
/-- all sides of the rows, by their places -/
def keysT (rows : List (List (Int × Int))) (n : Nat) : List (Nat × Nat) := (List.range n).flatMap fun f => (List.range (rows.getD f []).length).map fun i => (f, i)
def keysZ (rows : List (List (Int × Int))) : List (Nat × Nat) := keysT rows rows.length
def sideZ (rows : List (List (Int × Int))) (p : Nat × Nat) : ZS := (ringV (rows.getD p.1 [])).getD p.2 ((0, 0), (0, 0))
def goodZ (rows : List (List (Int × Int))) (p q : Nat × Nat) : Bool := lexP p q && !(p.1 == q.1 && (q.2 == p.2 + 1 || q.2 + 1 == p.2 + (rows.getD p.1 []).length))
def prsZ (rows : List (List (Int × Int))) (l : List (Nat × Nat)) : List ((Nat × Nat) × (Nat × Nat)) := l.flatMap fun p => ((keysZ rows).filter fun q => goodZ rows p q).map fun q => (p, q)
def pairsZ (rows : List (List (Int × Int))) : List ((Nat × Nat) × (Nat × Nat)) := prsZ rows (keysZ rows)
/-- a place and its side -/
def KSd (K : PySem.W.Frag) (rows : List (List (Int × Int))) (H : Hp) (v : V) (p : Nat × Nat) : Prop := ∃ a x y, v = .ref a ∧ SqT K H a [x, y] ∧ NumV K H x p ∧ SdZ K H y (sideZ rows p)
/-- two places and their sides -/
def PSd (K : PySem.W.Frag) (rows : List (List (Int × Int))) (H : Hp) (v : V) (p : (Nat × Nat) × (Nat × Nat)) : Prop := ∃ a x1 x2 x3 x4, v = .ref a ∧ SqT K H a [x1, x2, x3, x4] ∧ NumV K H x1 p.1 ∧ SdZ K H x2 (sideZ rows p.1) ∧ NumV K H x3 p.2 ∧ SdZ K H x4 (sideZ rows p.2)
def RowP (K : PySem.W.Frag) (H : Hp) (v : V) (r : List (Int × Int)) : Prop := ∃ L us, v = .ref L ∧ H L = some (.lst us) ∧ Each (ZP K H) us r
def spPairs (K : PySem.W.Frag) : Sp := fun vs H Q _ => ∃ a us rows, vs = [.ref a] ∧ H a = some (.lst us) ∧ Each (RowP K H) us rows ∧ rows.length ≤ 6 ∧ (∀ r ∈ rows, 3 ≤ r.length ∧ r.length ≤ 10) ∧
  ∀ H' D ws, Same H H' → H D = none → H' D = some (.lst ws) → Each (PSd K rows H') ws (pairsZ rows) → Q (.ref D) H'
theorem ring_each {H : Hp} {us : List V} {r : List (Int × Int)} (h : Each (ZP K H) us r) {k : Nat} (hk : k < r.length) : ∃ x y, (ringV us)[k]? = some (x, y) ∧ ZP K H x ((ringV r).getD k ((0, 0), (0, 0))).1 ∧ ZP K H y ((ringV r).getD k ((0, 0), (0, 0))).2 := by
  have l := h.1
  have e1 : (ringV us)[k]? = some (us[k]'(by omega), us[(k + 1) % us.length]'(Nat.mod_lt _ (by omega))) := sideL_at (by omega)
  have e2 : (ringV r)[k]? = some (r[k]'hk, r[(k + 1) % r.length]'(Nat.mod_lt _ (by omega))) := sideL_at hk
  refine ⟨_, _, e1, ?_, ?_⟩
  · rw [List.getD_eq_getElem?_getD, e2]
    exact h.2 k _ _ (List.getElem?_eq_getElem _) (List.getElem?_eq_getElem _)
  · rw [List.getD_eq_getElem?_getD, e2]
    refine h.2 ((k + 1) % r.length) _ _ ?_ (List.getElem?_eq_getElem _)
    rw [← l]
    exact List.getElem?_eq_getElem _
theorem KSd.same {rows : List (List (Int × Int))} {H H' : Hp} {v : V} {p : Nat × Nat} (s : Same H H') (h : KSd K rows H v p) : KSd K rows H' v p := by
  obtain ⟨a, x, y, e, h1, h2, h3⟩ := h
  exact ⟨a, x, y, e, same_tup s h1, h2.same s, h3.same s⟩
theorem num_keepL {H : Hp} {D : Addr} {as bs : List V} {v : V} {q : Nat × Nat} (hD : H D = some (.lst as)) (h : NumV K H v q) : NumV K (upd H D (.lst bs)) v q := by
  obtain ⟨a, e, h'⟩ := h
  exact ⟨a, e, keep_tup hD h'⟩
theorem SdZ.keep {H : Hp} {D : Addr} {as bs : List V} {v : V} {q : ZS} (hD : H D = some (.lst as)) (h : SdZ K H v q) : SdZ K (upd H D (.lst bs)) v q := by
  obtain ⟨t, x, y, e, h1, h2, h3⟩ := h
  exact ⟨t, x, y, e, keep_tup hD h1, h2.keep hD, h3.keep hD⟩
theorem KSd.keep {rows : List (List (Int × Int))} {H : Hp} {D : Addr} {as bs : List V} {v : V} {p : Nat × Nat} (hD : H D = some (.lst as)) (h : KSd K rows H v p) : KSd K rows (upd H D (.lst bs)) v p := by
  obtain ⟨a, x, y, e, h1, h2, h3⟩ := h
  exact ⟨a, x, y, e, keep_tup hD h1, num_keepL hD h2, h3.keep hD⟩
theorem PSd.same {rows : List (List (Int × Int))} {H H' : Hp} {v : V} {p : (Nat × Nat) × (Nat × Nat)} (s : Same H H') (h : PSd K rows H v p) : PSd K rows H' v p := by
  obtain ⟨a, x, y, z, u, e, h1, h2, h3, h4, h5⟩ := h
  exact ⟨a, x, y, z, u, e, same_tup s h1, h2.same s, h3.same s, h4.same s, h5.same s⟩
theorem PSd.keep {rows : List (List (Int × Int))} {H : Hp} {D : Addr} {as bs : List V} {v : V} {p : (Nat × Nat) × (Nat × Nat)} (hD : H D = some (.lst as)) (h : PSd K rows H v p) : PSd K rows (upd H D (.lst bs)) v p := by
  obtain ⟨a, x, y, z, u, e, h1, h2, h3, h4, h5⟩ := h
  exact ⟨a, x, y, z, u, e, keep_tup hD h1, num_keepL hD h2, h3.keep hD, num_keepL hD h4, h5.keep hD⟩
theorem RowP.same {H H' : Hp} {v : V} {r : List (Int × Int)} (s : Same H H') (h : RowP K H v r) : RowP K H' v r := by
  obtain ⟨L, us, e, h1, h2⟩ := h
  exact ⟨L, us, e, s _ _ h1, h2.imp fun v x z => z.same s⟩
theorem keysT_succ (rows : List (List (Int × Int))) (n : Nat) : keysT rows (n + 1) = keysT rows n ++ (List.range (rows.getD n []).length).map fun i => (n, i) := by
  unfold keysT
  rw [List.range_succ, List.flatMap_append, List.flatMap_singleton]
theorem keysT_len (rows : List (List (Int × Int))) (l10 : ∀ r ∈ rows, 3 ≤ r.length ∧ r.length ≤ 10) : ∀ n, n ≤ rows.length → (keysT rows n).length ≤ 10 * n
  | 0, _ => Nat.le_refl _
  | n + 1, h => by
    rw [keysT_succ, List.length_append, List.length_map, List.length_range]
    have := keysT_len rows l10 n (by omega)
    have e : rows[n]? = some rows[n] := List.getElem?_eq_getElem (by omega)
    have h2 := (l10 _ (List.mem_of_getElem? e)).2
    have e2 : rows.getD n [] = rows[n] := by rw [List.getD_eq_getElem?_getD, e]; rfl
    rw [e2]
    omega
theorem prsZ_len (rows : List (List (Int × Int))) : ∀ l, (prsZ rows l).length ≤ l.length * (keysZ rows).length
  | [] => Nat.zero_le _
  | p :: l => by
    have e : prsZ rows (p :: l) = (((keysZ rows).filter fun q => goodZ rows p q).map fun q => (p, q)) ++ prsZ rows l := rfl
    rw [e, List.length_append, List.length_map, List.length_cons, Nat.add_mul]
    have := List.length_filter_le (fun q => goodZ rows p q) (keysZ rows)
    have := prsZ_len rows l
    omega
theorem keysZ_mem (rows : List (List (Int × Int))) {p : Nat × Nat} (h : p ∈ keysZ rows) : p.1 < rows.length ∧ p.2 < (rows.getD p.1 []).length := by
  unfold keysZ keysT at h
  obtain ⟨f, hf, h⟩ := List.mem_flatMap.mp h
  obtain ⟨i, hi, rfl⟩ := List.mem_map.mp h
  exact ⟨List.mem_range.mp hf, List.mem_range.mp hi⟩
theorem ok__law_pairs (T : Txt K mg A) : FnOk P w K mg base CX0 2 A.f__law_pairs A.d__law_pairs ["rows"] (spPairs K) := by
  refine T._law_pairs.F.ok sc__law_pairs (fun vs H Q E h => ?_) (fun cdv A' outer s H vs Q E hr h => ?_)
  · obtain ⟨_, _, _, rfl, _⟩ := h; rfl
  · obtain ⟨a, us, rows, rfl, ha, hA, l6, l10, ret⟩ := h
    refine ⟨_, (pss_cons (ps_set (i := 2) sc__law_pairs.nd rfl (.inl rfl) (pe_lst pa_nil))
      (pss_cons (ps_for PassesOwn.never rfl (pi_range1 rfl T.n_range (pa_cons (pe_callB call_len_seq (by rfl) T.n_len bt_len (pa_cons (pv 0) pa_nil)) pa_nil)) (pg_name (i := 3) sc__law_pairs.nd rfl (.inr rfl)) (pss_one (ps_set (i := 2) sc__law_pairs.nd rfl (.inl rfl) (pe_op op_cat (pv 2) (pe_lc (own := [("at", 1)]) (g := gName 1) (tt := tYes) rfl sc__law_pairs.nd (pi_range1 (by rfl) T.n_range (pa_cons (pe_callB call_len_seq (by rfl) T.n_len bt_len (pa_cons (pe_ix (OZ.ix_listK (K := K) rfl) (pv 0) (pv 3) (fun _ _ => rfl)) pa_nil)) pa_nil)) (blkOk_by (N := ["rows", "at", "some", "fence", "found", "one", "first", "other", "second", "step"]) (sc := defScope s__law_pairs) (by decide +kernel)) (fun _ _ _ _ _ => pg_name (i := 1) sc__law_pairs.nd rfl (Or.inl rfl)) (fun _ _ _ _ _ => pts_nil) (fun _ _ _ _ _ => (pe_tup (pa_cons (pe_tup (pa_cons (pv 3) (pa_cons (pv 1) pa_nil))) (pa_cons (pe_ix (OZ.ix_listK (K := K) rfl) (pe_call (ok__law_ring T) (hr.mono (by decide)) (by rfl) T._law_ring.g T._law_ring.F.kp T._law_ring.b .nil pass0 (pa_cons (pe_ix (OZ.ix_listK (K := K) rfl) (pv 0) (pv 3) (fun _ _ => rfl)) pa_nil)) (pv 1) (fun _ _ => rfl)) pa_nil)))))))))
      (pss_cons (ps_set (i := 4) sc__law_pairs.nd rfl (.inl rfl) (pe_lst pa_nil))
      (pss_cons (ps_for PassesOwn.never rfl (pi_list (pv 2)) (pg_tup rfl (pgs_cons (pg_name (i := 5) sc__law_pairs.nd rfl (.inl rfl)) (pgs_cons (pg_name (i := 6) sc__law_pairs.nd rfl (.inl rfl)) pgs_nil))) (pss_one (ps_for PassesOwn.never rfl (pi_list (pv 2)) (pg_tup rfl (pgs_cons (pg_name (i := 7) sc__law_pairs.nd rfl (.inl rfl)) (pgs_cons (pg_name (i := 8) sc__law_pairs.nd rfl (.inl rfl)) pgs_nil))) (pss_cons (ps_set (i := 9) sc__law_pairs.nd rfl (.inl rfl) (pe_op op_sub (pe_ix ix_tup (pv 7) pe_int (fun _ _ => rfl)) (pe_ix ix_tup (pv 5) pe_int (fun _ _ => rfl))))
      (pss_one (ps_if (PW.pt (pw_and (pt_cmpR (op_ltT (Nat.lt_of_le_of_lt (Nat.le_add_right _ 64) hr.units)) (pv 5) (pv 7) (nomark _)) (pw_and1 (pt_not (PW.pt (pw_and (pt_cmpR op_eq (pe_ix ix_tup (pv 5) pe_int (fun _ _ => rfl)) (pe_ix ix_tup (pv 7) pe_int (fun _ _ => rfl)) (nomark _)) (pw_and1 (pt_cmpR op_in_seq (pv 9) (pe_tup (pa_cons pe_int (pa_cons (pe_op op_sub (pe_callB call_len_seq (by rfl) T.n_len bt_len (pa_cons (pe_ix (OZ.ix_listK (K := K) rfl) (pv 0) (pe_ix ix_tup (pv 5) pe_int (fun _ _ => rfl)) (fun _ _ => rfl)) pa_nil)) pe_int) pa_nil))) (by with_unfolding_all rfl))))))))) (pss_one (ps_expr (pe_bm F.plainAttrs_list F.slot_list_append F.type_list_append mt_append (pv 4) (pa_cons (pe_tup (pa_cons (pv 5) (pa_cons (pv 6) (pa_cons (pv 7) (pa_cons (pv 8) pa_nil))))) pa_nil)))) pss_nil))))))
      (pss_one (ps_ret (pv 4))))))), ?_⟩
    refine seq_by fun N hN => ?_
    walk_at "vc"
    refine ⟨Nat.zero_le _, fun S0 hS0 => ?_⟩
    have s0 := same_upd (o := .lst []) hS0
    have g0 : upd H S0 (.lst []) S0 = some (.lst []) := upd_same
    generalize upd H S0 _ = H0 at *
    subst hN
    refine seq_by fun N hN => ?_
    walk_at "vc"
    have lu : us.length = rows.length := hA.1
    refine ⟨_, rfl, a, rfl, us, .inl (sl_of (s0 _ _ ha)), _, rfl, by omega, by omega, for_range (n := ((us.length : Nat) : Int).toNat) (fun i σ H' => ∃ S o3 acc, σ = [some (.ref a), none, some (.ref S), o3, none, none, none, none, none, none] ∧ Same H H' ∧ H S = none ∧ H' S = some (.lst acc) ∧ Each (KSd K rows H') acc (keysT rows i)) ?_ ?_ ?_⟩
    · exact ⟨S0, _, [], rfl, s0, hS0, g0, rfl, fun i v x e => by simp at e⟩
    · rintro i σ H1 hi ⟨S, o3, acc, rfl, s1, hS, hS1, he⟩
      rw [Int.zero_add]
      have hi6 : i < rows.length := by omega
      have hr0 : rows[i]? = some rows[i] := List.getElem?_eq_getElem hi6
      have hrd : rows.getD i [] = rows[i] := by rw [List.getD_eq_getElem?_getD, hr0]; rfl
      obtain ⟨v, hv, L, zs, rfl, hL, hzs⟩ := (hA.imp fun v x z => z.same s1).at hr0
      have l3 := l10 _ (List.mem_of_getElem? hr0)
      have lz : zs.length = rows[i].length := hzs.1
      walk_at "vc"
      refine ⟨_, rfl, _, rfl, ixL (sl_of (s1 _ _ ha)) (atI_nat hv) ⟨L, rfl, zs, .inl (sl_of hL), _, rfl, by omega, by omega, fun D hD => lc_rngE (RO := KSd K rows) (f := fun k => (i, k)) (fun s h => h.same s) (fun h k => k.keep h) hD (by omega) (fun _ => rfl) (fun H2 k Q2 s2 hk hQ => ?_) fun H2 ws s2 hw he2 => ?_⟩⟩
      · simp only [wipe, List.foldl, List.set]
        walk_at "vc"
        refine ⟨by decide, fun t ht => ?_⟩
        have s3 := same_upd (o := .tup [.int (i : Nat), .int (k : Nat)]) ht
        have ht3 : SqT K (upd H2 t (.tup [.int (i : Nat), .int (k : Nat)])) t [.int (i : Nat), .int (k : Nat)] := st_of upd_same
        generalize upd H2 t _ = H3 at *
        have s13 := s2.trans s3
        refine ixL (sl_of (s13 _ _ (s1 _ _ ha))) (atI_nat hv) ?_
        refine ⟨L, zs, rfl, s13 _ _ hL, by omega, by omega, fun H4 b ws s4 _ hb4 hws => ?_⟩
        obtain ⟨x, y, e, zx, zy⟩ := ring_each (hzs.imp fun v x z => z.same (s13.trans s4)) (show k < rows[i].length by omega)
        obtain ⟨w1, hw1, q, rfl, hq⟩ := hws.at e
        refine ixL (sl_of hb4) (atI_nat hw1) ⟨by decide, fun t2 ht2 => hQ _ _ ((s3.trans s4).trans (same_upd ht2)) ⟨t2, _, _, rfl, st_of upd_same, ⟨t, rfl, same_tup (s4.trans (same_upd ht2)) ht3⟩, ?_⟩⟩
        refine SdZ.same (same_upd ht2) ⟨q, x, y, rfl, hq, ?_, ?_⟩
        · unfold sideZ
          rw [hrd]
          exact zx
        · unfold sideZ
          rw [hrd]
          exact zy
      · refine ⟨S, D, acc, ws, rfl, rfl, s2 _ _ hS1, hw, ?_, fun p hp => ?_⟩
        · have l1 : acc.length ≤ 10 * i := by rw [he.1]; exact keysT_len rows l10 i (Nat.le_of_lt hi6)
          have l2 : ws.length = zs.length := by rw [he2.1, List.length_map, List.length_range]; exact Int.toNat_natCast _
          exact Nat.le_of_lt (small1000 (by omega))
        have s3 := same_upd (o := .lst (acc ++ ws)) hp
        refine ⟨p, rfl, (s1.trans s2).trans s3, (s1.trans s2).free hp, _, upd_same, ?_⟩
        rw [keysT_succ, hrd]
        refine each_app (he.imp fun v x z => z.same (s2.trans s3)) ?_
        rw [← lz]
        exact he2.imp fun v x z => z.same s3
    · rintro σ H1 ⟨S, o3, acc, rfl, s1, hS, hS1, he⟩
      show N _ _
      rw [show (((us.length : Nat) : Int)).toNat = rows.length by omega] at he
      change Each (KSd K rows H1) acc (keysZ rows) at he
      have lk : acc.length ≤ 60 := by
        rw [he.1]
        have := keysT_len rows l10 rows.length (Nat.le_refl _)
        unfold keysZ
        omega
      clear s0 g0 hS0 S0
      subst hN
      refine seq_by fun N hN => ?_
      walk_at "vc"
      refine ⟨Nat.zero_le _, fun F0 hF0 => ?_⟩
      have s2 := same_upd (o := .lst []) hF0
      have g2 : upd H1 F0 (.lst []) F0 = some (.lst []) := upd_same
      generalize upd H1 F0 _ = H2 at *
      subst hN
      refine seq_by fun N hN => ?_
      have hFS : F0 ≠ S := fun z => by rw [z, hS1] at hF0; cases hF0
      have hFH : H F0 = none := s1.free hF0
      have lks : acc.length = (keysZ rows).length := he.1
      refine ⟨_, rfl, S, rfl, ⟨_, sl_of (s2 _ _ hS1)⟩, for_list (xs := acc) (fun i σ H' => ∃ o5 o6 o7 o8 o9 fo, σ = [some (.ref a), none, some (.ref S), o3, some (.ref F0), o5, o6, o7, o8, o9] ∧ Same H H' ∧ H' S = some (.lst acc) ∧ Each (KSd K rows H') acc (keysZ rows) ∧ H' F0 = some (.lst fo) ∧ Each (PSd K rows H') fo (prsZ rows ((keysZ rows).take i))) ?_ ?_ ?_ ?_⟩
      · exact ⟨_, _, _, _, _, [], rfl, s1.trans s2, s2 _ _ hS1, he.imp fun v x z => z.same s2, g2, rfl, fun i v x e => by simp at e⟩
      · rintro i σ H' _ ⟨_, _, _, _, _, _, _, _, h, _⟩
        exact sl_of h
      · rintro i x σ H3 hx ⟨o5, o6, o7, o8, o9, fo, rfl, s3, hS3, he3, hF3, hp3⟩
        obtain ⟨p, hp, hk⟩ := he3.of hx
        obtain ⟨t, v1, v2, rfl, ht, hn1, hs1⟩ := id hk
        have hi : i < (keysZ rows).length := (List.getElem?_eq_some_iff.mp hp).1
        walk_at "vc"
        refine ⟨_, ht, rfl, _, _, rfl, _, _, rfl, rfl, ?_⟩
        refine ⟨_, rfl, S, rfl, ⟨_, sl_of hS3⟩, for_list (xs := acc) (fun j σ H' => ∃ o7 o8 o9 fo, σ = [some (.ref a), none, some (.ref S), o3, some (.ref F0), some v1, some v2, o7, o8, o9] ∧ Same H H' ∧ H' S = some (.lst acc) ∧ Each (KSd K rows H') acc (keysZ rows) ∧ NumV K H' v1 p ∧ SdZ K H' v2 (sideZ rows p) ∧ H' F0 = some (.lst fo) ∧ Each (PSd K rows H') fo (prsZ rows ((keysZ rows).take i) ++ (((keysZ rows).take j).filter fun q => goodZ rows p q).map fun q => (p, q))) ?_ ?_ ?_ ?_⟩
        · exact ⟨_, _, _, fo, rfl, s3, hS3, he3, hn1, hs1, hF3, by simpa using hp3⟩
        · rintro j σ H' _ ⟨_, _, _, _, _, _, h, _⟩
          exact sl_of h
        · rintro j x σ H4 hx4 ⟨o7, o8, o9, fo4, rfl, s4, hS4, he4, hn4, hs4, hF4, hp4⟩
          obtain ⟨q, hq, hk4⟩ := he4.of hx4
          obtain ⟨t4, w1, w2, rfl, ht4, hm4, hr4⟩ := id hk4
          have hj : j < (keysZ rows).length := (List.getElem?_eq_some_iff.mp hq).1
          obtain ⟨n1, rfl, hn⟩ := id hn4
          obtain ⟨n2, rfl, hm⟩ := id hm4
          walk_at "vc"
          refine ⟨_, ht4, rfl, _, _, rfl, _, _, rfl, rfl, ixT hm rfl (ixT hn rfl ⟨_, rfl, _, rfl, ?_⟩)⟩
          have skip : ∀ H', Same H4 H' → goodZ rows p q = false → Same H H' ∧ H' S = some (.lst acc) ∧ Each (KSd K rows H') acc (keysZ rows) ∧ NumV K H' (.ref n1) p ∧ SdZ K H' v2 (sideZ rows p) ∧ ∃ x, H' F0 = some (.lst x) ∧ Each (PSd K rows H') x (prsZ rows ((keysZ rows).take i) ++ (((keysZ rows).take (j + 1)).filter fun q => goodZ rows p q).map fun q => (p, q)) := by
            intro H' s' g
            refine ⟨s4.trans s', s' _ _ hS4, he4.imp fun v x z => z.same s', hn4.same s', hs4.same s', fo4, s' _ _ hF4, ?_⟩
            rw [List.take_add_one, hq, Option.toList, List.filter_append, show [q].filter (fun q => goodZ rows p q) = [] from by simp [g], List.append_nil]
            exact hp4.imp fun v x z => z.same s'
          have add : ∀ H', Same H4 H' → goodZ rows p q = true → tBM K "list" rAppend (tVar 4) (tCons (tTup (tCons (tVar 5) (tCons (tVar 6) (tCons (tVar 7) (tCons (tVar 8) tNil))))) tNil) [some (.ref a), none, some (.ref S), o3, some (.ref F0), some (.ref n1), some v2, some (.ref n2), some w2, some (.int ((q.2 : Nat) - (p.2 : Nat)))] H' fun x H' => Same H H' ∧ H' S = some (.lst acc) ∧ Each (KSd K rows H') acc (keysZ rows) ∧ NumV K H' (.ref n1) p ∧ SdZ K H' v2 (sideZ rows p) ∧ ∃ x, H' F0 = some (.lst x) ∧ Each (PSd K rows H') x (prsZ rows ((keysZ rows).take i) ++ (((keysZ rows).take (j + 1)).filter fun q => goodZ rows p q).map fun q => (p, q)) := by
            intro H' s' g
            simp only [tBM]
            walk_at "vc"
            refine ⟨.inl ⟨rfl, fo4, sl_of (s' _ _ hF4)⟩, by decide, fun t5 ht5 => ?_⟩
            have s5 := same_upd (o := .tup [.ref n1, v2, .ref n2, w2]) ht5
            have h5 : SqT K (upd H' t5 (.tup [.ref n1, v2, .ref n2, w2])) t5 [.ref n1, v2, .ref n2, w2] := st_of upd_same
            generalize upd H' t5 (.tup [.ref n1, v2, .ref n2, w2]) = H5 at *
            have S5 := s'.trans s5
            have f5 := S5 _ _ hF4
            refine ⟨F0, fo4, _, rfl, rfl, f5, ?_, fun c o e => ?_, ?_, ?_, ?_, ?_, _, upd_same, ?_⟩
            · rw [hp4.1, List.length_append, List.length_map]
              have b1 := prsZ_len rows ((keysZ rows).take i)
              have b2 := List.length_filter_le (fun q => goodZ rows p q) ((keysZ rows).take j)
              have b3 := List.length_take_le i (keysZ rows)
              have b4 := List.length_take_le j (keysZ rows)
              have b5 : (keysZ rows).length ≤ 60 := by omega
              have b6 : ((keysZ rows).take i).length * (keysZ rows).length ≤ 60 * 60 := Nat.mul_le_mul (by omega) b5
              exact Nat.lt_of_lt_of_le (show _ < 5000 by omega) (by decide)
            · rw [upd_ne (ne_of_none e hFH)]
              exact S5 _ _ (s4 _ _ e)
            · rw [upd_ne (Ne.symm hFS)]
              exact S5 _ _ hS4
            · exact he4.imp fun v x z => (z.same S5).keep f5
            · exact num_keepL f5 (hn4.same S5)
            · exact (hs4.same S5).keep f5
            · rw [List.take_add_one, hq, Option.toList, List.filter_append, show [q].filter (fun q => goodZ rows p q) = [q] from by simp [g], List.map_append, ← List.append_assoc]
              exact each_snoc (hp4.imp fun v x z => (z.same S5).keep f5) (PSd.keep f5 ⟨t5, _, _, _, _, rfl, h5, hn4.same S5, hs4.same S5, hm4.same S5, hr4.same S5⟩)
          refine ⟨n1, n2, [((p.1 : Nat) : Int), ((p.2 : Nat) : Int)], [((q.1 : Nat) : Int), ((q.2 : Nat) : Int)], rfl, rfl, hn, hm, _, rfl, ?_⟩
          rw [show HT.lexLt [((p.1 : Nat) : Int), ((p.2 : Nat) : Int)] [((q.1 : Nat) : Int), ((q.2 : Nat) : Int)] = lexP p q from rfl]
          split
          · rename_i c
            refine ixT hn rfl (ixT hm rfl ⟨rfl, ?_⟩)
            split
            · rename_i c2
              have c2 : p.1 = q.1 := by injection c2 with c2; omega
              obtain ⟨kp1, kp2⟩ := keysZ_mem rows (List.mem_of_getElem? hp)
              obtain ⟨kq1, kq2⟩ := keysZ_mem rows (List.mem_of_getElem? hq)
              have hr0 : rows[p.1]? = some rows[p.1] := List.getElem?_eq_getElem kp1
              have hrd : rows.getD p.1 [] = rows[p.1] := by rw [List.getD_eq_getElem?_getD, hr0]; rfl
              obtain ⟨v, hv, L, zs, rfl, hL, hzs⟩ := (hA.imp fun v x z => z.same s4).at hr0
              have lz : zs.length = (rows.getD p.1 []).length := by rw [hrd]; exact hzs.1
              have r3 := (l10 _ (List.mem_of_getElem? hr0)).1
              refine ixT hn rfl (ixL (sl_of (s4 _ _ ha)) (atI_nat hv) ⟨L, rfl, zs, .inl (sl_of hL), by decide, fun t6 ht6 => ⟨t6, _, rfl, .inr (st_of upd_same), rfl, rfl, _, rfl, ?_⟩⟩)
              have s6 := same_upd (o := .tup [.int 1, .int ((zs.length : Nat) - 1 : Int)]) ht6
              have ev : inV (.int ((q.2 : Nat) - (p.2 : Nat))) [.int 1, .int ((zs.length : Nat) - 1 : Int)] = (q.2 == p.2 + 1 || q.2 + 1 == p.2 + (rows.getD p.1 []).length) := by
                rw [← lz]
                rw [Bool.eq_iff_iff]
                have ei : ∀ a b : Int, eqV (.int a) (.int b) = (a == b) := fun _ _ => rfl
                simp [inV, ei]
                omega
              simp only [Bool.false_eq_true, if_false, ev]
              split
              · rename_i c3
                refine add _ s6 ?_
                unfold goodZ
                rw [c3]
                simp [c]
              · rename_i c3
                refine skip _ s6 ?_
                unfold goodZ
                rw [Bool.not_eq_false] at c3
                rw [c3]
                simp [c2]
            · rename_i c2
              have c2 : p.1 ≠ q.1 := fun z => c2 (by rw [z])
              refine add H4 (fun _ _ e => e) ?_
              unfold goodZ
              simp [c, c2]
          · rename_i c
            refine skip H4 (fun _ _ e => e) ?_
            unfold goodZ
            simp [c]
        · rintro σ H4 ⟨o7, o8, o9, fo4, rfl, s4, hS4, he4, hn4, hs4, hF4, hp4⟩
          refine ⟨_, _, _, _, _, rfl, s4, hS4, he4, fo4, hF4, ?_⟩
          rw [lks, List.take_length] at hp4
          rw [List.take_add_one, hp]
          simpa [prsZ] using hp4
      · rintro σ H3 ⟨o5, o6, o7, o8, o9, fo, rfl, s3, hS3, he3, hF3, hp3⟩
        show N _ _
        subst hN
        walk_at "vc"
        rw [lks, List.take_length] at hp3
        exact ret _ _ _ s3 hFH hF3 hp3
end
end Odd
/-! texts of data: what may be shown -/
namespace Odd
open PySem PySem.Spec PyProof.Rows L2 GeoZ
theorem textFrom_le : ∀ (ts : List Str) (k : Nat) (acc : Str), (textFrom k acc ts).length ≤ acc.length + piled ts
  | [], _, _ => Nat.le_add_right _ _
  | t :: ts, k, acc => by
    have h := textFrom_le ts (k + 1) (acc ++ (if k > 0 then ", " else "" : String) ++ t)
    have e : (acc ++ (if k > 0 then ", " else "" : String) ++ t).length ≤ acc.length + 2 + t.length := by
      rw [strLen_append, strLen_append]
      split
      · have : ((", " : String) : Str).length = 2 := rfl
        omega
      · have : (("" : String) : Str).length = 0 := rfl
        omega
    rw [piled_cons]
    show (textFrom (k + 1) _ ts).length ≤ _
    omega
theorem piled_le {ts : List Str} {m : Nat} (h : ∀ t ∈ ts, t.length ≤ m) : piled ts ≤ ts.length * (m + 2) := by
  induction ts with
  | nil => rw [piled_nil]; exact Nat.zero_le _
  | cons t ts ih =>
    rw [piled_cons, List.length_cons, Nat.succ_mul]
    have := ih fun t' ht => h t' (List.mem_cons_of_mem _ ht)
    have := h t (List.mem_cons_self ..)
    omega
theorem shownAll_map : ∀ ds : List PyData, PyData.shownAll ds = ds.map PyData.shown
  | [] => rfl
  | d :: ds => by simp only [PyData.shownAll, List.map_cons, shownAll_map ds]
theorem len_list {ds : List PyData} {m : Nat} (h : ∀ d ∈ ds, d.shown.length ≤ m) : (PyData.list ds).shown.length ≤ ds.length * (m + 2) + 4 := by
  simp only [PyData.shown]
  unfold listText
  rw [strLen_append, shownAll_map]
  have a := textFrom_le (ds.map PyData.shown) 0 "["
  have b := piled_le (ts := ds.map PyData.shown) (m := m) (fun t ht => by obtain ⟨d, hd, rfl⟩ := List.mem_map.mp ht; exact h d hd)
  rw [List.length_map] at b
  have : (("[" : String) : Str).length = 1 := rfl
  have : (("]" : String) : Str).length = 1 := rfl
  omega
theorem len_tuple {ds : List PyData} {m : Nat} (h : ∀ d ∈ ds, d.shown.length ≤ m) : (PyData.tuple ds).shown.length ≤ ds.length * (m + 2) + 4 := by
  simp only [PyData.shown]
  unfold tupleText
  rw [strLen_append, strLen_append, shownAll_map]
  have b := piled_le (ts := ds.map PyData.shown) (m := m) (fun t ht => by obtain ⟨d, hd, rfl⟩ := List.mem_map.mp ht; exact h d hd)
  rw [List.length_map] at b
  have : (("(" : String) : Str).length = 1 := rfl
  have e3 : (((if (ds.map PyData.shown).length == 1 then ",)" else ")" : String) : Str)).length ≤ 2 := by split <;> decide
  cases ds with
  | nil => simp only [List.map_nil] at *; have : (Str.join ", " ([] : List Str)).length = 0 := rfl; omega
  | cons d ds =>
    have a := join_length_add ((d :: ds).map PyData.shown) (by simp)
    omega
/-- may be shown: n is its depth, m the length of its text -/
structure Nice (n m : Nat) (d : PyData) : Prop where
  sh : d.showable = true
  nd : d.hasDict = false
  dp : d.depth ≤ n
  ln : d.shown.length ≤ m
theorem Nice.up {n m n' m' : Nat} {d : PyData} (h : Nice n m d) (h1 : n ≤ n') (h2 : m ≤ m') : Nice n' m' d := ⟨h.sh, h.nd, Nat.le_trans h.dp h1, Nat.le_trans h.ln h2⟩
theorem showAll_of : ∀ {ds : List PyData}, (∀ d ∈ ds, d.showable = true) → PyData.showableAll ds = true
  | [], _ => rfl
  | d :: ds, h => by simp only [PyData.showableAll, h d (List.mem_cons_self ..), showAll_of (fun x hx => h x (List.mem_cons_of_mem _ hx)), Bool.and_self]
theorem noDictAll_of : ∀ {ds : List PyData}, (∀ d ∈ ds, d.hasDict = false) → PyData.hasDictAll ds = false
  | [], _ => rfl
  | d :: ds, h => by simp only [PyData.hasDictAll, h d (List.mem_cons_self ..), noDictAll_of (fun x hx => h x (List.mem_cons_of_mem _ hx)), Bool.or_self]
theorem depthAll_of {n : Nat} : ∀ {ds : List PyData}, (∀ d ∈ ds, d.depth ≤ n) → PyData.depthAll ds ≤ n
  | [], _ => Nat.zero_le _
  | d :: ds, h => by
    have := h d (List.mem_cons_self ..)
    have := depthAll_of (n := n) (ds := ds) (fun x hx => h x (List.mem_cons_of_mem _ hx))
    simp only [PyData.depthAll]
    omega
theorem Nice.list {n m k : Nat} {ds : List PyData} (h : ∀ d ∈ ds, Nice n m d) (hk : ds.length ≤ k) : Nice (n + 1) (k * (m + 2) + 4) (.list ds) := by
  refine ⟨?_, ?_, ?_, ?_⟩
  · simp only [PyData.showable]; exact showAll_of fun d hd => (h d hd).sh
  · simp only [PyData.hasDict]; exact noDictAll_of fun d hd => (h d hd).nd
  · simp only [PyData.depth]
    have := depthAll_of (n := n) fun d hd => (h d hd).dp
    omega
  · have := len_list fun d hd => (h d hd).ln
    have := Nat.mul_le_mul_right (m + 2) hk
    omega
theorem Nice.tuple {n m k : Nat} {ds : List PyData} (h : ∀ d ∈ ds, Nice n m d) (hk : ds.length ≤ k) : Nice (n + 1) (k * (m + 2) + 4) (.tuple ds) := by
  refine ⟨?_, ?_, ?_, ?_⟩
  · simp only [PyData.showable]; exact showAll_of fun d hd => (h d hd).sh
  · simp only [PyData.hasDict]; exact noDictAll_of fun d hd => (h d hd).nd
  · simp only [PyData.depth]
    have := depthAll_of (n := n) fun d hd => (h d hd).dp
    omega
  · have := len_tuple fun d hd => (h d hd).ln
    have := Nat.mul_le_mul_right (m + 2) hk
    omega
theorem nice_int {a : Int} (h : a.natAbs < 2 ^ 1900) : Nice 0 1921 (.int a) := by
  have l : a.natAbs.log2 < 1920 := by
    rcases Nat.eq_zero_or_pos a.natAbs with z | z
    · rw [z]; decide
    · exact (Nat.log2_lt (by omega)).mpr (Nat.lt_of_lt_of_le h (Nat.pow_le_pow_right (by decide) (by decide)))
  refine ⟨by simp only [PyData.showable]; exact decide_eq_true l, by simp only [PyData.hasDict], by simp only [PyData.depth]; omega, ?_⟩
  simp only [PyData.shown]
  rw [PySem.ofString_length]
  exact PySem.int_text_length_le (k := 1920) (by decide) l
/-- the text of a tuple -/
theorem repr_tup {K : PySem.W.Frag} {H : Hp} {a : Addr} {ds : List PyData} {Q : VK} (hd : Dp K H (.ref a) (.tuple ds)) (h : ∀ d ∈ ds, Nice 2 2000 d) (hn : ds.length ≤ 6) (r : Q (.str (PyData.tuple ds).shown) H) : rRepr K [.ref a] H Q := by
  have n := Nice.tuple h hn
  exact ⟨a, _, rfl, hd, n.sh, n.nd, Nat.le_trans n.dp (by decide), Nat.le_trans n.ln (by decide), r⟩
end Odd
namespace Odd
open PySem PySem.Spec PyProof.Rows L2
local macro_rules | `(tactic| walk_at "vc") => `(tactic| simp only [tSeq, tAsg, gName, tCB, tCons, tNil, tVar, tC, tOp, tUn, rI0, rI, rU, tTup, tLst, tIfS, tTest, tB, tRet, tNext, rGcd, L2.start, List.map, List.set, List.replicate, List.cons_append, List.nil_append, List.length_cons, List.length_nil, List.getElem?_cons_succ, List.getElem?_cons_zero, Option.some.injEq, exists_eq_left', exists_eq_left, List.append_nil, List.cons.injEq, V.int.injEq, exists_and_left, and_true, true_and, and_assoc, exists_const, V.bl.injEq, V.ref.injEq, Nat.sub_self, Nat.reduceAdd, Nat.reduceSub, List.replicate_succ, List.replicate_zero, tAnd, tOr, tNot, tAndV, tOrV, tNotV, tIf, tCall, tCallK, tDrop, rEq, rNe, decide_eq_true_eq, Bool.not_eq_true', decide_eq_false_iff_not, Bool.false_eq_true, if_true, if_false, reduceIte, reduceCtorEq, tMkLow, tRaiseLow, rIsB, rNotB, tBreak, tPar, gSub, rSetL, tChain, gTup, gCons, gNil, gSeq, cx_K, cx_Kn, optV, V.str.injEq, Bool.not_true, Bool.not_false, false_and, and_false, or_false, false_or, exists_false, tCallN, tCallS, tPairs])
section
variable {P : Program} {w : World} {K : PySem.W.Frag} {mg : Str → Option Value} {base : Heap} {A : Ads}
def sclZ (p : Int × Int) (m : Int) : Int × Int := (p.1 * m, p.2 * m)
def lieZ (p : P2) (s : ZS) (u : Int) : Bool := onB (sclZ s.1 (p.1.2 * p.2.2)) (sclZ s.2 (p.1.2 * p.2.2)) (p.1.1 * p.2.2 * u, p.2.1 * p.1.2 * u)
theorem low_canonE {q : Int × Int} (c : Canon q) : low q.1 q.2 = q := (low_is (canon_ne c)).1.uniq (canon_ne c) ⟨c, rfl⟩
theorem nice_prI {q : Int × Int} (h : Sm 1800 q) : Nice 1 4000 (dPrI q) := (Nice.tuple (n := 0) (m := 1921) (k := 2) (fun d hd => by
  simp only [List.mem_cons, List.not_mem_nil, or_false] at hd
  rcases hd with rfl | rfl
  · exact nice_int (Nat.lt_of_lt_of_le h.1 (Nat.pow_le_pow_right (by decide) (by decide)))
  · exact nice_int (Nat.lt_of_lt_of_le h.2 (Nat.pow_le_pow_right (by decide) (by decide)))) (Nat.le_refl _)).up (by decide) (by decide)
theorem repr_ppI {H : Hp} {a : Addr} {x y : V} {p : P2} {Q : VK} (ha : SqT K H a [x, y]) (hx : Pr K H x p.1) (hy : Pr K H y p.2) (m : SmP 1800 p) (r : Q (.str (dPPI p).shown) H) : rRepr K [.ref a] H Q := by
  have n : Nice 2 9000 (dPPI p) := (Nice.tuple (n := 1) (m := 4000) (k := 2) (fun d hd => by
    simp only [List.mem_cons, List.not_mem_nil, or_false] at hd
    rcases hd with rfl | rfl
    · exact nice_prI m.1
    · exact nice_prI m.2) (Nat.le_refl _)).up (by decide) (by decide)
  exact ⟨a, _, rfl, dp_ppI ⟨a, x, y, rfl, ha, hx, hy⟩, n.sh, n.nd, Nat.le_trans n.dp (by decide), Nat.le_trans n.ln (by decide), r⟩
def spLies (K : PySem.W.Frag) : Sp := fun vs H Q _ => ∃ v u un p s, vs = [v, u, .int un] ∧ PP K H v p ∧ SdZ K H u s ∧ CanonP p ∧ SmP 400 p ∧ Sm 100 s.1 ∧ Sm 100 s.2 ∧ un.natAbs < 2 ^ 100 ∧
  ∀ H', Same H H' → Q (.bl (lieZ p s un)) H'
theorem ok__law_lies (T : Txt K mg A) : GOk P w K mg base CX0 4 A.f__law_lies A.d__law_lies ["point", "side", "under"] (spLies K) := by
  refine gok T._law_lies.F sc__law_lies (fun vs H Q E h => ?_) (fun cdv A' outer s H vs Q E hg hr h => ?_)
  · obtain ⟨_, _, _, _, _, rfl, _⟩ := h; rfl
  · obtain ⟨v, u, un, p, sd, rfl, hp, hs, cp, mp, m1, m2, mu, ret⟩ := h
    refine ⟨_, (pss_cons (ps_if (PW.pt (pw_or (pt_not (pt_val (pe_callB call_isi (by rfl) T.n_isinstance bt_isinstance (pa_cons (pv 0) (pa_cons (pe_bltn (v := .ty "tuple") (by rfl) T.n_tuple bt_tuple rfl) pa_nil))))) (pw_or1 (pt_cmpR op_ne (pe_callB call_len_seq (by rfl) T.n_len bt_len (pa_cons (pv 0) pa_nil)) pe_int (nomark _))))) (pss_one (ps_ret pe_bl)) pss_nil)
      (pss_cons (ps_asg (pv 0) (pg_tup rfl (pgs_cons (pg_tup rfl (pgs_cons (pg_name (i := 4) sc__law_lies.nd rfl (.inl rfl)) (pgs_cons (pg_name (i := 5) sc__law_lies.nd rfl (.inr rfl)) pgs_nil))) (pgs_cons (pg_tup rfl (pgs_cons (pg_name (i := 6) sc__law_lies.nd rfl (.inl rfl)) (pgs_cons (pg_name (i := 7) sc__law_lies.nd rfl (.inr rfl)) pgs_nil))) pgs_nil))))
      (pss_cons (ps_if (pt_cmpR op_ne (pe_callB (call_reprD hg hr.units) (by rfl) T.n_repr bt_repr (pa_cons (pv 0) pa_nil)) (pe_callB (call_reprD hg hr.units) (by rfl) T.n_repr bt_repr (pa_cons (pe_tup (pa_cons (pe_call (ok__law_low T) (hr.mono (by decide)) (by rfl) T._law_low.g T._law_low.F.kp T._law_low.b .nil pass0 (pa_cons (pv 4) (pa_cons (pv 5) pa_nil))) (pa_cons (pe_call (ok__law_low T) (hr.mono (by decide)) (by rfl) T._law_low.g T._law_low.F.kp T._law_low.b .nil pass0 (pa_cons (pv 6) (pa_cons (pv 7) pa_nil))) pa_nil))) pa_nil)) (nomark _)) (pss_one (ps_ret pe_bl)) pss_nil)
      (pss_cons (ps_asg (pe_lc (own := [("at", 3)]) (g := gName 3) (tt := tYes) rfl sc__law_lies.nd (pi_tup (pv 1)) (blkOk_by (N := ["point", "side", "under", "at", "x", "z", "y", "w", "a", "b"]) (sc := defScope s__law_lies) (by decide +kernel)) (fun _ _ _ _ _ => pg_name (i := 3) sc__law_lies.nd rfl (Or.inl rfl)) (fun _ _ _ _ _ => pts_nil) (fun _ _ _ _ _ => (pe_tup (pa_cons (pe_op op_mulW (pe_op op_mulW (pe_ix (OZ.ix_tupK (K := K) rfl) (pv 3) pe_int (fun _ _ => rfl)) (pv 5)) (pv 7)) (pa_cons (pe_op op_mulW (pe_op op_mulW (pe_ix (OZ.ix_tupK (K := K) rfl) (pv 3) pe_int (fun _ _ => rfl)) (pv 5)) (pv 7)) pa_nil))))) (pg_seq2 rfl (pgs_cons (pg_name (i := 8) sc__law_lies.nd rfl (.inl rfl)) (pgs_cons (pg_name (i := 9) sc__law_lies.nd rfl (.inl rfl)) pgs_nil))))
      (pss_one (ps_ret (pe_call (ok__law_on T) (hr.mono (by decide)) (by rfl) T._law_on.g T._law_on.F.kp T._law_on.b .nil pass0 (pa_cons (pv 8) (pa_cons (pv 9) (pa_cons (pe_tup (pa_cons (pe_op op_mulW (pe_op op_mulW (pv 4) (pv 7)) (pv 2)) (pa_cons (pe_op op_mulW (pe_op op_mulW (pv 6) (pv 5)) (pv 2)) pa_nil))) pa_nil)))))))))), ?_⟩
    refine seq_by fun N hN => ?_
    walk_at "vc"
    obtain ⟨pa, x, y, rfl, hpa, ⟨xa, rfl, hx⟩, ⟨ya, rfl, hy⟩⟩ := id hp
    refine ⟨.ref pa, .ty "tuple", .type "tuple", .type "tuple", true, rfl, .ty _, (TyN.tup hpa).x, rfl, _, rfl, ?_⟩
    simp only [Bool.true_eq_false, if_false]
    refine ⟨pa, rfl, _, .inr hpa, rfl, ?_⟩
    rw [if_neg (by show ¬¬((2 : Nat) : Int) = 2; decide)]
    subst hN
    refine seq_by fun N hN => ?_
    walk_at "vc"
    refine ⟨_, hpa, rfl, _, _, rfl, xa, rfl, _, hx, rfl, _, _, rfl, _, _, rfl, rfl, _, _, rfl, ya, rfl, _, hy, rfl, _, _, rfl, _, _, rfl, rfl, rfl, ?_⟩
    subst hN
    refine seq_by fun N hN => ?_
    walk_at "vc"
    have up : ∀ {n m : Nat} {q : Int × Int}, n ≤ m → Sm n q → Sm m q := fun h k => ⟨Nat.lt_of_lt_of_le k.1 (Nat.pow_le_pow_right (by decide) h), Nat.lt_of_lt_of_le k.2 (Nat.pow_le_pow_right (by decide) h)⟩
    have m18 : SmP 1800 p := ⟨up (by decide) mp.1, up (by decide) mp.2⟩
    refine repr_ppI hpa ⟨_, rfl, hx⟩ ⟨_, rfl, hy⟩ m18 ?_
    refine ⟨_, _, rfl, cp.1.1, Nat.lt_of_lt_of_le mp.1.2 (Nat.pow_le_pow_right (by decide) (by decide)), fun H1 v1 s1 hv1 => ⟨_, _, rfl, cp.2.1, Nat.lt_of_lt_of_le mp.2.2 (Nat.pow_le_pow_right (by decide) (by decide)), fun H2 v2 s2 hv2 => ⟨by decide, fun t ht => ?_⟩⟩⟩
    have s3 := same_upd (o := .tup [.ref v1, .ref v2]) ht
    have ht3 : SqT K (upd H2 t (.tup [.ref v1, .ref v2])) t [.ref v1, .ref v2] := st_of upd_same
    generalize upd H2 t _ = H3 at *
    rw [low_canonE cp.1] at hv1
    rw [low_canonE cp.2] at hv2
    refine repr_ppI (p := p) ht3 ⟨_, rfl, same_tup (s2.trans s3) hv1⟩ ⟨_, rfl, same_tup s3 hv2⟩ m18 ⟨rfl, ?_⟩
    rw [if_neg (fun z => z rfl)]
    have s13 := (s1.trans s2).trans s3
    clear hv1 hv2 ht3 ht
    subst hN
    refine seq_by fun N hN => ?_
    obtain ⟨td, xd, yd, rfl, htd, hxd, hyd⟩ := hs.same s13
    walk_at "vc"
    have eS : Each (ZP K H3) [xd, yd] [sd.1, sd.2] := ⟨rfl, fun n w q e1 e2 => by
      match n, e1, e2 with
      | 0, e1, e2 => cases e1; cases e2; exact hxd
      | 1, e1, e2 => cases e1; cases e2; exact hyd⟩
    have lt2 : ∀ {n m : Nat} {a : Int}, n ≤ m → a.natAbs < 2 ^ n → a.natAbs < 2 ^ m := fun h k => Nat.lt_of_lt_of_le k (Nat.pow_le_pow_right (by decide) h)
    have mS : ∀ q ∈ [sd.1, sd.2], Sm 100 q := fun q hq => by
      simp only [List.mem_cons, List.not_mem_nil, or_false] at hq
      rcases hq with rfl | rfl
      · exact m1
      · exact m2
    refine ⟨_, rfl, td, rfl, ⟨_, htd⟩, fun D1 hD1 => lc_tupN (RI := ZP K) (RO := ZP K) (f := fun q => sclZ q (p.1.2 * p.2.2)) (xs := [sd.1, sd.2]) (fun s h => h.same s) (fun s h => h.same s) (fun h k => k.keep h) htd eS hD1 (by show 2 < 1000; decide) (fun _ => rfl) (fun H4 w q Q2 S4 _ hw hq hQ => ?_) fun H4 ws s4 hws he => ?_⟩
    · simp only [wipe, List.foldl, List.set]
      obtain ⟨aw, rfl, haw⟩ := id hw
      have mq := mS q hq
      walk_at "vc"
      have cm1 : ∀ a : Int, a.natAbs < 2 ^ 100 → CMulW a p.1.2 ∧ CMulW (a * p.1.2) p.2.2 := fun a ha => ⟨wide_mul ha mp.1.2 (by decide) (by decide) (by decide), wide_mul (wide_lt ha mp.1.2) mp.2.2 (by decide) (by decide) (by decide)⟩
      refine ixT haw rfl ⟨_, rfl, (cm1 _ mq.1).1, (cm1 _ mq.1).2, ixT haw rfl ⟨_, rfl, (cm1 _ mq.2).1, (cm1 _ mq.2).2, by decide, fun t5 ht5 => hQ _ _ (same_upd ht5) ⟨t5, rfl, ?_⟩⟩⟩
      rw [Int.mul_assoc q.1, Int.mul_assoc q.2]
      exact st_of upd_same
    · match ws, he with
      | [w1, w2], he =>
        have z1 := he.2 0 w1 _ rfl rfl
        have z2 := he.2 1 w2 _ rfl rfl
        refine ⟨D1, rfl, _, .inl (sl_of hws), rfl, _, _, rfl, _, _, rfl, rfl, ?_⟩
        subst hN
        walk_at "vc"
        have b1 : (p.1.1 * p.2.2).natAbs < 2 ^ 800 := wide_lt mp.1.1 mp.2.2
        have b2 : (p.2.1 * p.1.2).natAbs < 2 ^ 800 := wide_lt mp.2.1 mp.1.2
        have b3 : (p.1.2 * p.2.2).natAbs < 2 ^ 800 := wide_lt mp.1.2 mp.2.2
        have b4 : (p.1.1 * p.2.2 * un).natAbs < 2 ^ 900 := wide_lt b1 mu
        have b5 : (p.2.1 * p.1.2 * un).natAbs < 2 ^ 900 := wide_lt b2 mu
        have b6 : ∀ q, Sm 100 q → SmZ (sclZ q (p.1.2 * p.2.2)) := fun q mq => by
          have e1 : (q.1 * (p.1.2 * p.2.2)).natAbs < 2 ^ 900 := wide_lt mq.1 b3
          have e2 : (q.2 * (p.1.2 * p.2.2)).natAbs < 2 ^ 900 := wide_lt mq.2 b3
          exact ⟨lt2 (by decide) e1, lt2 (by decide) e2⟩
        refine ⟨wide_mul mp.1.1 mp.2.2 (by decide) (by decide) (by decide), wide_mul b1 mu (by decide) (by decide) (by decide), wide_mul mp.2.1 mp.1.2 (by decide) (by decide) (by decide), wide_mul b2 mu (by decide) (by decide) (by decide), by decide, fun t6 ht6 => ?_⟩
        have s6 := same_upd (o := .tup [.int (p.1.1 * p.2.2 * un), .int (p.2.1 * p.1.2 * un)]) ht6
        exact ⟨w1, w2, .ref t6, _, _, (p.1.1 * p.2.2 * un, p.2.1 * p.1.2 * un), rfl, z1.same s6, z2.same s6, ⟨t6, rfl, st_of upd_same⟩, b6 _ m1, b6 _ m2, ⟨lt2 (by decide) b4, lt2 (by decide) b5⟩, ret _ ((s13.trans s4).trans s6)⟩
end
end Odd
/-! a power of a great number -/
namespace Odd
open PySem PySem.Spec PyProof.Rows L2
def CPowW (i j : Int) : Prop := 0 ≤ j ∧ (PySem.Builtin.Int.intBits i : Int) * j ≤ 2 ^ 27
theorem op_powW {X : Cx} : OpR X (binaryOp .Pow) (rI CPowW fun i j => .int (i ^ j.toNat)) := opI fun _ _ _ _ _ _ _ hc q => pow_int hc.1 hc.2 q
theorem wide_pow2 {i : Int} {a : Nat} (h : i.natAbs < 2 ^ a) (ha : a ≤ 1000000) : CPowW i 2 := by
  refine ⟨by decide, ?_⟩
  have : PySem.Builtin.Int.intBits i ≤ a := PySem.intBits_le_iff.mpr h
  have e : (2 : Int) ^ 27 = 134217728 := by decide
  omega
end Odd
namespace Odd
open PySem PySem.Spec PyProof.Rows L2
local macro_rules | `(tactic| walk_at "vc") => `(tactic| simp only [tSeq, tAsg, gName, tCB, tCons, tNil, tVar, tC, tOp, tUn, rI0, rI, rU, tTup, tLst, tIfS, tTest, tB, tRet, tNext, rGcd, L2.start, List.map, List.set, List.replicate, List.cons_append, List.nil_append, List.length_cons, List.length_nil, List.getElem?_cons_succ, List.getElem?_cons_zero, Option.some.injEq, exists_eq_left', exists_eq_left, List.append_nil, List.cons.injEq, V.int.injEq, exists_and_left, and_true, true_and, and_assoc, exists_const, V.bl.injEq, V.ref.injEq, Nat.sub_self, Nat.reduceAdd, Nat.reduceSub, List.replicate_succ, List.replicate_zero, tAnd, tOr, tNot, tAndV, tOrV, tNotV, tIf, tCall, tCallK, tDrop, rEq, rNe, decide_eq_true_eq, Bool.not_eq_true', decide_eq_false_iff_not, Bool.false_eq_true, if_true, if_false, reduceIte, reduceCtorEq, tMkLow, tRaiseLow, rIsB, rNotB, tBreak, tPar, gSub, rSetL, tChain, gTup, gCons, gNil, gSeq, cx_K, cx_Kn, optV, V.str.injEq, Bool.not_true, Bool.not_false, false_and, and_false, or_false, false_or, exists_false, tCallN, tCallS, tPairs])
section
variable {P : Program} {w : World} {K : PySem.W.Frag} {mg : Str → Option Value} {base : Heap} {A : Ads}
def aptZ (p q : P2) : Int × Int := low ((q.1.1 * p.1.2 - p.1.1 * q.1.2) * p.2.2 * q.2.2 * ((q.1.1 * p.1.2 - p.1.1 * q.1.2) * p.2.2 * q.2.2) + (q.2.1 * p.2.2 - p.2.1 * q.2.2) * p.1.2 * q.1.2 * ((q.2.1 * p.2.2 - p.2.1 * q.2.2) * p.1.2 * q.1.2)) ((p.1.2 * q.1.2 * p.2.2 * q.2.2) * (p.1.2 * q.1.2 * p.2.2 * q.2.2))
def spApart (K : PySem.W.Frag) : Sp := fun vs H Q _ => ∃ v u p q, vs = [v, u] ∧ PP K H v p ∧ PP K H u q ∧ CanonP p ∧ CanonP q ∧ SmP 400 p ∧ SmP 400 q ∧ RetP K H (aptZ p q) Q
theorem ok__law_apart (T : Txt K mg A) : FnOk P w K mg base CX0 2 A.f__law_apart A.d__law_apart ["one", "other"] (spApart K) := by
  refine T._law_apart.F.ok sc__law_apart (fun vs H Q E h => ?_) (fun cdv A' outer s H vs Q E hr h => ?_)
  · obtain ⟨_, _, _, _, rfl, _⟩ := h; rfl
  · obtain ⟨v, u, p, q, rfl, ⟨pa, _, _, rfl, hpa, ⟨xa, rfl, hx⟩, ⟨ya, rfl, hy⟩⟩, ⟨qa, _, _, rfl, hqa, ⟨xb, rfl, hxb⟩, ⟨yb, rfl, hyb⟩⟩, cp, cq, mp, mq, ret⟩ := h
    refine ⟨_, (pss_cons (ps_asg (pv 0) (pg_tup rfl (pgs_cons (pg_tup rfl (pgs_cons (pg_name (i := 2) sc__law_apart.nd rfl (.inl rfl)) (pgs_cons (pg_name (i := 3) sc__law_apart.nd rfl (.inl rfl)) pgs_nil))) (pgs_cons (pg_tup rfl (pgs_cons (pg_name (i := 4) sc__law_apart.nd rfl (.inl rfl)) (pgs_cons (pg_name (i := 5) sc__law_apart.nd rfl (.inl rfl)) pgs_nil))) pgs_nil))))
      (pss_cons (ps_asg (pv 1) (pg_tup rfl (pgs_cons (pg_tup rfl (pgs_cons (pg_name (i := 6) sc__law_apart.nd rfl (.inl rfl)) (pgs_cons (pg_name (i := 7) sc__law_apart.nd rfl (.inl rfl)) pgs_nil))) (pgs_cons (pg_tup rfl (pgs_cons (pg_name (i := 8) sc__law_apart.nd rfl (.inl rfl)) (pgs_cons (pg_name (i := 9) sc__law_apart.nd rfl (.inl rfl)) pgs_nil))) pgs_nil))))
      (pss_cons (ps_par (i := 10) (j := 11) rfl sc__law_apart.nd rfl rfl (by decide) rfl rfl (pa_cons (pe_op op_mulW (pe_op op_mulW (pe_op op_sub (pe_op op_mulW (pv 6) (pv 3)) (pe_op op_mulW (pv 2) (pv 7))) (pv 5)) (pv 9)) (pa_cons (pe_op op_mulW (pe_op op_mulW (pe_op op_sub (pe_op op_mulW (pv 8) (pv 5)) (pe_op op_mulW (pv 4) (pv 9))) (pv 3)) (pv 7)) pa_nil)) rfl)
      (pss_one (ps_ret (pe_call (ok__law_low T) (hr.mono (by decide)) (by rfl) T._law_low.g T._law_low.F.kp T._law_low.b .nil pass0 (pa_cons (pe_op op_add (pe_op op_mulW (pv 10) (pv 10)) (pe_op op_mulW (pv 11) (pv 11))) (pa_cons (pe_op op_powW (pe_op op_mulW (pe_op op_mulW (pe_op op_mulW (pv 3) (pv 7)) (pv 5)) (pv 9)) pe_int) pa_nil)))))))), ?_⟩
    refine seq_by fun N hN => ?_
    walk_at "vc"
    refine ⟨_, hpa, rfl, _, _, rfl, xa, rfl, _, hx, rfl, _, _, rfl, _, _, rfl, rfl, _, _, rfl, ya, rfl, _, hy, rfl, _, _, rfl, _, _, rfl, rfl, rfl, ?_⟩
    subst hN
    refine seq_by fun N hN => ?_
    walk_at "vc"
    refine ⟨_, hqa, rfl, _, _, rfl, xb, rfl, _, hxb, rfl, _, _, rfl, _, _, rfl, rfl, _, _, rfl, yb, rfl, _, hyb, rfl, _, _, rfl, _, _, rfl, rfl, rfl, ?_⟩
    subst hN
    refine seq_by fun N hN => ?_
    walk_at "vc"
    have wd : ∀ {a b c d e f : Int}, a.natAbs < 2 ^ 400 → b.natAbs < 2 ^ 400 → c.natAbs < 2 ^ 400 → d.natAbs < 2 ^ 400 → e.natAbs < 2 ^ 400 → f.natAbs < 2 ^ 400 → CMulW (a * b - c * d) e ∧ CMulW ((a * b - c * d) * e) f ∧ ((a * b - c * d) * e * f).natAbs < 2 ^ 1601 := by
      intro a b c d e f h1 h2 h3 h4 h5 h6
      have e1 : (a * b).natAbs < 2 ^ 800 := wide_lt h1 h2
      have e2 : (c * d).natAbs < 2 ^ 800 := wide_lt h3 h4
      have e3 : (a * b - c * d).natAbs < 2 ^ 801 := by
        have e : (2 : Nat) ^ 801 = 2 ^ 800 + 2 ^ 800 := by decide +kernel
        omega
      have e4 : ((a * b - c * d) * e).natAbs < 2 ^ 1201 := wide_lt e3 h5
      exact ⟨wide_mul e3 h5 (by decide) (by decide) (by decide), wide_mul e4 h6 (by decide) (by decide) (by decide), wide_lt e4 h6⟩
    have cm : ∀ {a b : Int}, a.natAbs < 2 ^ 400 → b.natAbs < 2 ^ 400 → CMulW a b := fun h1 h2 => wide_mul h1 h2 (by decide) (by decide) (by decide)
    obtain ⟨⟨p1, p2⟩, ⟨p3, p4⟩⟩ := mp
    obtain ⟨⟨q1, q2⟩, ⟨q3, q4⟩⟩ := mq
    have A1 := wd q1 p2 p1 q2 p4 q4
    have A2 := wd q3 p4 p3 q4 p2 q2
    refine ⟨cm q1 p2, cm p1 q2, A1.1, A1.2.1, cm q3 p4, cm p3 q4, A2.1, A2.2.1, ?_⟩
    subst hN
    walk_at "vc"
    have d1 : (p.1.2 * q.1.2).natAbs < 2 ^ 800 := wide_lt p2 q2
    have d2 : (p.1.2 * q.1.2 * p.2.2).natAbs < 2 ^ 1200 := wide_lt d1 p4
    have d3 : (p.1.2 * q.1.2 * p.2.2 * q.2.2).natAbs < 2 ^ 1600 := wide_lt d2 q4
    have pos : ∀ {a b : Int}, 0 < a → 0 < b → 0 < a * b := fun h1 h2 => Int.mul_pos h1 h2
    have d0 : 0 < p.1.2 * q.1.2 * p.2.2 * q.2.2 := pos (pos (pos cp.1.1 cq.1.1) cp.2.1) cq.2.1
    refine ⟨wide_mul A1.2.2 A1.2.2 (by decide) (by decide) (by decide), wide_mul A2.2.2 A2.2.2 (by decide) (by decide) (by decide), cm p2 q2, wide_mul d1 p4 (by decide) (by decide) (by decide), wide_mul d2 q4 (by decide) (by decide) (by decide), wide_pow2 d3 (by decide), ?_⟩
    have e2 : (p.1.2 * q.1.2 * p.2.2 * q.2.2) ^ Int.toNat 2 = (p.1.2 * q.1.2 * p.2.2 * q.2.2) * (p.1.2 * q.1.2 * p.2.2 * q.2.2) := Int.pow_succ _ 1 |>.trans (by rw [Int.pow_succ, Int.pow_zero, Int.one_mul])
    rw [e2]
    have d4 : (p.1.2 * q.1.2 * p.2.2 * q.2.2 * (p.1.2 * q.1.2 * p.2.2 * q.2.2)).natAbs < 2 ^ 3200 := wide_lt d3 d3
    exact ⟨_, _, rfl, pos d0 d0, Nat.lt_of_lt_of_le d4 (Nat.pow_le_pow_right (by decide) (by decide)), ret⟩
end
end Odd
set_option maxHeartbeats 2000000
namespace GBL
open PySem PySem.Spec PyProof.Rows
open PySem.Sem (wp)
theorem meetsIn_bool {prog : Program} {w : World} {x : Value} : MeetsIn prog w (Builtin.«bool.__new__» ⟨[.type "bool", x], []⟩) (fun A R s => wpAny (model prog w) A.in1 (truthy x) (fun b s' => R (.ok (.ret (.bool b))) s') (fun e s' => R (.error e) s') s) :=
  .of_wp fun A R s h => by
    have f1 := F.conv_sub_bool
    obtain ⟨hp, g, d, tk, os⟩ := s
    repeat (any_goals (first | assumption | wp_step))
    refine wpAny_mono (t := truthy x) h (fun b s' r => ?_) fun _ _ z => z
    exact wpAny_pure ⟨_, rfl, r⟩
theorem call_bool_own {prog : Program} {w : World} {A : Around} {E : Value → Shared → Prop} {s : Shared} {x : Value} {Q : Value → Shared → Prop}
    (h : wpAny (model prog w) A.in1.in1 (truthy x) (fun b s' => Q (.bool b) s') E s) : wpAny (model prog w) A (call (.type "bool") [x]) Q E s :=
  callType_newIn F.called_bool F.newNe_bool (F.typeCall_bool_1 x) (F.newCall_bool_1 x) (fun obj => F.args_object_init_2 obj x) F.entry_bool_new meetsIn_bool (wpAny_mono h (fun b s' q => ⟨rfl, q⟩) fun _ _ z => z)
end GBL
namespace Odd
open PySem PySem.Spec PyProof.Rows L2
def rBoolO (C : Addr) (sp : Sp) : List V → Hp → VK → Prop := fun xs H Q => ∃ a dx fs, xs = [.ref a] ∧ H a = some (.ins C dx fs) ∧ sp [.ref a] H (fun v H2 => ∃ b, v = .bl b ∧ Q (.bl b) H2) E0
theorem call_boolO {X : Cx} {C f : Addr} {k : Nat} {sp : Sp} (hm : PySem.W.findIn X.K (.ref C) "__bool__" = some (some (.ref f))) (hf : PySem.W.typeIn X.K (.ref f) = some (.type "function"))
    (F : FnR X.prog X.w X.K X.mg X.base CX0 k f sp) (hr : Room (k + 2) X.A) : CallR X (.type "bool") (rBoolO C sp) := by
  intro pins s σ H xs us Q I r h
  obtain ⟨a, dx, fs, rfl, ea, hsp⟩ := h
  obtain ⟨u, rfl, ru⟩ := vals1 r
  obtain rfl : u = Value.ref a := ru
  obtain ⟨mA, O, _⟩ := ins_get I.hok ea
  obtain ⟨odx, J, _⟩ := O.look
  refine GBL.call_bool_own ?_
  unfold truthy
  have go : wpAny (model X.prog X.w) X.A.in1.in1 (call (.ref f) [.ref a]) (fun u s2 => ∃ b, u = Value.bool b ∧ EP X pins σ Q (.bool b) s2) X.xe s := by
    refine wpAny_call (codeAny_mono (F X.A.in1.in1 X.stack s H [.ref a] [.ref a] _ E0 hr.in1.in1 I.env0.in1.in1 (.cons rfl .nil) hsp) fun r s' hq => ?_)
    match r, hq with
    | .error e, hq => exact hq.elim
    | .ok (.ret u), hq =>
      obtain ⟨y, H2, I2, ry, b, ey, q⟩ := I.after hq
      subst ey
      obtain rfl : u = Value.bool b := ry
      exact ⟨b, rfl, .bl b, H2, I2, rfl, q⟩
  have go2 : wpAny (model X.prog X.w) X.A.in1.in1 (callSpecial? (.ref a) "__bool__") (fun r s2 => ∃ b, r = some (.bool b) ∧ EP X pins σ Q (.bool b) s2) X.xe s :=
    odd_special I.kIn J hm hf (thn go fun u s2 h2 => by
      obtain ⟨b, rfl, q⟩ := h2
      exact ⟨b, rfl, q⟩)
  first
    | (refine wpAny_bind (m := callSpecial? (.ref a) (Str.ofString "__bool__")) (thn go2 fun r s2 h2 => ?_); obtain ⟨b, rfl, q⟩ := h2; exact wpAny_pure q)
    | (refine wpAny_bind (wpAny_pure ?_); refine wpAny_bind (m := callSpecial? (.ref a) (Str.ofString "__bool__")) (thn go2 fun r s2 h2 => ?_); obtain ⟨b, rfl, q⟩ := h2; exact wpAny_pure q)
end Odd
namespace Odd
open PySem PySem.Spec PyProof.Rows L2
section
variable {K : PySem.W.Frag}
theorem RowP.keep {H : Hp} {D : Addr} {as bs : List V} {v : V} {r : List (Int × Int)} (ne : ∀ L, v = .ref L → L ≠ D) (hD : H D = some (.lst as)) (h : RowP K H v r) : RowP K (upd H D (.lst bs)) v r := by
  obtain ⟨L, us, e, h1, h2⟩ := h
  exact ⟨L, us, e, by rw [upd_ne (ne L e)]; exact h1, h2.imp fun v x z => z.keep hD⟩
/-- a new row that is none of the list D -/
def RowQ (K : PySem.W.Frag) (H0 : Hp) (D : Addr) (H : Hp) (v : V) (r : List (Int × Int)) : Prop := ∃ L us, v = .ref L ∧ L ≠ D ∧ H0 L = none ∧ H L = some (.lst us) ∧ Each (ZP K H) us r
theorem RowQ.same {H0 : Hp} {D : Addr} {H H' : Hp} {v : V} {r : List (Int × Int)} (s : Same H H') (h : RowQ K H0 D H v r) : RowQ K H0 D H' v r := by
  obtain ⟨L, us, e, n, f, h1, h2⟩ := h
  exact ⟨L, us, e, n, f, s _ _ h1, h2.imp fun v x z => z.same s⟩
theorem RowQ.keep {H0 : Hp} {D : Addr} {H : Hp} {as bs : List V} {v : V} {r : List (Int × Int)} (hD : H D = some (.lst as)) (h : RowQ K H0 D H v r) : RowQ K H0 D (upd H D (.lst bs)) v r := by
  obtain ⟨L, us, e, n, f, h1, h2⟩ := h
  exact ⟨L, us, e, n, f, by rw [upd_ne n]; exact h1, h2.imp fun v x z => z.keep hD⟩
theorem RowQ.p {H0 : Hp} {D : Addr} {H : Hp} {v : V} {r : List (Int × Int)} (h : RowQ K H0 D H v r) : RowP K H v r := by
  obtain ⟨L, us, e, n, f, h1, h2⟩ := h
  exact ⟨L, us, e, h1, h2⟩
theorem RowQ.but {H0 : Hp} {D u : Addr} {H H' : Hp} {v : V} {r : List (Int × Int)} {o : HO} {ys : List V} (hu : H0 u = some o) (hy : H u = some (.lst ys)) (s : But u H H') (h : RowQ K H0 D H v r) : RowP K H' v r := by
  obtain ⟨L, us, e, n, f, h1, h2⟩ := h
  exact ⟨L, us, e, s.1 _ (fun z => by rw [z, hu] at f; cases f) _ h1, h2.imp fun v x z => z.but s hy⟩
theorem pp_keepL {H : Hp} {D : Addr} {as bs : List V} {v : V} {p : P2} (hD : H D = some (.lst as)) (h : PP K H v p) : PP K (upd H D (.lst bs)) v p := by
  obtain ⟨a, x, y, e, h, ⟨b, e1, h1⟩, ⟨c, e2, h2⟩⟩ := h
  exact ⟨a, x, y, e, keep_tup hD h, ⟨b, e1, keep_tup hD h1⟩, ⟨c, e2, keep_tup hD h2⟩⟩
theorem fv_keepL {C : Addr} {H : Hp} {D : Addr} {as bs : List V} {v : V} {ps : List P2} (hD : H D = some (.lst as)) (h : FenceV K C H v ps) : FenceV K C (upd H D (.lst bs)) v ps := by
  obtain ⟨x, e, dx, fs, a, us, b, ws, h1, h2, h3, h4, h5, h6, h7⟩ := h
  have nx : x ≠ D := fun z => by rw [z, hD] at h1; cases h1
  exact ⟨x, e, dx, fs, a, us, b, ws, by rw [upd_ne nx]; exact h1, h2, keep_tup hD h3, h4.imp fun v p z => pp_keepL hD z, h5, keep_tup hD h6, h7.imp fun v t z => by
    obtain ⟨c, y, z, rfl, hc, hy, hz⟩ := z
    exact ⟨c, _, _, rfl, keep_tup hD hc, pp_keepL hD hy, pp_keepL hD hz⟩⟩
theorem numP_lenC {α : Type} {c : Nat} {pss : List (List α)} (h : ∀ ps ∈ pss, ps.length ≤ c) : ∀ i, (numP pss i).length ≤ c * i := by
  intro i
  induction i with
  | zero => simp [numP]
  | succ i ih =>
    rw [numP_succ, List.length_append, List.length_map, List.length_range, Nat.mul_succ]
    have : (pss.getD i []).length ≤ c := by
      rw [List.getD_eq_getElem?_getD]
      cases e : pss[i]? with
      | none => simp
      | some ps => exact h ps (List.mem_of_getElem? e)
    omega
theorem lc_eachN {α β : Type} {i : Nat} {vs : List Nat} {σ : L2.St} {te : TE} {H1 : Hp} {d D : Addr} {us : List V} {xs : List α} {RI : Hp → V → α → Prop} {RO : Hp → V → β → Prop} {f : α → β} {Qd : Hp → Prop}
    (mi : ∀ {H H' : Hp} {v x}, Same H H' → RI H v x → RI H' v x) (mo : ∀ {H H' : Hp} {v y}, Same H H' → RO H v y → RO H' v y) (ko : ∀ {H : Hp} {as bs : List V} {v y}, H D = some (.lst as) → RO H v y → RO (upd H D (.lst bs)) v y)
    (hd : H1 d = some (.lst us)) (he : Each (RI H1) us xs) (hD : H1 D = none) (hl : us.length < 1000)
    (hw : ∀ v, wipe ((wipe σ vs).set i (some v)) vs = wipe σ vs)
    (hs : ∀ (H2 : Hp) (v : V) (x : α) (Q : VK), Same H1 H2 → (∀ c, H2 c = none → upd H1 D (.lst []) c = none) → RI H2 v x → x ∈ xs → (∀ y H4, Same H2 H4 → RO H4 y (f x) → Q y H4) → te ((wipe σ vs).set i (some v)) H2 Q)
    (hq : ∀ H' ws, Same H1 H' → H' D = some (.lst ws) → Each (RO H') ws (xs.map f) → Qd H') :
    ∃ W : Nat → Nat → Hp → Prop, (∃ m, W 0 m (upd H1 D (.lst []))) ∧ ∀ k m H, W k m H →
      ((Itl K d).stop k H ∧ Qd H) ∨ ((Itl K d).go k H ∧ ∃ Nx : Hp → Prop, (∀ H', Nx H' → ∃ m', m' < m ∧ W (k + 1) m' H') ∧ ∀ x H', (Itl K d).yld k H x H' → gName i x (wipe σ vs) H' fun σ2 H2 => wipe σ2 vs = wipe σ vs ∧ tYes σ2 H2 fun b H3 =>
        if b = true then te σ2 H3 fun y H4 => ∃ acc, H4 D = some (.lst acc) ∧ acc.length < sizeLine ∧ Nx (upd H4 D (.lst (acc ++ [y]))) else Nx H3) := by
  have sD := same_upd (o := .lst []) hD
  refine lc_list (xs := us) (fun k H2 => Same H1 H2 ∧ ∃ acc, H2 D = some (.lst acc) ∧ Each (RO H2) acc ((xs.take k).map f)) ⟨sD, _, upd_same, rfl, fun k v x e => by simp at e⟩ (fun k H2 _ h => sl_of (h.1 _ _ hd)) ?_ ?_
  · rintro k v H2 hx ⟨s2, acc, e3, ea⟩
    obtain ⟨x, hp, ha⟩ := he.of hx
    refine ⟨hw _, ?_⟩
    simp only [tYes, if_true]
    have fr : ∀ c, H2 c = none → upd H1 D (.lst []) c = none := fun c hc => by
      have nc : c ≠ D := fun z => by rw [z, e3] at hc; cases hc
      rw [upd_ne nc]
      cases e : H1 c with
      | none => rfl
      | some o => rw [s2 _ _ e] at hc; cases hc
    refine hs H2 v x _ s2 fr (mi s2 ha) (List.mem_of_getElem? hp) fun y H4 s4 hy => ⟨acc, s4 _ _ e3, ?_, fun c o ec => ?_, _, upd_same, ?_⟩
    · rw [ea.1, List.length_map, List.length_take]
      have := he.1
      exact small1000 (by omega)
    · rw [upd_ne (ne_of_none ec hD)]
      exact s4 _ _ (s2 _ _ ec)
    · have hD4 := s4 _ _ e3
      rw [List.take_add_one, hp, List.map_append]
      exact each_snoc ⟨ea.1, fun i v x e1 e2 => ko hD4 (mo s4 (ea.2 i v x e1 e2))⟩ (ko hD4 hy)
  · rintro H2 ⟨s2, acc, e3, ea⟩
    rw [he.1, List.take_length] at ea
    exact hq H2 acc s2 e3 ea
theorem lc_rows {o0 o1 o2 o3 o4 o5 o7 o8 o9 o10 o11 o12 o13 o14 o15 o16 o17 o18 o19 o20 o21 o22 o23 : Option V} {te : TE} {H1 : Hp} {R : Addr} {us : List V} {rows : List (List (Int × Int))} {f : Int × Int → Int × Int} {Q : VK} (hR : H1 R = some (.lst us)) (he : Each (RowP K H1) us rows) (h6 : us.length < 1000) (hl : ∀ r ∈ rows, r.length < 1000)
    (hs : ∀ (H2 : Hp) (p : Int × Int) (rv : V) (Q2 : VK) (r : List (Int × Int)), Same H1 H2 → r ∈ rows → p ∈ r → (∀ y H4, Same H2 H4 → ZP K H4 y (f p) → Q2 y H4) → te [o0, some (.int p.1), some (.int p.2), some rv, o4, o5, some (.ref R), o7, o8, o9, o10, o11, o12, o13, o14, o15, o16, o17, o18, o19, o20, o21, o22, o23] H2 Q2)
    (hq : ∀ H' D ws, Same H1 H' → H1 D = none → H' D = some (.lst ws) → Each (RowQ K H1 D H') ws (rows.map (List.map f)) → Q (.ref D) H') :
    tLc (iList K (tVar 6)) (gName 3) tYes (tLc (iList K (tVar 3)) (gTup K 2 (gCons (gName 1) (gCons (gName 2) gNil))) tYes te [1, 2]) [3] [o0, o1, o2, o3, o4, o5, some (.ref R), o7, o8, o9, o10, o11, o12, o13, o14, o15, o16, o17, o18, o19, o20, o21, o22, o23] H1 Q := by
  refine ⟨_, rfl, R, rfl, ⟨_, sl_of hR⟩, fun D hD => lc_eachN (RI := RowP K) (RO := RowQ K H1 D) (f := List.map f) (fun s h => h.same s) (fun s h => h.same s) (fun h k => k.keep h) hR he hD h6 (fun _ => rfl) (fun H2 v r Q2 S2 fr hv hr hQ => ?_) fun H' ws s' hw hws => hq H' D ws s' hD hw hws⟩
  simp only [wipe, List.foldl, List.set]
  obtain ⟨L, zs, rfl, hL, hzs⟩ := id hv
  refine ⟨_, rfl, L, rfl, ⟨_, sl_of hL⟩, fun D2 hD2 => lc_zpG (RO := ZP K) (f := f) (fun s h => h.same s) (fun h k => k.keep h) hL hzs hD2 (by rw [hzs.1]; exact hl r hr) (fun _ _ => rfl) (fun H3 p Q3 s3 hp hQ3 => ?_) fun H3 ws s3 hw hws => ?_⟩
  · simp only [wipe, List.foldl, List.set]
    exact hs H3 p _ Q3 r (S2.trans s3) hr hp hQ3
  · refine hQ _ _ s3 ⟨D2, ws, rfl, fun z => ?_, S2.free hD2, hw, hws⟩
    have := fr _ hD2
    rw [z, upd_same] at this
    cases this
end
end Odd
/-! the drawn rows, mapped: fences that may stand in one lot -/
namespace Odd
open GeoZ
structure MLot (rows : List (List (Int × Int))) : Prop where
  fine : ∀ r ∈ rows, Fine r
  ten : ∀ r ∈ rows, r.length ≤ 10
  near : ∀ r ∈ rows, ∀ z ∈ r, NearZ z
  sep : rows.Pairwise SepR
theorem PLot.map {rows : List (List (Int × Int))} (pl : PLot rows) {A B C D : Int} (hd : 0 < A * D - B * C) (hn : ∀ z, Win 10000 z → NearZ (affZ A B 0 C D 0 z)) : MLot (rows.map (List.map (affZ A B 0 C D 0))) := by
  refine ⟨fun r hr => ?_, fun r hr => ?_, fun r hr z hz => ?_, ?_⟩
  · obtain ⟨r0, h0, rfl⟩ := List.mem_map.mp hr
    exact (pl.ok r0 h0).fine.aff hd
  · obtain ⟨r0, h0, rfl⟩ := List.mem_map.mp hr
    rw [List.length_map]
    exact (pl.ok r0 h0).ten
  · obtain ⟨r0, h0, rfl⟩ := List.mem_map.mp hr
    obtain ⟨z0, hz0, rfl⟩ := List.mem_map.mp hz
    exact hn _ ((pl.ok r0 h0).win z0 hz0)
  · have q : rows.Pairwise fun r s => SepR (r.map (affZ A B 0 C D 0)) (s.map (affZ A B 0 C D 0)) := by
      refine List.Pairwise.imp_of_mem (fun {r s} hr hs h a b => ?_) pl.sep
      have l1 := (pl.ok r hr).fine.poly.len
      have l2 := (pl.ok s hs).fine.poly.len
      rw [cyc_map (by omega), cyc_map (by omega), cyc_map (by omega), cyc_map (by omega)]
      exact (h a b).aff hd
    exact List.pairwise_map.mpr q
theorem MLot.grows {rows : List (List (Int × Int))} (h : MLot rows) {un : Int} (u0 : 0 < un) (u1 : un < 1000) : GRows un rows :=
  ⟨fun r hr => (h.fine r hr).poly.len, h.near, fun r hr i => ((h.fine r hr).poly.ahead i).ne, u0, u1⟩
theorem side_scM {un : Int} {us : List (Int × Int)} {s : P2 × P2} (h : s ∈ sideL (us.map (scP un))) : ∃ i, s = (scP un (cyc us i), scP un (cyc us (i + 1))) := by
  obtain ⟨i, hi, e⟩ := List.mem_iff_getElem.mp h
  have e := (List.getElem?_eq_getElem hi).trans (congrArg some e)
  have lt : i < us.length := by
    rwa [sideL_len, List.length_map] at hi
  rw [side_sc un lt] at e
  exact ⟨i, (Option.some.inj e).symm⟩
theorem MLot.whole {rows : List (List (Int × Int))} (h : MLot rows) (r0 : 1 ≤ rows.length) (r6 : rows.length ≤ 6) {un : Int} (u0 : 0 < un) (u1 : un < 1000) : WholeLot (fcs un rows) := by
  refine ⟨by unfold fcs; rw [List.length_map]; exact ⟨r0, r6⟩, fun ps hp => ?_, fun ps hp => ?_, fun ps hp s hs => ?_, fun i j ps qs hij hi hj s hs t ht => ?_⟩
  · obtain ⟨r, hr, rfl⟩ := List.mem_map.mp hp
    have := h.ten r hr
    rw [List.length_map]
    omega
  · obtain ⟨r, hr, rfl⟩ := List.mem_map.mp hp
    have := (h.fine r hr).poly.len
    rw [List.length_map]
    omega
  · obtain ⟨r, hr, rfl⟩ := List.mem_map.mp hp
    have l3 := (h.fine r hr).poly.len
    obtain ⟨i, rfl⟩ := side_scM hs
    have n : ∀ k, SmP 900 (scP un (cyc r k)) := fun k => by
      have := (sc_near u0 u1 (h.near r hr _ (cyc_mem (by omega) k))).2
      exact ⟨this.1.up (by decide), this.2.up (by decide)⟩
    exact ⟨n _, n _⟩
  · unfold fcs at hi hj
    rw [List.getElem?_map] at hi hj
    obtain ⟨r, hr, rfl⟩ := Option.map_eq_some_iff.mp hi
    obtain ⟨q, hq, rfl⟩ := Option.map_eq_some_iff.mp hj
    obtain ⟨a, rfl⟩ := side_scM hs
    obtain ⟨b, rfl⟩ := side_scM ht
    have li := (List.getElem?_eq_some_iff.mp hr).1
    have lj := (List.getElem?_eq_some_iff.mp hq).1
    have sp := List.pairwise_iff_getElem.mp h.sep i j li lj hij
    rw [(List.getElem?_eq_some_iff.mp hr).2, (List.getElem?_eq_some_iff.mp hq).2] at sp
    exact (sp a b).apart u0 ((h.fine r (List.mem_of_getElem? hr)).poly.ahead a).ne
theorem lean_map {rows : List (List (Int × Int))} (pl : PLot rows) {l b : Int} (l0 : -2 ≤ l) (l1 : l ≤ 1) (b0 : 0 ≤ b) (b1 : b ≤ 1) : MLot (rows.map (List.map fun p => (p.1 + l * p.2, p.2 + b * (p.1 + l * p.2)))) ∧
    MLot (rows.map (List.map fun p => ((p.1 + l * p.2) * 10 ^ (9 : Int).toNat + 4 * (p.2 + b * (p.1 + l * p.2)), (p.2 + b * (p.1 + l * p.2)) * 10 ^ (9 : Int).toNat - (p.1 + l * p.2)))) := by
  have e9 : (10 : Int) ^ (9 : Int).toNat = 1000000000 := by decide +kernel
  have e60 : (2 : Nat) ^ 60 = 1152921504606846976 := by decide +kernel
  rw [e9]
  have hb : b = 0 ∨ b = 1 := by omega
  have hl : l = -2 ∨ l = -1 ∨ l = 0 ∨ l = 1 := by omega
  have f1 : (fun p : Int × Int => (p.1 + l * p.2, p.2 + b * (p.1 + l * p.2))) = affZ 1 l 0 b (1 + b * l) 0 := by
    funext p
    unfold affZ
    rw [Prod.mk.injEq]
    exact ⟨by grind, by grind⟩
  have f2 : (fun p : Int × Int => ((p.1 + l * p.2) * 1000000000 + 4 * (p.2 + b * (p.1 + l * p.2)), (p.2 + b * (p.1 + l * p.2)) * 1000000000 - (p.1 + l * p.2))) = affZ (1000000000 + 4 * b) (1000000000 * l + 4 * (1 + b * l)) 0 (1000000000 * b - 1) (1000000000 * (1 + b * l) - l) 0 := by
    funext p
    unfold affZ
    rw [Prod.mk.injEq]
    exact ⟨by grind, by grind⟩
  rw [f1, f2]
  constructor
  · refine pl.map ?_ fun z w => ?_
    · rcases hb with rfl | rfl <;> rcases hl with rfl | rfl | rfl | rfl <;> decide
    · unfold Win at w
      unfold NearZ affZ
      rw [e60]
      rcases hb with rfl | rfl <;> rcases hl with rfl | rfl | rfl | rfl <;> (dsimp only; omega)
  · refine pl.map ?_ fun z w => ?_
    · rcases hb with rfl | rfl <;> rcases hl with rfl | rfl | rfl | rfl <;> decide
    · unfold Win at w
      unfold NearZ affZ
      rw [e60]
      rcases hb with rfl | rfl <;> rcases hl with rfl | rfl | rfl | rfl <;> (dsimp only; omega)
end Odd
/-! the pairs of sides and what gap looks at -/
namespace Odd
open GeoZ
theorem fcs_len {un : Int} {rows : List (List (Int × Int))} {f : Nat} : ((fcs un rows).getD f []).length = (rows.getD f []).length := by
  unfold fcs
  rw [List.getD_eq_getElem?_getD, List.getD_eq_getElem?_getD, List.getElem?_map]
  cases rows[f]? with
  | none => rfl
  | some r => exact List.length_map _
theorem keysZ_of {rows : List (List (Int × Int))} {p : Nat × Nat} (h1 : p.1 < rows.length) (h2 : p.2 < (rows.getD p.1 []).length) : p ∈ keysZ rows :=
  List.mem_flatMap.mpr ⟨p.1, List.mem_range.mpr h1, List.mem_map.mpr ⟨p.2, List.mem_range.mpr h2, rfl⟩⟩
theorem key_side {un : Int} {rows : List (List (Int × Int))} {p : Nat × Nat} (h : p ∈ keysZ rows) : SideOf (fcs un rows) p := by
  obtain ⟨h1, h2⟩ := keysZ_mem rows h
  exact ⟨by unfold fcs; rw [List.length_map]; exact h1, by rw [fcs_len]; exact h2⟩
theorem side_key {un : Int} {rows : List (List (Int × Int))} {p : Nat × Nat} (h : SideOf (fcs un rows) p) : p ∈ keysZ rows := by
  obtain ⟨h1, h2⟩ := h
  rw [fcs_len] at h2
  unfold fcs at h1
  rw [List.length_map] at h1
  exact keysZ_of h1 h2
theorem pairsZ_mem {rows : List (List (Int × Int))} {p q : Nat × Nat} : (p, q) ∈ pairsZ rows ↔ p ∈ keysZ rows ∧ q ∈ keysZ rows ∧ goodZ rows p q = true := by
  unfold pairsZ prsZ
  rw [List.mem_flatMap]
  constructor
  · rintro ⟨p', hp, h⟩
    obtain ⟨q', hq, e⟩ := List.mem_map.mp h
    obtain ⟨hq', g⟩ := List.mem_filter.mp hq
    cases e
    exact ⟨hp, hq', g⟩
  · rintro ⟨hp, hq, g⟩
    exact ⟨p, hp, List.mem_map.mpr ⟨q, List.mem_filter.mpr ⟨hq, g⟩, rfl⟩⟩
theorem lexP_iff {p q : Nat × Nat} : lexP p q = true ↔ p.1 < q.1 ∨ (p.1 = q.1 ∧ p.2 < q.2) := by
  unfold lexP
  rw [HT.lexLt_cons, HT.lexLt_cons]
  by_cases c : p.1 = q.1
  · rw [if_pos (by rw [c])]
    by_cases d : p.2 = q.2
    · rw [if_pos (by rw [d]), HT.lexLt_nil_nil]
      simp only [Bool.false_eq_true, false_iff]
      omega
    · rw [if_neg (by omega), decide_eq_true_iff]
      omega
  · rw [if_neg (by omega), decide_eq_true_iff]
    omega
theorem good_nb {un : Int} {rows : List (List (Int × Int))} {p q : Nat × Nat} (hp : p ∈ keysZ rows) (hq : q ∈ keysZ rows) : goodZ rows p q = true ↔ lexP p q = true ∧ nbB (fcs un rows) p q = false := by
  obtain ⟨p1, p2⟩ := keysZ_mem rows hp
  obtain ⟨q1, q2⟩ := keysZ_mem rows hq
  unfold goodZ nbB
  rw [fcs_len, Bool.and_eq_true]
  by_cases l : lexP p q = true
  · simp only [l, true_and]
    have l := lexP_iff.mp l
    by_cases c : p.1 = q.1
    · have d : p.2 < q.2 := by omega
      rw [← c] at q2
      generalize (rows.getD p.1 []).length = n at *
      have e1 : (q.2 + 1) % n = if q.2 + 1 = n then 0 else q.2 + 1 := by
        split
        · rename_i e; rw [e, Nat.mod_self]
        · exact Nat.mod_eq_of_lt (by omega)
      have e2 : (p.2 + 1) % n = p.2 + 1 := Nat.mod_eq_of_lt (by omega)
      unfold nextB
      rw [e1, e2]
      simp only [c, beq_self_eq_true, Bool.true_and, decide_true, Bool.not_eq_true', Bool.or_eq_false_iff, beq_eq_false_iff_ne, decide_eq_false_iff_not, ne_eq]
      split <;> omega
    · simp [c]
  · simp [l]
theorem nbB_comm {un : Int} {rows : List (List (Int × Int))} {p q : Nat × Nat} : nbB (fcs un rows) p q = nbB (fcs un rows) q p := by
  unfold nbB
  rw [fcs_len, fcs_len]
  by_cases c : p.1 = q.1
  · rw [c]
    simp only [decide_true, Bool.true_and]
    unfold nextB
    rw [Bool.eq_iff_iff]
    simp only [Bool.or_eq_true, decide_eq_true_eq]
    omega
  · rw [decide_eq_false c, decide_eq_false (fun h => c h.symm)]
    rfl
/-- of two sides that are no neighbours, one order is among the pairs -/
theorem pairs_of {un : Int} {rows : List (List (Int × Int))} {p q : Nat × Nat} (hp : p ∈ keysZ rows) (hq : q ∈ keysZ rows) (h : nbB (fcs un rows) p q = false) : (lexP p q = true ∧ (p, q) ∈ pairsZ rows) ∨ (lexP p q = false ∧ (q, p) ∈ pairsZ rows) := by
  cases l : lexP p q with
  | true => exact .inl ⟨rfl, pairsZ_mem.mpr ⟨hp, hq, (good_nb hp hq).mpr ⟨l, h⟩⟩⟩
  | false =>
    refine .inr ⟨rfl, pairsZ_mem.mpr ⟨hq, hp, (good_nb hq hp).mpr ⟨lexP_iff.mpr ?_, by rw [nbB_comm]; exact h⟩⟩⟩
    have l' : ¬ (p.1 < q.1 ∨ (p.1 = q.1 ∧ p.2 < q.2)) := fun z => by rw [lexP_iff.mpr z] at l; cases l
    have ne : ¬ (p.1 = q.1 ∧ p.2 = q.2) := fun ⟨e1, e2⟩ => by
      have : nbB (fcs un rows) p q = true := by
        unfold nbB nextB
        simp [e1, e2]
      rw [this] at h
      cases h
    omega
theorem isC_of {un : Int} {rows : List (List (Int × Int))} {p q : Nat × Nat} (hp : p ∈ keysZ rows) (hq : q ∈ keysZ rows) (h : nbB (fcs un rows) p q = false) : IsC (fcs un rows) ⟨p, p, q⟩ :=
  ⟨key_side hp, key_side hq, by unfold socL; rw [if_pos h]⟩
/-- gap looks at nothing: there is no pair -/
theorem pairs_nil {un : Int} {rows : List (List (Int × Int))} (h : ∀ c, ¬ IsC (fcs un rows) c) : pairsZ rows = [] := by
  cases e : pairsZ rows with
  | nil => rfl
  | cons x xs =>
    obtain ⟨p, q⟩ := x
    obtain ⟨hp, hq, g⟩ := pairsZ_mem.mp (e ▸ List.mem_cons_self : (p, q) ∈ pairsZ rows)
    exact absurd (isC_of hp hq ((good_nb (un := un) hp hq).mp g).2) (h _)
theorem isC_one {un : Int} {rows : List (List (Int × Int))} {c : Cand} (h : IsC (fcs un rows) c) : c.one ∈ keysZ rows ∧ c.at' ∈ keysZ rows ∧ nbB (fcs un rows) c.one c.at' = false := by
  obtain ⟨h1, h2, h3⟩ := h
  unfold socL at h3
  split at h3
  · rename_i g
    rw [← Option.some.inj h3]
    exact ⟨side_key h1, side_key h2, g⟩
  · split at h3
    · rename_i g
      have e := Option.some.inj h3
      rw [← e]
      refine ⟨keysZ_of (keysZ_mem rows (side_key h1)).1 ?_, side_key h2, g⟩
      have l := (keysZ_mem rows (side_key h1)).2
      unfold prevN
      rw [fcs_len]
      exact Nat.mod_lt _ (by omega)
    · cases h3
theorem pairs_some {un : Int} {rows : List (List (Int × Int))} {c : Cand} (h : IsC (fcs un rows) c) : pairsZ rows ≠ [] := fun z => by
  obtain ⟨h1, h2, h3⟩ := isC_one h
  rcases pairs_of h1 h2 h3 with ⟨_, h⟩ | ⟨_, h⟩ <;> (rw [z] at h; cases h)
theorem next3 {i j : Nat} (hi : i < 3) (hj : j < 3) : nextB i j 3 = true := by
  have t : ∀ i j : Fin 3, nextB i.1 j.1 3 = true := by decide +kernel
  exact t ⟨i, hi⟩ ⟨j, hj⟩
/-- three corners: gap looks at nothing -/
theorem tent_none {un : Int} {zs : List (Int × Int)} (h : zs.length = 3) (c : Cand) : ¬ IsC (fcs un [zs]) c := fun ic => by
  obtain ⟨h1, h2, h3⟩ := isC_one ic
  obtain ⟨a1, a2⟩ := keysZ_mem _ h1
  obtain ⟨b1, b2⟩ := keysZ_mem _ h2
  have e1 : c.one.1 = 0 := by simpa using a1
  have e2 : c.at'.1 = 0 := by simpa using b1
  unfold nbB at h3
  rw [fcs_len] at h3
  rw [e1] at a2 h3
  rw [e2] at b2 h3
  change c.one.2 < zs.length at a2
  change c.at'.2 < zs.length at b2
  change (decide (0 = 0) && nextB c.one.2 c.at'.2 zs.length) = false at h3
  rw [h] at a2 b2 h3
  rw [next3 a2 b2] at h3
  cases h3
theorem tent_lot {zs : List (Int × Int)} (h : StarRow 5 zs 3) : MLot [zs] ∧ zs.length = 3 := by
  obtain ⟨l, w⟩ := h.bd (by decide)
  have one : ∀ r ∈ [zs], r = zs := fun r hr => List.mem_singleton.mp hr
  refine ⟨⟨fun r hr => ?_, fun r hr => ?_, fun r hr z hz => ?_, List.pairwise_singleton _ _⟩, l⟩
  · rw [one r hr]
    exact h.fine (by decide) (by decide) (by decide)
  · rw [one r hr]
    omega
  · rw [one r hr] at hz
    have := w z hz
    unfold Win at this
    have e60 : (2 : Nat) ^ 60 = 1152921504606846976 := by decide +kernel
    unfold NearZ
    rw [e60]
    omega
end Odd
/-! the least foot over the pairs is the gap's -/
namespace Odd
open GeoZ
def feetP (rows : List (List (Int × Int))) (p : (Nat × Nat) × (Nat × Nat)) : List (Int × Int) := feet (sideZ rows p.1) (sideZ rows p.2)
def feetZ (rows : List (List (Int × Int))) (l : List ((Nat × Nat) × (Nat × Nat))) : List (Int × Int) := l.flatMap (feetP rows)
theorem sideZ_is {rows : List (List (Int × Int))} {p : Nat × Nat} (h : p ∈ keysZ rows) : sideZ rows p = (crZ' rows p, enZ rows p) := by
  obtain ⟨h1, h2⟩ := keysZ_mem rows h
  unfold sideZ crZ' enZ
  generalize rows.getD p.1 [] = r at *
  have e2 : (ringV r)[p.2]? = some (r[p.2]'h2, r[(p.2 + 1) % r.length]'(Nat.mod_lt _ (by omega))) := sideL_at h2
  rw [List.getD_eq_getElem?_getD, e2]
  unfold cyc
  rw [List.getD_eq_getElem?_getD, List.getD_eq_getElem?_getD, Nat.mod_eq_of_lt h2, List.getElem?_eq_getElem h2, List.getElem?_eq_getElem (Nat.mod_lt _ (by omega))]
  rfl
theorem key_row {rows : List (List (Int × Int))} {p : Nat × Nat} (h : p ∈ keysZ rows) : rows.getD p.1 [] ∈ rows := List.mem_of_getElem? (getD_some (keysZ_mem rows h).1)
theorem key_near {un : Int} {rows : List (List (Int × Int))} (ok : GRows un rows) {p : Nat × Nat} (h : p ∈ keysZ rows) : NearZ (crZ' rows p) ∧ NearZ (enZ rows p) ∧ crZ' rows p ≠ enZ rows p := by
  have m := key_row h
  have l := ok.three _ m
  exact ⟨ok.near _ m _ (cyc_mem (by omega) _), ok.near _ m _ (cyc_mem (by omega) _), ok.ne _ m _⟩
theorem near_smN {z : Int × Int} (h : NearZ z) (n : Nat) (hn : 61 ≤ n) : Sm n z := by
  unfold NearZ at h
  have e : (2 : Nat) ^ 61 ≤ 2 ^ n := Nat.pow_le_pow_right (by decide) hn
  have e2 : (2 : Nat) ^ 61 = 2 * 2 ^ 60 := by decide +kernel
  have e3 : (2 : Nat) ^ 60 = 1152921504606846976 := by decide +kernel
  rw [e2, e3] at e
  refine ⟨Nat.lt_of_lt_of_le ?_ e, Nat.lt_of_lt_of_le ?_ e⟩
  · rw [e3] at h
    omega
  · rw [e3] at h
    omega
/-- of a side: how great, and that it is one -/
structure SdOk (s : ZS) : Prop where
  a1 : Sm 100 s.1
  a2 : Sm 100 s.2
  z1 : SmZ s.1
  z2 : SmZ s.2
  ne : s.1 ≠ s.2
theorem key_ok {un : Int} {rows : List (List (Int × Int))} (ok : GRows un rows) {p : Nat × Nat} (h : p ∈ keysZ rows) : SdOk (sideZ rows p) := by
  obtain ⟨n1, n2, ne⟩ := key_near ok h
  rw [sideZ_is h]
  exact ⟨near_smN n1 _ (by decide), near_smN n2 _ (by decide), near_smN n1 1000 (by decide), near_smN n2 1000 (by decide), ne⟩
theorem feet_ok {s t : ZS} (hs : SdOk s) (ht : SdOk t) : ∀ f ∈ feet s t, 0 < f.2 ∧ SmF f := fun f hf => by
  unfold feet at hf
  simp only [List.mem_cons, List.not_mem_nil, or_false] at hf
  rcases hf with rfl | rfl | rfl | rfl
  · exact ⟨ftD_pos ht.ne, foot_sm hs.z1 ht.z1 ht.z2⟩
  · exact ⟨ftD_pos ht.ne, foot_sm hs.z2 ht.z1 ht.z2⟩
  · exact ⟨ftD_pos hs.ne, foot_sm ht.z1 hs.z1 hs.z2⟩
  · exact ⟨ftD_pos hs.ne, foot_sm ht.z2 hs.z1 hs.z2⟩
theorem pair_keys {rows : List (List (Int × Int))} {p : (Nat × Nat) × (Nat × Nat)} (h : p ∈ pairsZ rows) : p.1 ∈ keysZ rows ∧ p.2 ∈ keysZ rows ∧ goodZ rows p.1 p.2 = true := pairsZ_mem.mp h
theorem feetP_ok {un : Int} {rows : List (List (Int × Int))} (ok : GRows un rows) {p : (Nat × Nat) × (Nat × Nat)} (h : p ∈ pairsZ rows) : ∀ f ∈ feetP rows p, 0 < f.2 ∧ SmF f :=
  feet_ok (key_ok ok (pair_keys h).1) (key_ok ok (pair_keys h).2.1)
/-- the pair that is told, the lesser side first -/
def pqC (c : Cand) : (Nat × Nat) × (Nat × Nat) := if lexP c.one c.at' = true then (c.one, c.at') else (c.at', c.one)
def heC (un : Int) (rows : List (List (Int × Int))) (c : Cand) : P2 := if lexP c.one c.at' = true then scP un (crZ' rows c.cor) else scP (un * cD rows c) (cX rows c)
def thC (un : Int) (rows : List (List (Int × Int))) (c : Cand) : P2 := if lexP c.one c.at' = true then scP (un * cD rows c) (cX rows c) else scP un (crZ' rows c.cor)
theorem pqC_mem {un : Int} {rows : List (List (Int × Int))} {c : Cand} (ic : IsC (fcs un rows) c) : pqC c ∈ pairsZ rows := by
  obtain ⟨h1, h2, h3⟩ := isC_one ic
  unfold pqC
  rcases pairs_of h1 h2 h3 with ⟨l, m⟩ | ⟨l, m⟩
  · rw [if_pos l]; exact m
  · rw [if_neg (by rw [l]; decide)]; exact m
theorem crZ_next {rows : List (List (Int × Int))} {f i : Nat} : enZ rows (f, i) = crZ' rows (f, (i + 1) % (rows.getD f []).length) := by
  unfold enZ crZ'
  exact (cyc_mod _ _).symm
theorem prev_next {c n : Nat} (hc : c < n) : (prevN c n + 1) % n = c := by
  unfold prevN
  rw [Nat.mod_add_mod, show c + n - 1 + 1 = c + n by omega, Nat.add_mod_right, Nat.mod_eq_of_lt hc]
/-- the corner that is looked at is an end of its side -/
theorem cor_end {un : Int} {rows : List (List (Int × Int))} {c : Cand} (ic : IsC (fcs un rows) c) : crZ' rows c.cor = crZ' rows c.one ∨ crZ' rows c.cor = enZ rows c.one := by
  obtain ⟨h1, h2, h3⟩ := ic
  obtain ⟨k1, k2⟩ := keysZ_mem rows (side_key h1)
  unfold socL at h3
  split at h3
  · rw [← Option.some.inj h3]; exact .inl rfl
  · split at h3
    · have e := Option.some.inj h3
      rw [← e, crZ_next, fcs_len]
      right
      rw [prev_next k2]
    · cases h3
def footC (rows : List (List (Int × Int))) (c : Cand) : Int × Int := (cN rows c, cD rows c)
theorem foot_mem {un : Int} {rows : List (List (Int × Int))} {c : Cand} (ic : IsC (fcs un rows) c) : footC rows c ∈ feetP rows (pqC c) := by
  obtain ⟨h1, h2, h3⟩ := isC_one ic
  have e : footC rows c = foot (crZ' rows c.cor) (sideZ rows c.at') := by rw [sideZ_is h2]; rfl
  have m : ∀ t : ZS, foot (crZ' rows c.cor) t = foot (sideZ rows c.one).1 t ∨ foot (crZ' rows c.cor) t = foot (sideZ rows c.one).2 t := fun t => by
    rw [sideZ_is h1]
    rcases cor_end ic with h | h
    · exact .inl (by rw [h])
    · exact .inr (by rw [h])
  rw [e]
  unfold feetP pqC feet
  simp only [List.mem_cons, List.not_mem_nil, or_false]
  split
  · rcases m (sideZ rows c.at') with h | h
    · exact .inl h
    · exact .inr (.inl h)
  · rcases m (sideZ rows c.at') with h | h
    · exact .inr (.inr (.inl h))
    · exact .inr (.inr (.inr h))
end Odd
/-! the gap's points: on their sides, so far apart; the least foot is the gap's -/
namespace Odd
open GeoZ L2
theorem foot_cand {un : Int} {rows : List (List (Int × Int))} {p q : Nat × Nat} (hp : p ∈ keysZ rows) (hq : q ∈ keysZ rows) (h : nbB (fcs un rows) p q = false) :
    (∃ d, IsC (fcs un rows) d ∧ footC rows d = foot (sideZ rows p).1 (sideZ rows q)) ∧ (∃ d, IsC (fcs un rows) d ∧ footC rows d = foot (sideZ rows p).2 (sideZ rows q)) := by
  rw [sideZ_is hp, sideZ_is hq]
  constructor
  · exact ⟨⟨p, p, q⟩, isC_of hp hq h, rfl⟩
  · obtain ⟨k1, k2⟩ := keysZ_mem rows hp
    have l := Nat.mod_lt (p.2 + 1) (show 0 < (rows.getD p.1 []).length by omega)
    have hn : (p.1, (p.2 + 1) % (rows.getD p.1 []).length) ∈ keysZ rows := keysZ_of k1 l
    have e : crZ' rows (p.1, (p.2 + 1) % (rows.getD p.1 []).length) = enZ rows p := crZ_next.symm
    have pv : prevN ((p.2 + 1) % (rows.getD p.1 []).length) (rows.getD p.1 []).length = p.2 := by
      generalize (rows.getD p.1 []).length = n at *
      unfold prevN
      rcases Nat.lt_or_ge (p.2 + 1) n with c | c
      · rw [Nat.mod_eq_of_lt c, show p.2 + 1 + n - 1 = p.2 + n by omega, Nat.add_mod_right, Nat.mod_eq_of_lt k2]
      · have : p.2 + 1 = n := by omega
        rw [this, Nat.mod_self, show 0 + n - 1 = p.2 by omega, Nat.mod_eq_of_lt k2]
    have so : ∃ one, socL (fcs un rows) (p.1, (p.2 + 1) % (rows.getD p.1 []).length) q = some one := by
      unfold socL
      rw [fcs_len]
      dsimp only
      rw [pv]
      split
      · exact ⟨_, rfl⟩
      · exact ⟨_, rfl⟩
    obtain ⟨one, ho⟩ := so
    refine ⟨⟨one, _, q⟩, ⟨key_side hn, key_side hq, ho⟩, ?_⟩
    unfold footC cN cD foot
    dsimp only
    rw [e]
theorem feet_cand {un : Int} {rows : List (List (Int × Int))} {p : (Nat × Nat) × (Nat × Nat)} (h : p ∈ pairsZ rows) : ∀ f ∈ feetP rows p, ∃ d, IsC (fcs un rows) d ∧ footC rows d = f := fun f hf => by
  obtain ⟨hp, hq, g⟩ := pair_keys h
  have nb := ((good_nb (un := un) hp hq).mp g).2
  have a := foot_cand (un := un) hp hq nb
  have b := foot_cand (un := un) hq hp (by rw [nbB_comm]; exact nb)
  unfold feetP feet at hf
  simp only [List.mem_cons, List.not_mem_nil, or_false] at hf
  rcases hf with rfl | rfl | rfl | rfl
  · exact a.1
  · exact a.2
  · exact b.1
  · exact b.2
theorem least_is {un : Int} {rows : List (List (Int × Int))} (ok : GRows un rows) {c : Cand} (ic : IsC (fcs un rows) c) (le : ∀ d, IsC (fcs un rows) d → leC rows c d) {f : Int × Int} (hf : LeastF (feetZ rows (pairsZ rows)) f) : low f.1 (f.2 * un * un) = sqC un rows c := by
  obtain ⟨m, l⟩ := hf
  obtain ⟨p, hp, hfp⟩ := List.mem_flatMap.mp m
  have f0 := (feetP_ok ok hp f hfp).1
  have cm : footC rows c ∈ feetZ rows (pairsZ rows) := List.mem_flatMap.mpr ⟨_, pqC_mem ic, foot_mem ic⟩
  have c0 : 0 < cD rows c := (feetP_ok ok (pqC_mem ic) _ (foot_mem ic)).1
  obtain ⟨d, hd, e⟩ := feet_cand (un := un) hp f hfp
  have h1 := le d hd
  have h2 := l _ cm
  unfold leC at h1
  have e1 : cN rows d = f.1 := by rw [← e]; rfl
  have e2 : cD rows d = f.2 := by rw [← e]; rfl
  rw [e1, e2] at h1
  have h2 : f.1 * cD rows c ≤ cN rows c * f.2 := h2
  have h : f.1 * cD rows c = cN rows c * f.2 := by omega
  have u2 := Int.mul_pos ok.un0 ok.un0
  have p1 := Int.mul_pos c0 u2
  have p2 : 0 < f.2 * un * un := Int.mul_pos (Int.mul_pos f0 ok.un0) ok.un0
  refine low_eq (by omega) (by omega) ?_
  have g : ∀ a b c d u : Int, a * c = b * d → a * (c * (u * u)) = b * (d * u * u) := fun a b c d u h => by grind
  exact g _ _ _ _ _ h
theorem low_cross {x u : Int} (h : 0 < u) : (low x u).1 * u = x * (low x u).2 := (low_is (t := x) (u := u) (by omega)).1.2

theorem onB_iff {a b s : Int × Int} : onB a b s = true ↔ cr a b s = 0 ∧ (s.1 - a.1) * (s.1 - b.1) + (s.2 - a.2) * (s.2 - b.2) ≤ 0 := by
  unfold onB
  exact decide_eq_true_iff
/-- on a side, all of it taken m times -/
theorem onB_scl {a b s : Int × Int} {m : Int} (h : onB a b s = true) : onB (sclZ a m) (sclZ b m) (sclZ s m) = true := by
  obtain ⟨h1, h2⟩ := onB_iff.mp h
  refine onB_iff.mpr ⟨?_, ?_⟩
  · have e : cr (sclZ a m) (sclZ b m) (sclZ s m) = m * m * cr a b s := by
      unfold cr sclZ
      dsimp only
      grind
    rw [e, h1, Int.mul_zero]
  · have e : ((sclZ s m).1 - (sclZ a m).1) * ((sclZ s m).1 - (sclZ b m).1) + ((sclZ s m).2 - (sclZ a m).2) * ((sclZ s m).2 - (sclZ b m).2) = m * m * ((s.1 - a.1) * (s.1 - b.1) + (s.2 - a.2) * (s.2 - b.2)) := by
      unfold sclZ
      dsimp only
      grind
    rw [e]
    exact Int.mul_nonpos_of_nonneg_of_nonpos (sq_nonneg' m) h2
theorem onB_of_scl {a b s : Int × Int} {m : Int} (hm : 0 < m) (h : onB (sclZ a m) (sclZ b m) (sclZ s m) = true) : onB a b s = true := by
  obtain ⟨h1, h2⟩ := onB_iff.mp h
  have mm := Int.mul_pos hm hm
  refine onB_iff.mpr ⟨?_, ?_⟩
  · have e : cr (sclZ a m) (sclZ b m) (sclZ s m) = m * m * cr a b s := by
      unfold cr sclZ
      dsimp only
      grind
    rw [e] at h1
    exact (Int.mul_eq_zero.mp h1).resolve_left (by omega)
  · have e : ((sclZ s m).1 - (sclZ a m).1) * ((sclZ s m).1 - (sclZ b m).1) + ((sclZ s m).2 - (sclZ a m).2) * ((sclZ s m).2 - (sclZ b m).2) = m * m * ((s.1 - a.1) * (s.1 - b.1) + (s.2 - a.2) * (s.2 - b.2)) := by
      unfold sclZ
      dsimp only
      grind
    rw [e] at h2
    exact Int.nonpos_of_mul_nonpos_right h2 mm
/-- a point X over un times D lies on a side, if X does on the side taken D times -/
theorem lie_sc {un D : Int} {X : Int × Int} {s : ZS} (u0 : 0 < un) (d0 : 0 < D) (h : onB (sclZ s.1 D) (sclZ s.2 D) X = true) : lieZ (scP (un * D) X) s un = true := by
  have ud := Int.mul_pos u0 d0
  have e1 : (scP (un * D) X).1.1 * (un * D) = X.1 * (scP (un * D) X).1.2 := low_cross ud
  have e2 : (scP (un * D) X).2.1 * (un * D) = X.2 * (scP (un * D) X).2.2 := low_cross ud
  unfold lieZ
  generalize scP (un * D) X = p at *
  refine onB_of_scl d0 ?_
  have k := onB_scl (m := p.1.2 * p.2.2) h
  have q1 : ∀ a : Int × Int, sclZ (sclZ a D) (p.1.2 * p.2.2) = sclZ (sclZ a (p.1.2 * p.2.2)) D := fun a => by
    unfold sclZ
    dsimp only
    exact Prod.ext (by dsimp only; grind) (by dsimp only; grind)
  have q2 : sclZ X (p.1.2 * p.2.2) = sclZ (p.1.1 * p.2.2 * un, p.2.1 * p.1.2 * un) D := by
    unfold sclZ
    dsimp only
    exact Prod.ext (by dsimp only; grind) (by dsimp only; grind)
  rw [q1, q1, q2] at k
  exact k
theorem onB_end1 {a b : Int × Int} : onB a b a = true := onB_iff.mpr ⟨by unfold cr; grind, by
  have : (a.1 - a.1) * (a.1 - b.1) + (a.2 - a.2) * (a.2 - b.2) = 0 := by grind
  omega⟩
theorem onB_end2 {a b : Int × Int} : onB a b b = true := onB_iff.mpr ⟨by unfold cr; grind, by
  have : (b.1 - a.1) * (b.1 - b.1) + (b.2 - a.2) * (b.2 - b.2) = 0 := by grind
  omega⟩
theorem scl_one (a : Int × Int) : sclZ a 1 = a := by unfold sclZ; exact Prod.ext (Int.mul_one _) (Int.mul_one _)
/-- a foot lies on its side -/
theorem foot_on {p a b : Int × Int} : onB (sclZ a (ftD p a b)) (sclZ b (ftD p a b)) (ftX p a b) = true := by
  unfold ftD ftX
  split
  · rw [scl_one, scl_one]; exact onB_end1
  · split
    · rw [scl_one, scl_one]; exact onB_end2
    · rename_i c1 c2
      have hL : lnZ a b = (b.1 - a.1) * (b.1 - a.1) + (b.2 - a.2) * (b.2 - a.2) := rfl
      generalize lnZ a b = L at *
      generalize dtZ a b p = t at *
      refine onB_iff.mpr ⟨?_, ?_⟩
      · unfold cr sclZ
        dsimp only
        grind
      · have e : ((a.1 * L + (b.1 - a.1) * t, a.2 * L + (b.2 - a.2) * t).1 - (sclZ a L).1) * ((a.1 * L + (b.1 - a.1) * t, a.2 * L + (b.2 - a.2) * t).1 - (sclZ b L).1) + ((a.1 * L + (b.1 - a.1) * t, a.2 * L + (b.2 - a.2) * t).2 - (sclZ a L).2) * ((a.1 * L + (b.1 - a.1) * t, a.2 * L + (b.2 - a.2) * t).2 - (sclZ b L).2) = L * (t * (t - L)) := by
          unfold sclZ
          dsimp only
          grind
        rw [e]
        refine Int.mul_nonpos_of_nonneg_of_nonpos (by omega) (Int.mul_nonpos_of_nonneg_of_nonpos (by omega) (by omega))
/-- how far a foot is -/
theorem foot_far {p a b : Int × Int} : (ftX p a b).1 = (ftX p a b).1 ∧ ((ftX p a b).1 - p.1 * ftD p a b) * ((ftX p a b).1 - p.1 * ftD p a b) + ((ftX p a b).2 - p.2 * ftD p a b) * ((ftX p a b).2 - p.2 * ftD p a b) = ftN p a b * ftD p a b := by
  refine ⟨rfl, ?_⟩
  unfold ftX ftD ftN
  split
  · unfold lnZ; grind
  · split
    · unfold lnZ; grind
    · unfold lnZ dtZ cr
      dsimp only
      generalize h1 : b.1 - a.1 = e1
      generalize h2 : b.2 - a.2 = e2
      generalize h3 : p.1 - a.1 = w1
      generalize h4 : p.2 - a.2 = w2
      have g1 : p.1 = a.1 + w1 := by omega
      have g2 : p.2 = a.2 + w2 := by omega
      rw [g1, g2]
      grind
theorem apt_k {a z x r w s U D X v : Int} (h1 : a * (U * D) = X * r) (h2 : x * U = v * z) : (a * z - x * r) * w * s * (U * D) = z * r * w * s * (X - v * D) := by
  have e : (a * z - x * r) * w * s * (U * D) = (a * (U * D)) * (z * w * s) - (x * U) * (r * w * s * D) := by clear h1 h2; grind
  rw [e, h1, h2]
  clear e h1 h2
  grind
theorem apt_sc {un D : Int} {v X : Int × Int} {N : Int} (u0 : 0 < un) (d0 : 0 < D) (h : (X.1 - v.1 * D) * (X.1 - v.1 * D) + (X.2 - v.2 * D) * (X.2 - v.2 * D) = N * D) : aptZ (scP un v) (scP (un * D) X) = low N (D * (un * un)) := by
  have ud := Int.mul_pos u0 d0
  have e1 : (scP (un * D) X).1.1 * (un * D) = X.1 * (scP (un * D) X).1.2 := low_cross ud
  have e2 : (scP (un * D) X).2.1 * (un * D) = X.2 * (scP (un * D) X).2.2 := low_cross ud
  have e3 : (scP un v).1.1 * un = v.1 * (scP un v).1.2 := low_cross u0
  have e4 : (scP un v).2.1 * un = v.2 * (scP un v).2.2 := low_cross u0
  have c1 : 0 < (scP (un * D) X).1.2 := (low_is (t := X.1) (u := un * D) (by omega)).1.1.1
  have c2 : 0 < (scP (un * D) X).2.2 := (low_is (t := X.2) (u := un * D) (by omega)).1.1.1
  have c3 : 0 < (scP un v).1.2 := (low_is (t := v.1) (u := un) (by omega)).1.1.1
  have c4 : 0 < (scP un v).2.2 := (low_is (t := v.2) (u := un) (by omega)).1.1.1
  unfold aptZ
  generalize scP (un * D) X = q at *
  generalize scP un v = p at *
  obtain ⟨⟨x, z⟩, ⟨y, w⟩⟩ := p
  obtain ⟨⟨a, r⟩, ⟨b, s⟩⟩ := q
  dsimp only at *
  have dn : 0 < z * r * w * s := Int.mul_pos (Int.mul_pos (Int.mul_pos c3 c1) c4) c2
  have dd := Int.mul_pos dn dn
  have du := Int.mul_pos d0 (Int.mul_pos u0 u0)
  refine low_eq (by omega) (by omega) ?_
  have k1 : (a * z - x * r) * w * s * (un * D) = z * r * w * s * (X.1 - v.1 * D) := apt_k e1 e3
  have k2 : (b * w - y * s) * z * r * (un * D) = z * r * w * s * (X.2 - v.2 * D) := (apt_k e2 e4).trans (by
    have g : ∀ m : Int, w * s * z * r * m = z * r * w * s * m := fun m => by grind
    exact g _)
  generalize (a * z - x * r) * w * s = A at *
  generalize (b * w - y * s) * z * r = B at *
  generalize z * r * w * s = M at *
  generalize X.1 - v.1 * D = P at *
  generalize X.2 - v.2 * D = R at *
  refine Int.eq_of_mul_eq_mul_right (a := D) (by omega) ?_
  have f : (A * A + B * B) * (D * (un * un)) * D = A * (un * D) * (A * (un * D)) + B * (un * D) * (B * (un * D)) := by grind
  rw [f, k1, k2]
  have f2 : M * P * (M * P) + M * R * (M * R) = M * M * (P * P + R * R) := by grind
  rw [f2, h]
  grind
theorem aptZ_comm (p q : P2) : aptZ p q = aptZ q p := by
  unfold aptZ
  congr 1
  · grind
  · grind
structure GapZ (un : Int) (rows : List (List (Int × Int))) (sq : Int × Int) (pq : (Nat × Nat) × (Nat × Nat)) (he th : P2) : Prop where
  mem : pq ∈ pairsZ rows
  lie1 : lieZ he (sideZ rows pq.1) un = true
  lie2 : lieZ th (sideZ rows pq.2) un = true
  apt : aptZ he th = sq
  ch : CanonP he
  ct : CanonP th
  mh : SmP 400 he
  mt : SmP 400 th
  ms : Sm 300 sq
  sq : ∀ f, LeastF (feetZ rows (pairsZ rows)) f → low f.1 (f.2 * un * un) = sq
theorem scP_ok {u : Int} {v : Int × Int} (u0 : 0 < u) (h1 : u.natAbs < 2 ^ 400) (h2 : v.1.natAbs < 2 ^ 400) (h3 : v.2.natAbs < 2 ^ 400) : CanonP (scP u v) ∧ SmP 400 (scP u v) :=
  ⟨⟨(low_is (by omega)).1.1, (low_is (by omega)).1.1⟩, low_sm (by omega) h2 h1, low_sm (by omega) h3 h1⟩
theorem foot_bd {p a b : Int × Int} (np : NearZ p) (na : NearZ a) (nb : NearZ b) : (ftD p a b).natAbs < 2 ^ 124 ∧ (ftX p a b).1.natAbs < 2 ^ 187 ∧ (ftX p a b).2.natAbs < 2 ^ 187 := by
  have bd := ft_bds np na nb
  have e60 : (2 : Nat) ^ 60 < 2 ^ 187 := by decide
  have x : ∀ {i e : Int}, i.natAbs < 2 ^ 60 → e.natAbs < 2 ^ 61 → (i * lnZ a b + e * dtZ a b p).natAbs < 2 ^ 187 := fun {i e} h1 h2 => by
    have m1 : (i * lnZ a b).natAbs < 2 ^ 184 := wide_lt h1 bd.2.1
    have m2 : (e * dtZ a b p).natAbs < 2 ^ 185 := wide_lt h2 bd.1
    have e : (2 : Nat) ^ 187 = 2 ^ 185 + 2 ^ 185 + 2 ^ 185 + 2 ^ 185 := by decide
    have e' : (2 : Nat) ^ 185 = 2 ^ 184 + 2 ^ 184 := by decide
    omega
  unfold ftD ftX
  unfold NearZ at na nb
  split
  · exact ⟨by decide, by omega, by omega⟩
  · split
    · exact ⟨by decide, by omega, by omega⟩
    · exact ⟨bd.2.1, x na.1 (by omega), x na.2 (by omega)⟩
theorem gapZ_of {un : Int} {rows : List (List (Int × Int))} (ok : GRows un rows) {c : Cand} (ic : IsC (fcs un rows) c) (le : ∀ d, IsC (fcs un rows) d → leC rows c d) : GapZ un rows (sqC un rows c) (pqC c) (heC un rows c) (thC un rows c) := by
  obtain ⟨h1, h2, h3⟩ := isC_one ic
  have u0 := ok.un0
  have u1 := ok.un1
  obtain ⟨na, nb, ne⟩ := key_near ok h2
  have np := (key_near ok (side_key ic.1)).1
  have d0 : 0 < cD rows c := ftD_pos ne
  have bd := foot_bd np na nb
  have lh : lieZ (scP un (crZ' rows c.cor)) (sideZ rows c.one) un = true := by
    have k := lie_sc (un := un) (D := 1) (X := crZ' rows c.cor) (s := sideZ rows c.one) u0 (by decide) (by
      rw [scl_one, scl_one, sideZ_is h1]
      rcases cor_end ic with h | h <;> rw [h]
      · exact onB_end1
      · exact onB_end2)
    rw [Int.mul_one] at k
    exact k
  have lt : lieZ (scP (un * cD rows c) (cX rows c)) (sideZ rows c.at') un = true := lie_sc u0 d0 (by rw [sideZ_is h2]; exact foot_on)
  have ap : aptZ (scP un (crZ' rows c.cor)) (scP (un * cD rows c) (cX rows c)) = sqC un rows c := apt_sc u0 d0 foot_far.2
  have l4 : ∀ {n : Nat} {x : Int}, n ≤ 400 → x.natAbs < 2 ^ n → x.natAbs < 2 ^ 400 := fun h k => Nat.lt_of_lt_of_le k (Nat.pow_le_pow_right (by decide) h)
  have k1 := scP_ok (v := crZ' rows c.cor) u0 (l4 (n := 10) (by decide) (by omega)) (l4 (by decide) np.1) (l4 (by decide) np.2)
  have hud : (un * cD rows c).natAbs < 2 ^ 134 := wide_lt (show un.natAbs < 2 ^ 10 by omega) bd.1
  have k2 := scP_ok (v := cX rows c) (Int.mul_pos u0 d0) (l4 (by decide) hud) (l4 (by decide) bd.2.1) (l4 (by decide) bd.2.2)
  have ms : Sm 300 (sqC un rows c) := ftN_sm u0 u1 ne np na nb
  refine ⟨pqC_mem ic, ?_, ?_, ?_, ?_, ?_, ?_, ?_, ms, fun f hf => least_is ok ic le hf⟩
  · unfold pqC heC; split <;> assumption
  · unfold pqC thC; split <;> assumption
  · unfold heC thC
    split
    · exact ap
    · rw [aptZ_comm]; exact ap
  · unfold heC; split
    · exact k1.1
    · exact k2.1
  · unfold thC; split
    · exact k2.1
    · exact k1.1
  · unfold heC; split
    · exact k1.2
    · exact k2.2
  · unfold thC; split
    · exact k2.2
    · exact k1.2
end Odd
namespace Odd
open PySem PySem.Spec PyProof.Rows L2
/-! texts of two places of sides -/
def dNum (p : (Nat × Nat) × (Nat × Nat)) : PyData := .tuple [.tuple [.int (p.1.1 : Nat), .int (p.1.2 : Nat)], .tuple [.int (p.2.1 : Nat), .int (p.2.2 : Nat)]]
theorem dig_txt {a : Nat} (h : a < 10) : (Str.ofString (toString ((a : Nat) : Int))).cps = #[48 + a] := by
  have t : (List.range 10).all (fun a => (Str.ofString (toString ((a : Nat) : Int))).cps == #[48 + a]) = true := by decide +kernel
  exact eq_of_beq (List.all_eq_true.mp t _ (List.mem_range.mpr h))
theorem pair_txt (a b : Nat) (ha : a < 10) (hb : b < 10) : (PyData.tuple [.int (a : Nat), .int (b : Nat)]).shown.cps = #[40, 48 + a, 44, 32, 48 + b, 41] := by
  simp only [PyData.shown, PyData.shownAll]
  unfold tupleText
  simp only [Str.join]
  show ((Str.ofString "(").cps ++ ((Str.ofString (toString ((a : Nat) : Int))).cps ++ (Str.ofString ", ").cps ++ (Str.ofString (toString ((b : Nat) : Int))).cps)) ++ (Str.ofString ")").cps = _
  rw [dig_txt ha, dig_txt hb, show (Str.ofString "(").cps = #[40] by decide +kernel, show (Str.ofString ")").cps = #[41] by decide +kernel, show (Str.ofString ", ").cps = #[44, 32] by decide +kernel]
  simp
theorem two_txt (x y : PyData) : (PyData.tuple [x, y]).shown.cps = (#[40] ++ (x.shown.cps ++ #[44, 32] ++ y.shown.cps)) ++ #[41] := by
  simp only [PyData.shown, PyData.shownAll]
  unfold tupleText
  simp only [Str.join]
  show ((Str.ofString "(").cps ++ (x.shown.cps ++ (Str.ofString ", ").cps ++ y.shown.cps)) ++ (Str.ofString ")").cps = _
  rw [show (Str.ofString "(").cps = #[40] by decide +kernel, show (Str.ofString ")").cps = #[41] by decide +kernel, show (Str.ofString ", ").cps = #[44, 32] by decide +kernel]
theorem txN_inj {p q : (Nat × Nat) × (Nat × Nat)} (h1 : p.1.1 < 10) (h2 : p.1.2 < 10) (h3 : p.2.1 < 10) (h4 : p.2.2 < 10) (g1 : q.1.1 < 10) (g2 : q.1.2 < 10) (g3 : q.2.1 < 10) (g4 : q.2.2 < 10) (e : (dNum p).shown = (dNum q).shown) : p = q := by
  have e := congrArg Str.cps e
  unfold dNum at e
  rw [two_txt (PyData.tuple _) (PyData.tuple _), two_txt (PyData.tuple _) (PyData.tuple _), pair_txt _ _ h1 h2, pair_txt _ _ h3 h4, pair_txt _ _ g1 g2, pair_txt _ _ g3 g4] at e
  simp at e
  obtain ⟨⟨a, b⟩, ⟨c, d⟩⟩ := p
  obtain ⟨⟨a', b'⟩, ⟨c', d'⟩⟩ := q
  simp only [Prod.mk.injEq]
  dsimp only at e
  omega
end Odd
namespace Odd
open PySem PySem.Spec PyProof.Rows L2
local macro_rules | `(tactic| walk_at "vc") => `(tactic| simp only [tSeq, tAsg, gName, tCB, tCons, tNil, tVar, tC, tOp, tUn, rI0, rI, rU, tTup, tLst, tIfS, tTest, tB, tRet, tNext, rGcd, L2.start, List.map, List.set, List.replicate, List.cons_append, List.nil_append, List.length_cons, List.length_nil, List.getElem?_cons_succ, List.getElem?_cons_zero, Option.some.injEq, exists_eq_left', exists_eq_left, List.append_nil, List.cons.injEq, V.int.injEq, exists_and_left, and_true, true_and, and_assoc, exists_const, V.bl.injEq, V.ref.injEq, Nat.sub_self, Nat.reduceAdd, Nat.reduceSub, List.replicate_succ, List.replicate_zero, tAnd, tOr, tNot, tAndV, tOrV, tNotV, tIf, tCall, tCallK, tDrop, rEq, rNe, decide_eq_true_eq, Bool.not_eq_true', decide_eq_false_iff_not, Bool.false_eq_true, if_true, if_false, reduceIte, reduceCtorEq, tMkLow, tRaiseLow, rIsB, rNotB, tBreak, tPar, gSub, rSetL, tChain, gTup, gCons, gNil, gSeq, cx_K, cx_Kn, optV, V.str.injEq, Bool.not_true, Bool.not_false, false_and, and_false, or_false, false_or, exists_false, tCallN, tCallS, tPairs])
section
variable {P : Program} {w : World} {K : PySem.W.Frag} {mg : Str → Option Value} {base : Heap} {A : Ads}
def rLenG (K : PySem.W.Frag) : List V → Hp → VK → Prop := fun xs H Q => ∃ p, xs = [V.ref p] ∧ ∃ x, (SqL K H p x ∨ SqT K H p x) ∧ Q (V.int ↑x.length) H
def tG1 (K : PySem.W.Frag) (A : Ads) : TS := tAsg (tCall (spBetween K) [] E0 (tCons (tOp (rIxT K) (tOp (rIxL K) (tVar 13) (tC (V.int 0))) (tC (V.int 1))) (tCons (tOp (rIxT K) (tOp (rIxL K) (tVar 13) (tC (V.int 0))) (tC (V.int 3))) tNil))) (gName 14)
def tG2 (K : PySem.W.Frag) (A : Ads) : TS := tFor (iList K (tVar 13)) (gTup K 4 (gCons (gName 15) (gCons (gName 16) (gCons (gName 17) (gCons (gName 18) gNil))))) (tSeq (tAsg (tCall (spBetween K) [] E0 (tCons (tVar 16) (tCons (tVar 18) tNil))) (gName 19)) (tAsg (tIf (tTest (tOp (rI0 fun i j => V.bl (decide (i < j))) (tOp (rI CMulW fun i j => V.int (i * j)) (tOp (rIxT K) (tVar 19) (tC (V.int 0))) (tOp (rIxT K) (tVar 14) (tC (V.int 1)))) (tOp (rI CMulW fun i j => V.int (i * j)) (tOp (rIxT K) (tVar 14) (tC (V.int 0))) (tOp (rIxT K) (tVar 19) (tC (V.int 1)))))) (tVar 19) (tVar 14)) (gName 14)))
def tG3 (K : PySem.W.Frag) (A : Ads) : TS := tAsg (tCall (spLow6 K) [] E0 (tCons (tOp (rIxT K) (tVar 14) (tC (V.int 0))) (tCons (tOp (rI CMulW fun i j => V.int (i * j)) (tOp (rI CMulW fun i j => V.int (i * j)) (tOp (rIxT K) (tVar 14) (tC (V.int 1))) (tVar 7)) (tVar 7)) tNil))) (gName 20)
def tG4 (K : PySem.W.Frag) (A : Ads) : TS := tIfS (tOr (tNot (tB (tCB (rIsi K) (tCons (tVar 11) (tCons (tC (V.ref A.C_Gap)) tNil))))) (tOr (tTest (tOp rNe (tFld K (tVar 11) (Str.ofString "word")) (tC (V.str (Str.ofString "gap"))))) (tOr (tNot (tB (tCB (rBoolO A.C_Gap fun vs H Q E => spTrue vs H Q E) (tCons (tVar 11) tNil)))) (tOr (tTest (tOp rNe (tCB (rRepr K) (tCons (tFld K (tVar 11) (Str.ofString "squared")) tNil)) (tCB (rRepr K) (tCons (tVar 20) tNil)))) (tTest (tOp (rNeO K A.C_Gap (spGapEq K A.C_Gap) E0) (tVar 11) (tVar 12))))))) (tRet (tC (V.bl false))) tNext
def tG5 (K : PySem.W.Frag) (A : Ads) : TS := tIfS (tTest (tOp rNe (tCB (rRepr K) (tCons (tFld K (tVar 11) (Str.ofString "parts")) tNil)) (tCB (rRepr K) (tCons (tTup (tCons (tFld K (tVar 11) (Str.ofString "squared")) (tCons (tFld K (tVar 11) (Str.ofString "one")) (tCons (tFld K (tVar 11) (Str.ofString "other")) (tCons (tFld K (tVar 11) (Str.ofString "here")) (tCons (tFld K (tVar 11) (Str.ofString "there")) tNil)))))) tNil)))) (tRet (tC (V.bl false))) tNext
def tG6 (K : PySem.W.Frag) (A : Ads) : TS := tAsg (tLc (iList K (tVar 13)) (gName 3) (tTest (tOp rEq (tCB (rRepr K) (tCons (tTup (tCons (tOp (rIxT K) (tVar 3) (tC (V.int 0))) (tCons (tOp (rIxT K) (tVar 3) (tC (V.int 2))) tNil))) tNil)) (tCB (rRepr K) (tCons (tTup (tCons (tFld K (tVar 11) (Str.ofString "one")) (tCons (tFld K (tVar 11) (Str.ofString "other")) tNil))) tNil)))) (tVar 3) [3]) (gName 21)
def tG7 (K : PySem.W.Frag) (A : Ads) : TS := tIfS (tOr (tTest (tOp rNe (tCB (rLenG K) (tCons (tVar 21) tNil)) (tC (V.int 1)))) (tOr (tNot (tB (tCall (spLies K) [] E0 (tCons (tFld K (tVar 11) (Str.ofString "here")) (tCons (tOp (rIxT K) (tOp (rIxL K) (tVar 21) (tC (V.int 0))) (tC (V.int 1))) (tCons (tVar 7) tNil)))))) (tNot (tB (tCall (spLies K) [] E0 (tCons (tFld K (tVar 11) (Str.ofString "there")) (tCons (tOp (rIxT K) (tOp (rIxL K) (tVar 21) (tC (V.int 0))) (tC (V.int 3))) (tCons (tVar 7) tNil)))))))) (tRet (tC (V.bl false))) tNext
def tG8 (K : PySem.W.Frag) (A : Ads) : TS := tIfS (tTest (tOp rNe (tCB (rRepr K) (tCons (tCall (spApart K) [] E0 (tCons (tFld K (tVar 11) (Str.ofString "here")) (tCons (tFld K (tVar 11) (Str.ofString "there")) tNil))) tNil)) (tCB (rRepr K) (tCons (tVar 20) tNil)))) (tRet (tC (V.bl false))) tNext
def tGRest (K : PySem.W.Frag) (A : Ads) : TS := tSeq (tG1 K A) (tSeq (tG2 K A) (tSeq (tG3 K A) (tSeq (tG4 K A) (tSeq (tG5 K A) (tSeq (tG6 K A) (tSeq (tG7 K A) (tG8 K A)))))))
structure BagG (K : PySem.W.Frag) (CG : Addr) (G : Hp) (g1 g2 DP : Addr) (ps : List V) (un : Int) (rows : List (List (Int × Int))) (sq : Int × Int) (pq : (Nat × Nat) × (Nat × Nat)) (he th : P2) : Prop where
  z : GapZ un rows sq pq he th
  ok : GRows un rows
  hps : G DP = some (.lst ps)
  hv : Each (PSd K rows G) ps (pairsZ rows)
  a1 : GapAt K CG G g1 sq (toI pq.1) (toI pq.2) he th
  a2 : GapAt K CG G g2 sq (toI pq.1) (toI pq.2) he th
  six : rows.length ≤ 6
  ten : ∀ r ∈ rows, r.length ≤ 10
  len : ps.length < 5000
theorem BagG.same {CG : Addr} {G G' : Hp} {g1 g2 DP : Addr} {ps : List V} {un : Int} {rows : List (List (Int × Int))} {sq : Int × Int} {pq : (Nat × Nat) × (Nat × Nat)} {he th : P2} (s : Same G G') (B : BagG K CG G g1 g2 DP ps un rows sq pq he th) : BagG K CG G' g1 g2 DP ps un rows sq pq he th :=
  ⟨B.z, B.ok, s _ _ B.hps, B.hv.imp fun v x h => PSd.same s h, B.a1.same s, B.a2.same s, B.six, B.ten, B.len⟩
theorem repr_prG {H : Hp} {v : V} {q : Int × Int} {Q : VK} (h : Pr K H v q) (m : Sm 1800 q) (r : Q (.str (dPrI q).shown) H) : rRepr K [v] H Q := by
  obtain ⟨a, rfl, ha⟩ := id h
  have n := nice_prI m
  exact ⟨a, _, rfl, dp_prI h, n.sh, n.nd, Nat.le_trans n.dp (by decide), Nat.le_trans n.ln (by decide), r⟩
theorem BagG.nums {CG : Addr} {G : Hp} {g1 g2 DP : Addr} {ps : List V} {un : Int} {rows : List (List (Int × Int))} {sq : Int × Int} {pq : (Nat × Nat) × (Nat × Nat)} {he th : P2} (B : BagG K CG G g1 g2 DP ps un rows sq pq he th) : ∀ p ∈ pairsZ rows, (p.1.1 < 10 ∧ p.1.2 < 10) ∧ (p.2.1 < 10 ∧ p.2.2 < 10) := fun p hp => by
  obtain ⟨h1, h2, _⟩ := pair_keys hp
  have six := B.six
  have k : ∀ q ∈ keysZ rows, q.1 < 10 ∧ q.2 < 10 := fun q hq => by
    obtain ⟨a, b⟩ := keysZ_mem rows hq
    have := B.ten _ (key_row hq)
    omega
  exact ⟨k _ h1, k _ h2⟩
theorem sm_toI {p : Nat × Nat} (h : p.1 < 10 ∧ p.2 < 10) : Sm 1800 (toI p) := by
  have e : (2 : Nat) ^ 10 ≤ 2 ^ 1800 := Nat.pow_le_pow_right (by decide) (by decide)
  refine ⟨Nat.lt_of_lt_of_le ?_ e, Nat.lt_of_lt_of_le ?_ e⟩
  · show ((p.1 : Nat) : Int).natAbs < 2 ^ 10
    omega
  · show ((p.2 : Nat) : Int).natAbs < 2 ^ 10
    omega
theorem repr_gapT {H : Hp} {un : Int} {rows : List (List (Int × Int))} {sq : Int × Int} {pq : (Nat × Nat) × (Nat × Nat)} {he th : P2} {t : Addr} {a1 a2 a3 a4 a5 : V} {Q : VK} (ht : SqT K H t [a1, a2, a3, a4, a5]) (g1 : Pr K H a1 sq) (g2 : Pr K H a2 (toI pq.1)) (g3 : Pr K H a3 (toI pq.2)) (g4 : PP K H a4 he) (g5 : PP K H a5 th) (z : GapZ un rows sq pq he th) (nm : ∀ p ∈ pairsZ rows, (p.1.1 < 10 ∧ p.1.2 < 10) ∧ (p.2.1 < 10 ∧ p.2.2 < 10)) (r : Q (.str (dGap sq (toI pq.1) (toI pq.2) he th).shown) H) : rRepr K [.ref t] H Q := by
  have m := nm _ z.mem
  have np : ∀ {p : P2}, SmP 400 p → Nice 2 9000 (dPPI p) := fun {p} h => (Nice.tuple (n := 1) (m := 4000) (k := 2) (fun d hd => by
    simp only [List.mem_cons, List.not_mem_nil, or_false] at hd
    rcases hd with rfl | rfl
    · exact nice_prI (h.1.up (by decide))
    · exact nice_prI (h.2.up (by decide))) (Nat.le_refl _)).up (by decide) (by decide)
  have n : Nice 3 45014 (dGap sq (toI pq.1) (toI pq.2) he th) := Nice.tuple (n := 2) (m := 9000) (k := 5) (fun d hd => by
    simp only [List.mem_cons, List.not_mem_nil, or_false] at hd
    rcases hd with rfl | rfl | rfl | rfl | rfl
    · exact (nice_prI (z.ms.up (by decide))).up (by decide) (by decide)
    · exact (nice_prI (sm_toI m.1)).up (by decide) (by decide)
    · exact (nice_prI (sm_toI m.2)).up (by decide) (by decide)
    · exact np z.mh
    · exact np z.mt) (Nat.le_refl _)
  exact ⟨t, _, rfl, dp_gapT ht g1 g2 g3 g4 g5, n.sh, n.nd, Nat.le_trans n.dp (by decide), Nat.le_trans n.ln (by decide), r⟩
theorem if_txtG {s t : Str} {A B : Prop} (h1 : s = t → A) (h2 : s ≠ t → B) : if V.str s = V.str t then A else B := by
  by_cases c : s = t
  · rw [if_pos (by rw [c])]; exact h1 c
  · rw [if_neg (fun z => c (V.str.inj z))]; exact h2 c
theorem keys_nodup (rows : List (List (Int × Int))) : (keysZ rows).Nodup := by
  unfold keysZ keysT
  refine List.pairwise_flatMap.mpr ⟨fun f _ => ?_, ?_⟩
  · exact List.pairwise_map.mpr (List.nodup_range.imp fun h e => h (Prod.mk.inj e).2)
  · refine List.nodup_range.imp fun {f g} h x hx y hy e => ?_
    obtain ⟨i, _, rfl⟩ := List.mem_map.mp hx
    obtain ⟨j, _, rfl⟩ := List.mem_map.mp hy
    exact h (Prod.mk.inj e).1
theorem pairs_nodup (rows : List (List (Int × Int))) : (pairsZ rows).Nodup := by
  unfold pairsZ prsZ
  refine List.pairwise_flatMap.mpr ⟨fun f _ => ?_, ?_⟩
  · exact List.pairwise_map.mpr (((keys_nodup rows).filter _).imp fun h e => h (Prod.mk.inj e).2)
  · refine (keys_nodup rows).imp fun {f g} h x hx y hy e => ?_
    obtain ⟨i, _, rfl⟩ := List.mem_map.mp hx
    obtain ⟨j, _, rfl⟩ := List.mem_map.mp hy
    exact h (Prod.mk.inj e).1
theorem filter_one {α : Type} [DecidableEq α] {a : α} : ∀ {l : List α}, l.Nodup → a ∈ l → l.filter (fun x => decide (x = a)) = [a]
  | [], _, h => absurd h List.not_mem_nil
  | x :: l, nd, h => by
    have nd' := List.nodup_cons.mp nd
    by_cases c : x = a
    · subst c
      rw [List.filter_cons_of_pos (by simp)]
      have : l.filter (fun y => decide (y = x)) = [] := List.filter_eq_nil_iff.mpr fun y hy e => nd'.1 (of_decide_eq_true e ▸ hy)
      rw [this]
    · rw [List.filter_cons_of_neg (by simp [c])]
      exact filter_one nd'.2 ((List.mem_cons.mp h).resolve_left (fun e => c e.symm))
theorem tG1_ok (T : Txt K mg A) {a u D2 x g1 g2 DP : Addr} {ps : List V} {un : Int} {rows : List (List (Int × Int))} {sq : Int × Int} {pq : (Nat × Nat) × (Nat × Nat)} {he th : P2} {o1 o2 o3 o5 o8 o9 o14 o15 o16 o17 o18 o19 o20 o21 o22 o23 : Option V} {D : Ends} {G : Hp} (B : BagG K A.C_Gap G g1 g2 DP ps un rows sq pq he th)
    (q : ∀ G' v f, Same G G' → Pr K G' v f → f ∈ feetZ rows (pairsZ rows) → D.nx [some (.ref a), o1, o2, o3, some (.ref u), o5, some (.ref D2), some (.int un), o8, o9, some (.ref x), some (.ref g1), some (.ref g2), some (.ref DP), some v, o15, o16, o17, o18, o19, o20, o21, o22, o23] G') : tG1 K A D [some (.ref a), o1, o2, o3, some (.ref u), o5, some (.ref D2), some (.int un), o8, o9, some (.ref x), some (.ref g1), some (.ref g2), some (.ref DP), o14, o15, o16, o17, o18, o19, o20, o21, o22, o23] G := by
  unfold tG1
  walk_at "vc"
  have l0 : 0 < (pairsZ rows).length := List.length_pos_of_mem B.z.mem
  have lp := B.hv.1
  obtain ⟨v0, hv0, t0, x1, x2, x3, x4, rfl, h0, _, h2, _, h4⟩ := B.hv.at (i := 0) (x := (pairsZ rows)[0]) (List.getElem?_eq_getElem l0)
  have m0 : (pairsZ rows)[0] ∈ pairsZ rows := List.getElem_mem l0
  have k1 := key_ok B.ok (pair_keys m0).1
  have k2 := key_ok B.ok (pair_keys m0).2.1
  refine ixL (sl_of B.hps) (atI_nat (j := 0) hv0) (ixT h0 rfl (ixL (sl_of B.hps) (atI_nat (j := 0) hv0) (ixT h0 rfl ?_)))
  exact ⟨_, _, _, _, rfl, h2, h4, k1.z1, k1.z2, k2.z1, k2.z2, k1.ne, k2.ne, fun G' r f s hr lf => q G' _ f s ⟨r, rfl, hr⟩ (List.mem_flatMap.mpr ⟨_, m0, lf.1⟩)⟩
theorem tG2_ok (T : Txt K mg A) {a u D2 x g1 g2 DP : Addr} {ps : List V} {un : Int} {rows : List (List (Int × Int))} {sq : Int × Int} {pq : (Nat × Nat) × (Nat × Nat)} {he th : P2} {o1 o2 o3 o5 o8 o9 o15 o16 o17 o18 o19 o20 o21 o22 o23 : Option V} {D : Ends} {G : Hp} {v : V} {f : Int × Int} (B : BagG K A.C_Gap G g1 g2 DP ps un rows sq pq he th) (hv : Pr K G v f) (hf : f ∈ feetZ rows (pairsZ rows))
    (q : ∀ G' v f p15 p16 p17 p18 p19, Same G G' → Pr K G' v f → LeastF (feetZ rows (pairsZ rows)) f → D.nx [some (.ref a), o1, o2, o3, some (.ref u), o5, some (.ref D2), some (.int un), o8, o9, some (.ref x), some (.ref g1), some (.ref g2), some (.ref DP), some v, p15, p16, p17, p18, p19, o20, o21, o22, o23] G') : tG2 K A D [some (.ref a), o1, o2, o3, some (.ref u), o5, some (.ref D2), some (.int un), o8, o9, some (.ref x), some (.ref g1), some (.ref g2), some (.ref DP), some v, o15, o16, o17, o18, o19, o20, o21, o22, o23] G := by
  unfold tG2
  have fok : ∀ f ∈ feetZ rows (pairsZ rows), 0 < f.2 ∧ SmF f := fun f hf => by
    obtain ⟨p, hp, h⟩ := List.mem_flatMap.mp hf
    exact feetP_ok B.ok hp f h
  have cm : ∀ f ∈ feetZ rows (pairsZ rows), ∀ g ∈ feetZ rows (pairsZ rows), CMulW f.1 g.2 := fun f hf g hg => wide_mul (fok f hf).2.1 (fok g hg).2.2 (by decide) (by decide) (by decide)
  refine ⟨_, rfl, DP, rfl, ⟨_, sl_of B.hps⟩, for_list (xs := ps) (fun i σ H => ∃ v f p15 p16 p17 p18 p19, σ = [some (.ref a), o1, o2, o3, some (.ref u), o5, some (.ref D2), some (.int un), o8, o9, some (.ref x), some (.ref g1), some (.ref g2), some (.ref DP), some v, p15, p16, p17, p18, p19, o20, o21, o22, o23] ∧ Same G H ∧ Pr K H v f ∧ f ∈ feetZ rows (pairsZ rows) ∧ ∀ g ∈ feetZ rows ((pairsZ rows).take i), f.1 * g.2 ≤ g.1 * f.2) ?_ ?_ ?_ ?_⟩
  · exact ⟨v, f, _, _, _, _, _, rfl, Same.refl _, hv, hf, fun g hg => by simp [feetZ] at hg⟩
  · rintro i σ H _ ⟨_, _, _, _, _, _, _, rfl, s, _⟩
    exact sl_of (s _ _ B.hps)
  · rintro i x σ H hx ⟨v, f, p15, p16, p17, p18, p19, rfl, s, hv, hf, hl⟩
    obtain ⟨p, hp, t0, x1, x2, x3, x4, rfl, h0, h1, h2, h3, h4⟩ := (B.same s).hv.of hx
    have mp := List.mem_of_getElem? hp
    have k1 := key_ok B.ok (pair_keys mp).1
    have k2 := key_ok B.ok (pair_keys mp).2.1
    walk_at "vc"
    refine ⟨_, h0, rfl, _, _, rfl, _, _, rfl, _, _, rfl, _, _, rfl, rfl, ?_⟩
    refine ⟨_, _, _, _, rfl, h2, h4, k1.z1, k1.z2, k2.z1, k2.z2, k1.ne, k2.ne, fun H2 r e s2 hr le => ?_⟩
    have me : e ∈ feetZ rows (pairsZ rows) := List.mem_flatMap.mpr ⟨_, mp, le.1⟩
    obtain ⟨b, rfl, hb⟩ := hv.same s2
    refine ixT hr rfl (ixT hb rfl ⟨_, rfl, _, rfl, cm e me f hf, ixT hb rfl (ixT hr rfl ⟨_, rfl, _, rfl, cm f hf e me, ?_⟩)⟩)
    have grow : ∀ h : Int × Int, h ∈ feetZ rows (pairsZ rows) → (h.1 * f.2 ≤ f.1 * h.2) → (h.1 * e.2 ≤ e.1 * h.2) → ∀ g ∈ feetZ rows ((pairsZ rows).take (i + 1)), h.1 * g.2 ≤ g.1 * h.2 := by
      intro h mh h1 h2 g hg
      unfold feetZ at hg
      rw [List.take_add_one, hp, List.flatMap_append] at hg
      rcases List.mem_append.mp hg with hg | hg
      · obtain ⟨p', hp', hg'⟩ := List.mem_flatMap.mp hg
        have mg : g ∈ feetZ rows (pairsZ rows) := List.mem_flatMap.mpr ⟨p', List.mem_of_mem_take hp', hg'⟩
        exact least_trans (fok h mh).1 (fok f hf).1 (fok g mg).1 h1 (hl g hg)
      · have hg : g ∈ feetP rows p := by simpa using hg
        have mg : g ∈ feetZ rows (pairsZ rows) := List.mem_flatMap.mpr ⟨p, mp, hg⟩
        exact least_trans (fok h mh).1 (fok e me).1 (fok g mg).1 h2 (le.2 g hg)
    by_cases c : e.1 * f.2 < f.1 * e.2
    · rw [if_pos c]
      exact ⟨s.trans s2, e, ⟨r, rfl, hr⟩, me, grow e me (Int.le_of_lt c) (Int.le_refl _)⟩
    · rw [if_neg c]
      exact ⟨s.trans s2, f, ⟨b, rfl, hb⟩, hf, grow f hf (Int.le_refl _) (Int.not_lt.mp c)⟩
  · rintro σ H ⟨v, f, p15, p16, p17, p18, p19, rfl, s, hv, hf, hl⟩
    refine q H v f p15 p16 p17 p18 p19 s hv ⟨hf, ?_⟩
    rw [B.hv.1, List.take_length] at hl
    exact hl

theorem tG3_ok (T : Txt K mg A) {a u D2 x g1 g2 DP : Addr} {ps : List V} {un : Int} {rows : List (List (Int × Int))} {sq : Int × Int} {pq : (Nat × Nat) × (Nat × Nat)} {he th : P2} {o1 o2 o3 o5 o8 o9 o15 o16 o17 o18 o19 o20 o21 o22 o23 : Option V} {D : Ends} {G : Hp} {v : V} {f : Int × Int} (B : BagG K A.C_Gap G g1 g2 DP ps un rows sq pq he th) (hv : Pr K G v f) (hf : LeastF (feetZ rows (pairsZ rows)) f)
    (q : ∀ G' v20, Same G G' → Pr K G' v20 sq → D.nx [some (.ref a), o1, o2, o3, some (.ref u), o5, some (.ref D2), some (.int un), o8, o9, some (.ref x), some (.ref g1), some (.ref g2), some (.ref DP), some v, o15, o16, o17, o18, o19, some v20, o21, o22, o23] G') : tG3 K A D [some (.ref a), o1, o2, o3, some (.ref u), o5, some (.ref D2), some (.int un), o8, o9, some (.ref x), some (.ref g1), some (.ref g2), some (.ref DP), some v, o15, o16, o17, o18, o19, o20, o21, o22, o23] G := by
  unfold tG3
  walk_at "vc"
  obtain ⟨b, rfl, hb⟩ := id hv
  obtain ⟨p, hp, h⟩ := List.mem_flatMap.mp hf.1
  have fo := feetP_ok B.ok hp f h
  have u1 := B.ok.un1
  have u0 := B.ok.un0
  have un10 : un.natAbs < 2 ^ 10 := by omega
  have m1 : (f.2 * un).natAbs < 2 ^ 5010 := wide_lt fo.2.2 un10
  have m2 : (f.2 * un * un).natAbs < 2 ^ 5020 := wide_lt m1 un10
  refine ixT hb rfl (ixT hb rfl ⟨_, rfl, wide_mul fo.2.2 un10 (by decide) (by decide) (by decide), wide_mul m1 un10 (by decide) (by decide) (by decide), _, _, rfl, Int.mul_pos (Int.mul_pos fo.1 u0) u0, Nat.lt_of_lt_of_le m2 (Nat.pow_le_pow_right (by decide) (by decide)), fun G' r s hr => ?_⟩)
  rw [B.z.sq f hf] at hr
  exact q G' _ s ⟨r, rfl, hr⟩
theorem tG4_ok (T : Txt K mg A) {a u D2 x g1 g2 DP : Addr} {ps : List V} {un : Int} {rows : List (List (Int × Int))} {sq : Int × Int} {pq : (Nat × Nat) × (Nat × Nat)} {he th : P2} {o1 o2 o3 o5 o8 o9 o14 o15 o16 o17 o18 o19 o21 o22 o23 : Option V} {D : Ends} {G : Hp} {v20 : V} (B : BagG K A.C_Gap G g1 g2 DP ps un rows sq pq he th) (hv : Pr K G v20 sq)
    (q : ∀ G', Same G G' → D.nx [some (.ref a), o1, o2, o3, some (.ref u), o5, some (.ref D2), some (.int un), o8, o9, some (.ref x), some (.ref g1), some (.ref g2), some (.ref DP), o14, o15, o16, o17, o18, o19, some v20, o21, o22, o23] G') : tG4 K A D [some (.ref a), o1, o2, o3, some (.ref u), o5, some (.ref D2), some (.int un), o8, o9, some (.ref x), some (.ref g1), some (.ref g2), some (.ref DP), o14, o15, o16, o17, o18, o19, some v20, o21, o22, o23] G := by
  unfold tG4
  obtain ⟨dx, fs, t, a1, a2, a3, a4, a5, h1, h2, h3, h4, f1, f2, f3, f4, f5, k1, k2, k3, k4, k5⟩ := id B.a1
  walk_at "vc"
  refine ⟨.ref g1, .ref A.C_Gap, _, _, true, rfl, .own _, .base (.ins h1 T.is_Gap.cl T.is_Gap.ha T.is_Gap.hn T.is_Gap.htk T.is_Gap.hm), T.ki_Gap_Gap, true, rfl, ?_⟩
  rw [if_neg (by decide)]
  simp only [tFld]
  walk_at "vc"
  refine ⟨A.C_Gap, dx, fs, h1, T.cl_Gap, T.no_Gap_word, _, h2, rfl, ?_⟩
  rw [if_neg (fun z => z rfl)]
  refine ⟨g1, dx, fs, rfl, h1, g1, rfl, true, rfl, true, rfl, ?_⟩
  rw [if_neg (by decide)]
  have m18 : Sm 1800 sq := B.z.ms.up (by decide)
  refine ⟨A.C_Gap, dx, fs, h1, T.cl_Gap, T.no_Gap_squared, _, f1, repr_prG k1 m18 (repr_prG hv m18 ⟨rfl, ?_⟩)⟩
  rw [if_neg (fun z => z rfl)]
  obtain ⟨dy, gs, t', _, _, _, _, _, j1, _⟩ := id B.a2
  refine ⟨g1, dx, fs, _, rfl, h1, .inl ⟨g2, dy, gs, rfl, j1, rfl⟩, g1, g2, _, _, _, _, _, rfl, B.a1, B.a2, fun H' s' => ⟨true, rfl, _, rfl, ?_⟩⟩
  rw [if_neg (by decide)]
  exact q H' s'
theorem tG5_ok (T : Txt K mg A) {a u D2 x g1 g2 DP : Addr} {ps : List V} {un : Int} {rows : List (List (Int × Int))} {sq : Int × Int} {pq : (Nat × Nat) × (Nat × Nat)} {he th : P2} {o1 o2 o3 o5 o8 o9 o14 o15 o16 o17 o18 o19 o21 o22 o23 : Option V} {D : Ends} {G : Hp} {v20 : V} (B : BagG K A.C_Gap G g1 g2 DP ps un rows sq pq he th)
    (q : ∀ G', Same G G' → D.nx [some (.ref a), o1, o2, o3, some (.ref u), o5, some (.ref D2), some (.int un), o8, o9, some (.ref x), some (.ref g1), some (.ref g2), some (.ref DP), o14, o15, o16, o17, o18, o19, some v20, o21, o22, o23] G') : tG5 K A D [some (.ref a), o1, o2, o3, some (.ref u), o5, some (.ref D2), some (.int un), o8, o9, some (.ref x), some (.ref g1), some (.ref g2), some (.ref DP), o14, o15, o16, o17, o18, o19, some v20, o21, o22, o23] G := by
  unfold tG5
  obtain ⟨dx, fs, t, a1, a2, a3, a4, a5, h1, h2, h3, h4, f1, f2, f3, f4, f5, k1, k2, k3, k4, k5⟩ := id B.a1
  walk_at "vc"
  simp only [tFld]
  walk_at "vc"
  have nm := B.nums
  refine ⟨A.C_Gap, dx, fs, h1, T.cl_Gap, T.no_Gap_parts, _, h3, repr_gapT h4 k1 k2 k3 k4 k5 B.z nm ?_⟩
  refine ⟨A.C_Gap, dx, fs, h1, T.cl_Gap, T.no_Gap_squared, _, f1, A.C_Gap, dx, fs, h1, T.cl_Gap, T.no_Gap_one, _, f2, A.C_Gap, dx, fs, h1, T.cl_Gap, T.no_Gap_other, _, f3, A.C_Gap, dx, fs, h1, T.cl_Gap, T.no_Gap_here, _, f4, A.C_Gap, dx, fs, h1, T.cl_Gap, T.no_Gap_there, _, f5, by decide, fun p hp => ?_⟩
  have s := same_upd (o := .tup [a1, a2, a3, a4, a5]) hp
  refine repr_gapT (st_of upd_same) (k1.same s) (k2.same s) (k3.same s) (k4.same s) (k5.same s) B.z nm ⟨rfl, ?_⟩
  rw [if_neg (fun z => z rfl)]
  exact q _ s

theorem tG6_ok (T : Txt K mg A) {a u D2 x g1 g2 DP : Addr} {ps : List V} {un : Int} {rows : List (List (Int × Int))} {sq : Int × Int} {pq : (Nat × Nat) × (Nat × Nat)} {he th : P2} {o1 o2 o3 o5 o8 o9 o14 o15 o16 o17 o18 o19 o21 o22 o23 : Option V} {D : Ends} {G : Hp} {v20 : V} (B : BagG K A.C_Gap G g1 g2 DP ps un rows sq pq he th)
    (q : ∀ G' L v, Same G G' → G' L = some (.lst [v]) → PSd K rows G' v pq → D.nx [some (.ref a), o1, o2, o3, some (.ref u), o5, some (.ref D2), some (.int un), o8, o9, some (.ref x), some (.ref g1), some (.ref g2), some (.ref DP), o14, o15, o16, o17, o18, o19, some v20, some (.ref L), o22, o23] G') : tG6 K A D [some (.ref a), o1, o2, o3, some (.ref u), o5, some (.ref D2), some (.int un), o8, o9, some (.ref x), some (.ref g1), some (.ref g2), some (.ref DP), o14, o15, o16, o17, o18, o19, some v20, o21, o22, o23] G := by
  unfold tG6
  obtain ⟨dx, fs, t, a1, a2, a3, a4, a5, h1, h2, h3, h4, f1, f2, f3, f4, f5, k1, k2, k3, k4, k5⟩ := id B.a1
  have nd := pairs_nodup rows
  have nm := B.nums
  have m0 := nm _ B.z.mem
  refine ⟨_, rfl, DP, rfl, ⟨_, sl_of B.hps⟩, fun D1 hD1 => ?_⟩
  have sD := same_upd (o := .lst []) hD1
  refine lc_list (xs := ps) (fun k H2 => Same G H2 ∧ ∃ acc, H2 D1 = some (.lst acc) ∧ Each (PSd K rows H2) acc (((pairsZ rows).take k).filter fun p => decide (p = pq))) ⟨sD, _, upd_same, rfl, fun k v x e => by simp at e⟩ (fun k H2 _ h => sl_of (h.1 _ _ B.hps)) ?_ ?_
  · rintro k v H2 hx ⟨s2, acc, e3, ea⟩
    obtain ⟨p, hp, hv⟩ := (B.same s2).hv.of hx
    obtain ⟨t0, x1, x2, x3, x4, rfl, h0, g1', g2', g3', g4'⟩ := id hv
    have mp := List.mem_of_getElem? hp
    have mm := nm _ mp
    refine ⟨rfl, ?_⟩
    simp only [wipe, List.foldl, List.set]
    walk_at "vc"
    simp only [tFld]
    walk_at "vc"
    have rep : ∀ {H : Hp} {b : Addr} {y1 y2 : V} {p : (Nat × Nat) × (Nat × Nat)} {Q : VK}, SqT K H b [y1, y2] → NumV K H y1 p.1 → NumV K H y2 p.2 → ((p.1.1 < 10 ∧ p.1.2 < 10) ∧ (p.2.1 < 10 ∧ p.2.2 < 10)) → Q (.str (dNum p).shown) H → rRepr K [.ref b] H Q := by
      intro H b y1 y2 p Q hb e1 e2 m r
      have n : Nice 2 8008 (dNum p) := Nice.tuple (n := 1) (m := 4000) (k := 2) (fun d hd => by
        simp only [List.mem_cons, List.not_mem_nil, or_false] at hd
        rcases hd with rfl | rfl
        · exact nice_prI (sm_toI m.1)
        · exact nice_prI (sm_toI m.2)) (Nat.le_refl _)
      exact ⟨b, _, rfl, .tup hb (.cons (dp_prI (num_pr e1)) (.cons (dp_prI (num_pr e2)) .nil)), n.sh, n.nd, Nat.le_trans n.dp (by decide), Nat.le_trans n.ln (by decide), r⟩
    refine ixT h0 rfl (ixT h0 rfl ⟨by decide, fun b hb => ?_⟩)
    have sb := same_upd (o := .tup [x1, x3]) hb
    refine rep (st_of upd_same) (g1'.same sb) (g3'.same sb) mm ?_
    have s3 := s2.trans sb
    refine ⟨A.C_Gap, dx, fs, s3 _ _ h1, T.cl_Gap, T.no_Gap_one, _, f2, A.C_Gap, dx, fs, s3 _ _ h1, T.cl_Gap, T.no_Gap_other, _, f3, by decide, fun b2 hb2 => ?_⟩
    have sb2 := same_upd (o := .tup [a2, a3]) hb2
    have s4 := s3.trans sb2
    refine rep (p := pq) (st_of upd_same) (k2.same s4) (k3.same s4) m0 ⟨rfl, ?_⟩
    have e4 := (sb.trans sb2) _ _ e3
    have ea4 : Each (PSd K rows _) acc (((pairsZ rows).take k).filter fun p => decide (p = pq)) := ea.imp fun v x h => PSd.same (sb.trans sb2) h
    have la : acc.length < sizeLine := by
      have b1 := ea.1
      have b2 := List.length_filter_le (fun p => decide (p = pq)) ((pairsZ rows).take k)
      have b3 := List.length_take_le' k (pairsZ rows)
      have b4 := B.hv.1
      have b5 := B.len
      exact Nat.lt_of_lt_of_le (show _ < 5000 by omega) (by decide)
    have inj : (dNum p).shown = (dNum pq).shown → p = pq := fun c => txN_inj mm.1.1 mm.1.2 mm.2.1 mm.2.2 m0.1.1 m0.1.2 m0.2.1 m0.2.2 c
    have back : p = pq → (dNum p).shown = (dNum pq).shown := fun z => by rw [z]
    revert inj back
    generalize (dNum p).shown = tp
    generalize (dNum pq).shown = tq
    intro inj back
    refine if_txtG (fun c => ?_) fun c => ?_
    · have c : p = pq := inj c
      refine ⟨acc, e4, la, fun c o ec => ?_, _, upd_same, ?_⟩
      · rw [upd_ne (ne_of_none ec hD1)]
        exact s4 _ _ ec
      · rw [List.take_add_one, hp, Option.toList, List.filter_append, show [p].filter (fun p => decide (p = pq)) = [p] from by simp [c]]
        exact each_snoc (ea4.imp fun v x h => PSd.keep e4 h) (PSd.keep e4 (PSd.same (sb.trans sb2) hv))
    · have c : p ≠ pq := fun z => c (back z)
      refine ⟨s4, acc, e4, ?_⟩
      rw [List.take_add_one, hp, Option.toList, List.filter_append, show [p].filter (fun p => decide (p = pq)) = [] from by simp [c], List.append_nil]
      exact ea4
  · rintro H2 ⟨s2, acc, e3, ea⟩
    rw [B.hv.1, List.take_length, filter_one nd B.z.mem] at ea
    match acc, ea with
    | [v], ea => exact q H2 D1 v s2 e3 (ea.2 0 _ _ rfl rfl)

theorem tG7_ok (T : Txt K mg A) {a u D2 x g1 g2 DP : Addr} {ps : List V} {un : Int} {rows : List (List (Int × Int))} {sq : Int × Int} {pq : (Nat × Nat) × (Nat × Nat)} {he th : P2} {o1 o2 o3 o5 o8 o9 o14 o15 o16 o17 o18 o19 o22 o23 : Option V} {D : Ends} {G : Hp} {v20 v : V} {L : Addr} (B : BagG K A.C_Gap G g1 g2 DP ps un rows sq pq he th) (hL : G L = some (.lst [v])) (hv : PSd K rows G v pq)
    (q : ∀ G', Same G G' → D.nx [some (.ref a), o1, o2, o3, some (.ref u), o5, some (.ref D2), some (.int un), o8, o9, some (.ref x), some (.ref g1), some (.ref g2), some (.ref DP), o14, o15, o16, o17, o18, o19, some v20, some (.ref L), o22, o23] G') : tG7 K A D [some (.ref a), o1, o2, o3, some (.ref u), o5, some (.ref D2), some (.int un), o8, o9, some (.ref x), some (.ref g1), some (.ref g2), some (.ref DP), o14, o15, o16, o17, o18, o19, some v20, some (.ref L), o22, o23] G := by
  unfold tG7
  obtain ⟨dx, fs, t, a1, a2, a3, a4, a5, h1, h2, h3, h4, f1, f2, f3, f4, f5, k1, k2, k3, k4, k5⟩ := id B.a1
  obtain ⟨t0, x1, x2, x3, x4, rfl, h0, g1', g2', g3', g4'⟩ := id hv
  have o1 := key_ok B.ok (pair_keys B.z.mem).1
  have o2 := key_ok B.ok (pair_keys B.z.mem).2.1
  have u1 := B.ok.un1
  have u0 := B.ok.un0
  have un100 : un.natAbs < 2 ^ 100 := Nat.lt_of_lt_of_le (show un.natAbs < 2 ^ 10 by omega) (Nat.pow_le_pow_right (by decide) (by decide))
  unfold rLenG
  walk_at "vc"
  simp only [tFld]
  walk_at "vc"
  refine ⟨_, .inl (sl_of hL), rfl, ?_⟩
  rw [if_neg (fun z => z rfl)]
  refine ⟨A.C_Gap, dx, fs, h1, T.cl_Gap, T.no_Gap_here, _, f4, ixL (sl_of hL) rfl (ixT h0 rfl ⟨_, _, _, _, _, rfl, k4, g2', B.z.ch, B.z.mh, o1.a1, o1.a2, un100, fun H1 s1 => ⟨_, rfl, ?_⟩⟩)⟩
  rw [B.z.lie1, if_neg (by decide)]
  refine ⟨A.C_Gap, dx, fs, s1 _ _ h1, T.cl_Gap, T.no_Gap_there, _, f5, ixL (sl_of (s1 _ _ hL)) rfl (ixT (same_tup s1 h0) rfl ⟨_, _, _, _, _, rfl, k5.same s1, g4'.same s1, B.z.ct, B.z.mt, o2.a1, o2.a2, un100, fun H2 s2 => ⟨_, rfl, ?_⟩⟩)⟩
  rw [B.z.lie2, if_neg (by decide)]
  exact q H2 (s1.trans s2)
theorem tG8_ok (T : Txt K mg A) {a u D2 x g1 g2 DP : Addr} {ps : List V} {un : Int} {rows : List (List (Int × Int))} {sq : Int × Int} {pq : (Nat × Nat) × (Nat × Nat)} {he th : P2} {o1 o2 o3 o5 o8 o9 o14 o15 o16 o17 o18 o19 o22 o23 : Option V} {D : Ends} {G : Hp} {v20 : V} {L : Addr} (B : BagG K A.C_Gap G g1 g2 DP ps un rows sq pq he th) (hv : Pr K G v20 sq)
    (q : ∀ G', Same G G' → D.nx [some (.ref a), o1, o2, o3, some (.ref u), o5, some (.ref D2), some (.int un), o8, o9, some (.ref x), some (.ref g1), some (.ref g2), some (.ref DP), o14, o15, o16, o17, o18, o19, some v20, some (.ref L), o22, o23] G') : tG8 K A D [some (.ref a), o1, o2, o3, some (.ref u), o5, some (.ref D2), some (.int un), o8, o9, some (.ref x), some (.ref g1), some (.ref g2), some (.ref DP), o14, o15, o16, o17, o18, o19, some v20, some (.ref L), o22, o23] G := by
  unfold tG8
  obtain ⟨dx, fs, t, a1, a2, a3, a4, a5, h1, h2, h3, h4, f1, f2, f3, f4, f5, k1, k2, k3, k4, k5⟩ := id B.a1
  have m18 : Sm 1800 sq := B.z.ms.up (by decide)
  walk_at "vc"
  simp only [tFld]
  walk_at "vc"
  refine ⟨A.C_Gap, dx, fs, h1, T.cl_Gap, T.no_Gap_here, _, f4, A.C_Gap, dx, fs, h1, T.cl_Gap, T.no_Gap_there, _, f5, _, _, _, _, rfl, k4, k5, B.z.ch, B.z.ct, B.z.mh, B.z.mt, fun H1 r s1 hr => ?_⟩
  rw [B.z.apt] at hr
  refine repr_prG ⟨r, rfl, hr⟩ m18 (repr_prG (hv.same s1) m18 ⟨rfl, ?_⟩)
  rw [if_neg (fun z => z rfl)]
  exact q H1 s1
theorem restG_ok (T : Txt K mg A) {a u D2 x g1 g2 DP : Addr} {ps : List V} {un : Int} {rows : List (List (Int × Int))} {sq : Int × Int} {pq : (Nat × Nat) × (Nat × Nat)} {he th : P2} {o1 o2 o3 o5 o8 o9 o14 o15 o16 o17 o18 o19 o20 o21 o22 o23 : Option V} {D : Ends} {G : Hp} (B : BagG K A.C_Gap G g1 g2 DP ps un rows sq pq he th)
    (q : ∀ G' p14 p15 p16 p17 p18 p19 p20 p21, Same G G' → D.nx [some (.ref a), o1, o2, o3, some (.ref u), o5, some (.ref D2), some (.int un), o8, o9, some (.ref x), some (.ref g1), some (.ref g2), some (.ref DP), p14, p15, p16, p17, p18, p19, p20, p21, o22, o23] G') : tGRest K A D [some (.ref a), o1, o2, o3, some (.ref u), o5, some (.ref D2), some (.int un), o8, o9, some (.ref x), some (.ref g1), some (.ref g2), some (.ref DP), o14, o15, o16, o17, o18, o19, o20, o21, o22, o23] G := by
  unfold tGRest
  refine seq_by fun N hN => tG1_ok T B fun G1 v f s1 hv hf => ?_
  show N _ _
  subst hN
  have B1 := B.same s1
  refine seq_by fun N hN => tG2_ok T B1 hv hf fun G2 v f p15 p16 p17 p18 p19 s2 hv hf => ?_
  show N _ _
  subst hN
  have B2 := B1.same s2
  refine seq_by fun N hN => tG3_ok T B2 hv hf fun G3 v20 s3 hv3 => ?_
  show N _ _
  subst hN
  have B3 := B2.same s3
  refine seq_by fun N hN => tG4_ok T B3 hv3 fun G4 s4 => ?_
  show N _ _
  subst hN
  have B4 := B3.same s4
  refine seq_by fun N hN => tG5_ok T B4 fun G5 s5 => ?_
  show N _ _
  subst hN
  have B5 := B4.same s5
  refine seq_by fun N hN => tG6_ok T B5 fun G6 L v6 s6 hL hv6 => ?_
  show N _ _
  subst hN
  have B6 := B5.same s6
  refine seq_by fun N hN => tG7_ok T B6 hL hv6 fun G7 s7 => ?_
  show N _ _
  subst hN
  have s47 := ((s4.trans s5).trans s6).trans s7
  refine tG8_ok T (B6.same s7) (hv3.same s47) fun G8 s8 => q _ _ _ _ _ _ _ _ _ ((((s1.trans s2).trans s3).trans s47).trans s8)

end
end Odd
namespace Odd
open PySem PySem.Spec PyProof.Rows L2
local macro_rules | `(tactic| walk_at "vc") => `(tactic| simp only [tSeq, tAsg, gName, tCB, tCons, tNil, tVar, tC, tOp, tUn, rI0, rI, rU, tTup, tLst, tIfS, tTest, tB, tRet, tNext, rGcd, L2.start, List.map, List.set, List.replicate, List.cons_append, List.nil_append, List.length_cons, List.length_nil, List.getElem?_cons_succ, List.getElem?_cons_zero, Option.some.injEq, exists_eq_left', exists_eq_left, List.append_nil, List.cons.injEq, V.int.injEq, exists_and_left, and_true, true_and, and_assoc, exists_const, V.bl.injEq, V.ref.injEq, Nat.sub_self, Nat.reduceAdd, Nat.reduceSub, List.replicate_succ, List.replicate_zero, tAnd, tOr, tNot, tAndV, tOrV, tNotV, tIf, tCall, tCallK, tDrop, rEq, rNe, decide_eq_true_eq, Bool.not_eq_true', decide_eq_false_iff_not, Bool.false_eq_true, if_true, if_false, reduceIte, reduceCtorEq, tMkLow, tRaiseLow, rIsB, rNotB, tBreak, tPar, gSub, rSetL, tChain, gTup, gCons, gNil, gSeq, cx_K, cx_Kn, optV, V.str.injEq, Bool.not_true, Bool.not_false, false_and, and_false, or_false, false_or, exists_false, tCallN, tCallS, tPairs])
section
variable {w : World} {K : PySem.W.Frag} {mg : Str → Option Value} {base : Heap} {A : Ads}
theorem kb_gap (T : Txt K mg A) : KBn K A.d_gap ["lot"] 0 ["lot"] (fun _ ws => ws) (fun _ zs => zs) := fun_kb T.gap.F fun _ _ _ _ _ _ ws hl => match ws, hl with | [_], _ => rfl
def leanZ (l b : Int) (p : Int × Int) : Int × Int := (p.1 + l * p.2, p.2 + b * (p.1 + l * p.2))
def bigZ (p : Int × Int) : Int × Int := (p.1 * 10 ^ (9 : Int).toNat + 4 * p.2, p.2 * 10 ^ (9 : Int).toNat - p.1)
/-- what gap tells of a lot -/
def ToldV (K : PySem.W.Frag) (CG : Addr) (un : Int) (rows : List (List (Int × Int))) (H : Hp) (v : V) : Prop :=
  (gapC un rows = none ∧ (∀ c, ¬ IsC (fcs un rows) c) ∧ v = .non) ∨ ∃ c g, gapC un rows = some c ∧ IsC (fcs un rows) c ∧ (∀ d, IsC (fcs un rows) d → leC rows c d) ∧ v = .ref g ∧
    (lexP c.one c.at' = true → GapAt K CG H g (sqC un rows c) (toI c.one) (toI c.at') (scP un (crZ' rows c.cor)) (scP (un * cD rows c) (cX rows c))) ∧
    (lexP c.one c.at' = false → GapAt K CG H g (sqC un rows c) (toI c.at') (toI c.one) (scP (un * cD rows c) (cX rows c)) (scP un (crZ' rows c.cor)))
theorem ToldV.same {CG : Addr} {un : Int} {rows : List (List (Int × Int))} {H H' : Hp} {v : V} (s : Same H H') (h : ToldV K CG un rows H v) : ToldV K CG un rows H' v := by
  rcases h with h | ⟨c, g, e, ic, le, e2, g1, g2⟩
  · exact .inl h
  · exact .inr ⟨c, g, e, ic, le, e2, fun k => (g1 k).same s, fun k => (g2 k).same s⟩
theorem gap_at {CG : Addr} {un : Int} {rows : List (List (Int × Int))} {H : Hp} {c : Cand} {g : Addr} (ga : lexP c.one c.at' = true → GapAt K CG H g (sqC un rows c) (toI c.one) (toI c.at') (scP un (crZ' rows c.cor)) (scP (un * cD rows c) (cX rows c)))
    (gb : lexP c.one c.at' = false → GapAt K CG H g (sqC un rows c) (toI c.at') (toI c.one) (scP (un * cD rows c) (cX rows c)) (scP un (crZ' rows c.cor))) : GapAt K CG H g (sqC un rows c) (toI (pqC c).1) (toI (pqC c).2) (heC un rows c) (thC un rows c) := by
  unfold pqC heC thC
  cases l : lexP c.one c.at' with
  | true => exact ga l
  | false => exact gb l
theorem keys_len {rows : List (List (Int × Int))} (h6 : rows.length ≤ 6) (ht : ∀ r ∈ rows, r.length ≤ 10) : (keysZ rows).length ≤ 60 := by
  have k : ∀ n, n ≤ rows.length → (keysT rows n).length ≤ 10 * n := fun n => by
    induction n with
    | zero => intro _; exact Nat.le_refl _
    | succ n ih =>
      intro hn
      have a := ih (by omega)
      unfold keysT at a ⊢
      rw [List.range_succ, List.flatMap_append, List.length_append]
      have b : ([n].flatMap fun f => (List.range (rows.getD f []).length).map fun i => (f, i)).length = (rows.getD n []).length := by simp
      rw [b]
      have c := ht _ (List.mem_of_getElem? (getD_some (d := []) (show n < rows.length by omega)))
      omega
  have := k rows.length (Nat.le_refl _)
  unfold keysZ
  omega
theorem pairs_len {rows : List (List (Int × Int))} (h6 : rows.length ≤ 6) (ht : ∀ r ∈ rows, r.length ≤ 10) : (pairsZ rows).length < 5000 := by
  have a := prsZ_len rows (keysZ rows)
  have b := keys_len h6 ht
  have c : (keysZ rows).length * (keysZ rows).length ≤ 60 * 60 := Nat.mul_le_mul b b
  unfold pairsZ
  omega
def spLaw (K : PySem.W.Frag) : Sp := fun vs H Q _ => ∃ (a : Addr) (ns : List Int), vs = [.ref a] ∧ SqL K H a (ns.map V.int) ∧ ns.length ≤ 63 ∧ ∀ H', Q (.bl true) H'
theorem ok_law (T : Txt K mg A) : GOk PG w K mg base CX0 13 A.f_law A.d_law ["script"] (spLaw K) := by
  refine gok T.law.F sc_law (fun vs H Q E h => ?_) (fun cdv A' outer s H vs Q E hg hr h => ?_)
  · obtain ⟨_, _, rfl, _⟩ := h; rfl
  · obtain ⟨a, ns, rfl, hS, hl, ret⟩ := h
    refine ⟨_, (pss_cons (ps_set (i := 4) sc_law.nd rfl (.inl rfl) (pe_call (ok__law_ditch T) (hr.mono (by decide)) (by rfl) T._law_ditch.g T._law_ditch.F.kp T._law_ditch.b .nil pass0 (pa_cons (pv 0) pa_nil)))
      (pss_cons (ps_for PassesOwn.never rfl (pi_range1 rfl T.n_range (pa_cons pe_int pa_nil)) (pg_name (i := 5) sc_law.nd rfl (.inl rfl)) (pss_cons (ps_asg (pe_tup (pa_cons (pe_call (ok__law_lot T) (hr.mono (by decide)) (by rfl) T._law_lot.g T._law_lot.F.kp T._law_lot.b .nil pass0 (pa_cons (pv 4) pa_nil)) (pa_cons (pe_call (ok__law_pick T) (hr.mono (by decide)) (by rfl) T._law_pick.g T._law_pick.F.kp T._law_pick.b .nil pass0 (pa_cons (pv 4) (pa_cons (pe_lst (pa_cons pe_int (pa_cons pe_int (pa_cons pe_int (pa_cons pe_int pa_nil))))) pa_nil))) pa_nil))) (pg_tup rfl (pgs_cons (pg_name (i := 6) sc_law.nd rfl (.inl rfl)) (pgs_cons (pg_name (i := 7) sc_law.nd rfl (.inr rfl)) pgs_nil))))
      (pss_cons (ps_asg (pe_tup (pa_cons (pe_call (ok__law_pick T) (hr.mono (by decide)) (by rfl) T._law_pick.g T._law_pick.F.kp T._law_pick.b .nil pass0 (pa_cons (pv 4) (pa_cons (pe_lst (pa_cons pe_int (pa_cons pe_int (pa_cons (pe_un un_neg pe_int) pa_nil)))) pa_nil))) (pa_cons (pe_call (ok__law_pick T) (hr.mono (by decide)) (by rfl) T._law_pick.g T._law_pick.F.kp T._law_pick.b .nil pass0 (pa_cons (pv 4) (pa_cons (pe_lst (pa_cons pe_int (pa_cons pe_int (pa_cons pe_int pa_nil)))) pa_nil))) pa_nil))) (pg_tup rfl (pgs_cons (pg_name (i := 8) sc_law.nd rfl (.inr rfl)) (pgs_cons (pg_name (i := 9) sc_law.nd rfl (.inr rfl)) pgs_nil))))
      (pss_cons (ps_setLc (i := 6) (own := [("row", 3)]) (g := gName 3) (tt := tYes) rfl sc_law.nd rfl rfl (sw_true rfl rfl rfl (by decide +kernel)) (pi_list (pv 6)) (blkOk_by (N := ["script", "x", "y", "row", "ditch", "turn", "rows", "under", "lean", "by", "lot", "told", "again", "pairs", "best", "one", "first", "other", "second", "each", "due", "fits", "at", "tent"]) (sc := defScope s_law) (by decide +kernel)) (fun _ _ _ _ _ => pg_name (i := 3) sc_law.nd rfl (Or.inl rfl)) (fun _ _ _ _ _ => pts_nil) (fun _ _ _ _ _ => (pe_lc (own := [("x", 1), ("y", 2)]) (g := gTup K 2 (gCons (gName 1) (gCons (gName 2) gNil))) (tt := tYes) rfl sc_law.nd ((OZ.pi_listK (K := K) rfl) (pv 3)) (blkOk_by (N := ["script", "x", "y", "row", "ditch", "turn", "rows", "under", "lean", "by", "lot", "told", "again", "pairs", "best", "one", "first", "other", "second", "each", "due", "fits", "at", "tent"]) (sc := { kind := ScopeKind.function, names := [(".0", NameKind.local), ("row", NameKind.local), ("by", NameKind.cell), ("lean", NameKind.cell)], isGenerator := false, isCoroutine := false }) (by decide +kernel)) (fun _ _ _ _ _ => OZ.pg_tupK (K := K) (n := 2) rfl rfl (pgs_cons (pg_name (i := 1) sc_law.nd rfl (Or.inl rfl)) (pgs_cons (pg_name (i := 2) sc_law.nd rfl (Or.inl rfl)) pgs_nil))) (fun _ _ _ _ _ => pts_nil) (fun _ _ _ _ _ => (pe_tup (pa_cons (pe_op op_add (pv 1) (pe_op op_mulW (pv 8) (pv 2))) (pa_cons (pe_op op_add (pv 2) (pe_op op_mulW (pv 9) (pe_op op_add (pv 1) (pe_op op_mulW (pv 8) (pv 2))))) pa_nil)))))))
      (pss_cons (ps_if (pt_cmpR op_eq (pe_call (ok__law_dig T) (hr.mono (by decide)) (by rfl) T._law_dig.g T._law_dig.F.kp T._law_dig.b .nil pass0 (pa_cons (pv 4) (pa_cons pe_int pa_nil))) pe_int (nomark _)) (pss_one (ps_setLc (i := 6) (own := [("row", 3)]) (g := gName 3) (tt := tYes) rfl sc_law.nd rfl rfl (sw_true rfl rfl rfl (by decide +kernel)) (pi_list (pv 6)) (blkOk_by (N := ["script", "x", "y", "row", "ditch", "turn", "rows", "under", "lean", "by", "lot", "told", "again", "pairs", "best", "one", "first", "other", "second", "each", "due", "fits", "at", "tent"]) (sc := defScope s_law) (by decide +kernel)) (fun _ _ _ _ _ => pg_name (i := 3) sc_law.nd rfl (Or.inl rfl)) (fun _ _ _ _ _ => pts_nil) (fun _ _ _ _ _ => (pe_lc (own := [("x", 1), ("y", 2)]) (g := gTup K 2 (gCons (gName 1) (gCons (gName 2) gNil))) (tt := tYes) rfl sc_law.nd ((OZ.pi_listK (K := K) rfl) (pv 3)) (blkOk_by (N := ["script", "x", "y", "row", "ditch", "turn", "rows", "under", "lean", "by", "lot", "told", "again", "pairs", "best", "one", "first", "other", "second", "each", "due", "fits", "at", "tent"]) (sc := { kind := ScopeKind.function, names := [(".0", NameKind.local), ("row", NameKind.local)], isGenerator := false, isCoroutine := false }) (by decide +kernel)) (fun _ _ _ _ _ => OZ.pg_tupK (K := K) (n := 2) rfl rfl (pgs_cons (pg_name (i := 1) sc_law.nd rfl (Or.inl rfl)) (pgs_cons (pg_name (i := 2) sc_law.nd rfl (Or.inl rfl)) pgs_nil))) (fun _ _ _ _ _ => pts_nil) (fun _ _ _ _ _ => (pe_tup (pa_cons (pe_op op_add (pe_op op_mulW (pv 1) (pe_op op_pow pe_int pe_int)) (pe_op op_mulW pe_int (pv 2))) (pa_cons (pe_op op_sub (pe_op op_mulW (pv 2) (pe_op op_pow pe_int pe_int)) (pv 1)) pa_nil)))))))) pss_nil)
      (pss_cons (ps_set (i := 10) sc_law.nd rfl (.inl rfl) (pe_make T.mk_Lot (ok_Lot_init T) (hr.mono (by decide)) (by rfl) T.m_Lot T.Lot_init.b .nil pass0 (pa_cons (pe_lc (own := [("row", 3)]) (g := gName 3) (tt := tYes) rfl sc_law.nd (pi_list (pv 6)) (blkOk_by (N := ["script", "x", "y", "row", "ditch", "turn", "rows", "under", "lean", "by", "lot", "told", "again", "pairs", "best", "one", "first", "other", "second", "each", "due", "fits", "at", "tent"]) (sc := defScope s_law) (by decide +kernel)) (fun _ _ _ _ _ => pg_name (i := 3) sc_law.nd rfl (Or.inl rfl)) (fun _ _ _ _ _ => pts_nil) (fun _ _ _ _ _ => (pe_make T.mk_Fence (ok_Fence_init T) (hr.mono (by decide)) (by rfl) T.m_Fence T.Fence_init.b .nil pass0 (pa_cons (pe_lc (own := [("x", 1), ("y", 2)]) (g := gTup K 2 (gCons (gName 1) (gCons (gName 2) gNil))) (tt := tYes) rfl sc_law.nd ((OZ.pi_listK (K := K) rfl) (pv 3)) (blkOk_by (N := ["script", "x", "y", "row", "ditch", "turn", "rows", "under", "lean", "by", "lot", "told", "again", "pairs", "best", "one", "first", "other", "second", "each", "due", "fits", "at", "tent"]) (sc := { kind := ScopeKind.function, names := [(".0", NameKind.local), ("row", NameKind.local), ("Fence", NameKind.globalImplicit), ("under", NameKind.cell)], isGenerator := false, isCoroutine := false }) (by decide +kernel)) (fun _ _ _ _ _ => OZ.pg_tupK (K := K) (n := 2) rfl rfl (pgs_cons (pg_name (i := 1) sc_law.nd rfl (Or.inl rfl)) (pgs_cons (pg_name (i := 2) sc_law.nd rfl (Or.inl rfl)) pgs_nil))) (fun _ _ _ _ _ => pts_nil) (fun _ _ _ _ _ => (pe_tup (pa_cons (pe_call (ok__law_low T) (hr.mono (by decide)) (by rfl) T._law_low.g T._law_low.F.kp T._law_low.b .nil pass0 (pa_cons (pv 1) (pa_cons (pv 7) pa_nil))) (pa_cons (pe_call (ok__law_low T) (hr.mono (by decide)) (by rfl) T._law_low.g T._law_low.F.kp T._law_low.b .nil pass0 (pa_cons (pv 2) (pa_cons (pv 7) pa_nil))) pa_nil))))) pa_nil)))) pa_nil)))
      (pss_cons (ps_asg (pe_tup (pa_cons (pe_call (ok_gap T) (hr.mono (by decide)) (by rfl) T.gap.g T.gap.F.kp T.gap.b .nil pass0 (pa_cons (pv 10) pa_nil)) (pa_cons (pe_callN0 (ok_gap T) (hr.mono (by decide)) (by rfl) T.gap.g T.gap.F.kp (kb_gap T) pass0 (pk_cons (pv 10) pk_nil)) (pa_cons (pe_call (ok__law_pairs T) (hr.mono (by decide)) (by rfl) T._law_pairs.g T._law_pairs.F.kp T._law_pairs.b .nil pass0 (pa_cons (pv 6) pa_nil)) pa_nil)))) (pg_tup rfl (pgs_cons (pg_name (i := 11) sc_law.nd rfl (.inr rfl)) (pgs_cons (pg_name (i := 12) sc_law.nd rfl (.inl rfl)) (pgs_cons (pg_name (i := 13) sc_law.nd rfl (.inl rfl)) pgs_nil)))))
      (pss_cons (ps_if (pt_cmpR (op_eqN (Nat.lt_of_le_of_lt (Nat.le_add_right _ 64) hr.units)) (pv 13) (pe_lst pa_nil) (nomark _)) (pss_cons (ps_if (PW.pt (pw_or (pt_cmpR op_notN (pv 11) pe_non (nomark _)) (pw_or1 (pt_cmpR op_notN (pv 12) pe_non (nomark _))))) (pss_one (ps_ret pe_bl)) pss_nil)
      (pss_one ps_continue)) pss_nil)
      (pss_cons (ps_set (i := 14) sc_law.nd rfl (.inl rfl) (pe_call (ok__law_between T) (hr.mono (by decide)) (by rfl) T._law_between.g T._law_between.F.kp T._law_between.b .nil pass0 (pa_cons (pe_ix ix_tup (pe_ix ix_list (pv 13) pe_int (fun _ _ => rfl)) pe_int (fun _ _ => rfl)) (pa_cons (pe_ix ix_tup (pe_ix ix_list (pv 13) pe_int (fun _ _ => rfl)) pe_int (fun _ _ => rfl)) pa_nil))))
      (pss_cons (ps_for PassesOwn.never rfl (pi_list (pv 13)) (pg_tup rfl (pgs_cons (pg_name (i := 15) sc_law.nd rfl (.inl rfl)) (pgs_cons (pg_name (i := 16) sc_law.nd rfl (.inl rfl)) (pgs_cons (pg_name (i := 17) sc_law.nd rfl (.inl rfl)) (pgs_cons (pg_name (i := 18) sc_law.nd rfl (.inl rfl)) pgs_nil))))) (pss_cons (ps_set (i := 19) sc_law.nd rfl (.inl rfl) (pe_call (ok__law_between T) (hr.mono (by decide)) (by rfl) T._law_between.g T._law_between.F.kp T._law_between.b .nil pass0 (pa_cons (pv 16) (pa_cons (pv 18) pa_nil))))
      (pss_one (ps_set (i := 14) sc_law.nd rfl (.inl rfl) (pe_ifExp (pt_cmpR op_lt (pe_op op_mulW (pe_ix ix_tup (pv 19) pe_int (fun _ _ => rfl)) (pe_ix ix_tup (pv 14) pe_int (fun _ _ => rfl))) (pe_op op_mulW (pe_ix ix_tup (pv 14) pe_int (fun _ _ => rfl)) (pe_ix ix_tup (pv 19) pe_int (fun _ _ => rfl))) (nomark _)) (pv 19) (pv 14))))))
      (pss_cons (ps_set (i := 20) sc_law.nd rfl (.inl rfl) (pe_call (ok__law_low T) (hr.mono (by decide)) (by rfl) T._law_low.g T._law_low.F.kp T._law_low.b .nil pass0 (pa_cons (pe_ix ix_tup (pv 14) pe_int (fun _ _ => rfl)) (pa_cons (pe_op op_mulW (pe_op op_mulW (pe_ix ix_tup (pv 14) pe_int (fun _ _ => rfl)) (pv 7)) (pv 7)) pa_nil))))
      (pss_cons (ps_if (PW.pt (pw_or (pt_not (pt_val (pe_callB call_isi (by rfl) T.n_isinstance bt_isinstance (pa_cons (pv 11) (pa_cons (pe_glob (v := .ref A.C_Gap) (by rfl) T.m_Gap rfl) pa_nil))))) (pw_or (pt_cmpR op_ne (pe_fld (pv 11) rfl) pe_str (nomark _)) (pw_or (pt_not (pt_val (pe_callTy (call_boolO T.bool_Gap T.boolT ((ok_Paper_bool T).raw T.Paper_bool.b .nil) (hr.mono (by decide))) (by rfl) T.n_bool bt_bool (pa_cons (pv 11) pa_nil)))) (pw_or (pt_cmpR op_ne (pe_callB (call_reprD hg hr.units) (by rfl) T.n_repr bt_repr (pa_cons (pe_fld (pv 11) rfl) pa_nil)) (pe_callB (call_reprD hg hr.units) (by rfl) T.n_repr bt_repr (pa_cons (pv 20) pa_nil)) (nomark _)) (pw_or1 (pt_cmpR (op_neO T.ne_Gap T.is_Gap.hm T.eq_Gap T.eqT (ok_Paper_eq T) T.Paper_eq.b (hr.mono (by decide)) pass0) (pv 11) (pv 12) (nomark _)))))))) (pss_one (ps_ret pe_bl)) pss_nil)
      (pss_cons (ps_if (pt_cmpR op_ne (pe_callB (call_reprD hg hr.units) (by rfl) T.n_repr bt_repr (pa_cons (pe_fld (pv 11) rfl) pa_nil)) (pe_callB (call_reprD hg hr.units) (by rfl) T.n_repr bt_repr (pa_cons (pe_tup (pa_cons (pe_fld (pv 11) rfl) (pa_cons (OZ.pe_fldK (K := K) rfl (pv 11) rfl) (pa_cons (OZ.pe_fldK (K := K) rfl (pv 11) rfl) (pa_cons (pe_fld (pv 11) rfl) (pa_cons (pe_fld (pv 11) rfl) pa_nil)))))) pa_nil)) (nomark _)) (pss_one (ps_ret pe_bl)) pss_nil)
      (pss_cons (ps_setLc (i := 21) (own := [("row", 3)]) (g := gName 3) rfl sc_law.nd rfl rfl (sw_true rfl rfl rfl (by decide +kernel)) (pi_list (pv 13)) (blkOk_by (N := ["script", "x", "y", "row", "ditch", "turn", "rows", "under", "lean", "by", "lot", "told", "again", "pairs", "best", "one", "first", "other", "second", "each", "due", "fits", "at", "tent"]) (sc := defScope s_law) (by decide +kernel)) (fun _ _ _ _ _ => pg_name (i := 3) sc_law.nd rfl (Or.inl rfl)) (fun _ _ _ _ _ => (pts_one (pt_cmpR op_eq (pe_callB (OZ.call_reprDK (K := K) rfl hg hr.units) (by rfl) T.n_repr bt_repr (pa_cons (pe_tup (pa_cons (pe_ix (OZ.ix_tupK (K := K) rfl) (pv 3) pe_int (fun _ _ => rfl)) (pa_cons (pe_ix (OZ.ix_tupK (K := K) rfl) (pv 3) pe_int (fun _ _ => rfl)) pa_nil))) pa_nil)) (pe_callB (OZ.call_reprDK (K := K) rfl hg hr.units) (by rfl) T.n_repr bt_repr (pa_cons (pe_tup (pa_cons (OZ.pe_fldK (K := K) rfl (pv 11) rfl) (pa_cons (OZ.pe_fldK (K := K) rfl (pv 11) rfl) pa_nil))) pa_nil)) (nomark _)))) (fun _ _ _ _ _ => (pv 3)))
      (pss_cons (ps_if (PW.pt (pw_or (pt_cmpR op_ne (pe_callB call_len_seq (by rfl) T.n_len bt_len (pa_cons (pv 21) pa_nil)) pe_int (nomark _)) (pw_or (pt_not (pt_val (pe_callG (ok__law_lies T) hg (hr.mono (by decide)) (by rfl) T._law_lies.g T._law_lies.F.kp T._law_lies.b (pa_cons (pe_fld (pv 11) rfl) (pa_cons (pe_ix ix_tup (pe_ix ix_list (pv 21) pe_int (fun _ _ => rfl)) pe_int (fun _ _ => rfl)) (pa_cons (pv 7) pa_nil)))))) (pw_or1 (pt_not (pt_val (pe_callG (ok__law_lies T) hg (hr.mono (by decide)) (by rfl) T._law_lies.g T._law_lies.F.kp T._law_lies.b (pa_cons (pe_fld (pv 11) rfl) (pa_cons (pe_ix ix_tup (pe_ix ix_list (pv 21) pe_int (fun _ _ => rfl)) pe_int (fun _ _ => rfl)) (pa_cons (pv 7) pa_nil)))))))))) (pss_one (ps_ret pe_bl)) pss_nil)
      (pss_one (ps_if (pt_cmpR op_ne (pe_callB (call_reprD hg hr.units) (by rfl) T.n_repr bt_repr (pa_cons (pe_call (ok__law_apart T) (hr.mono (by decide)) (by rfl) T._law_apart.g T._law_apart.F.kp T._law_apart.b .nil pass0 (pa_cons (pe_fld (pv 11) rfl) (pa_cons (pe_fld (pv 11) rfl) pa_nil))) pa_nil)) (pe_callB (call_reprD hg hr.units) (by rfl) T.n_repr bt_repr (pa_cons (pv 20) pa_nil)) (nomark _)) (pss_one (ps_ret pe_bl)) pss_nil)))))))))))))))))
      (pss_cons (ps_for PassesOwn.never rfl (pi_range1 rfl T.n_range (pa_cons pe_int pa_nil)) (pg_name (i := 22) sc_law.nd rfl (.inl rfl)) (pss_cons (ps_set (i := 23) sc_law.nd rfl (.inl rfl) (pe_call (ok__law_star T) (hr.mono (by decide)) (by rfl) T._law_star.g T._law_star.F.kp T._law_star.b .nil pass0 (pa_cons (pv 4) (pa_cons pe_int (pa_cons pe_int pa_nil)))))
      (pss_one (ps_if (pt_cmpR op_notN (pe_call (ok_gap T) (hr.mono (by decide)) (by rfl) T.gap.g T.gap.F.kp T.gap.b .nil pass0 (pa_cons (pe_make T.mk_Lot (ok_Lot_init T) (hr.mono (by decide)) (by rfl) T.m_Lot T.Lot_init.b .nil pass0 (pa_cons (pe_lst (pa_cons (pe_make T.mk_Fence (ok_Fence_init T) (hr.mono (by decide)) (by rfl) T.m_Fence T.Fence_init.b .nil pass0 (pa_cons (pv 23) pa_nil)) pa_nil)) pa_nil)) pa_nil)) pe_non (nomark _)) (pss_one (ps_ret pe_bl)) pss_nil))))
      (pss_one (ps_ret pe_bl))))), ?_⟩
    refine seq_by fun N hN => ?_
    walk_at "vc"
    refine ⟨a, ns, rfl, hS, hl, fun H1 u s1 hu => ?_⟩
    subst hN
    refine seq_by fun N hN => ?_
    walk_at "vc"
    refine ⟨_, rfl, by decide, by decide, for_range (n := ((2 : Int)).toNat) (fun i σ H3 => ∃ o1 o2 o3 o5 o6 o7 o8 o9 o10 o11 o12 o13 o14 o15 o16 o17 o18 o19 o20 o21 o22 o23, σ = [some (.ref a), o1, o2, o3, some (.ref u), o5, o6, o7, o8, o9, o10, o11, o12, o13, o14, o15, o16, o17, o18, o19, o20, o21, o22, o23] ∧ Urn H3 u (900000 - 2000 * i)) ?_ ?_ ?_⟩
    · exact ⟨_, _, _, _, _, _, _, _, _, _, _, _, _, _, _, _, _, _, _, _, _, _, rfl, hu.mono (by omega)⟩
    · rintro i σ H3 hi ⟨o1, o2, o3, o5, o6, o7, o8, o9, o10, o11, o12, o13, o14, o15, o16, o17, o18, o19, o20, o21, o22, o23, rfl, hu3⟩
      have hi : i < 2 := by omega
      simp only [gName, List.set]
      obtain ⟨c3, ys3, hux3⟩ := hu3.at
      refine seq_by fun N2 hN2 => ?_
      walk_at "vc"
      refine ⟨u, 900000 - 2000 * i - 1000, rfl, hu3.mono (by omega), fun H4 R vs rows b4 hu4 eR hR hrs r0 r6 pl => ?_⟩
      obtain ⟨c4, ys4, hux4⟩ := hu4.at
      have nR : R ≠ u := fun z => by rw [z, hux3] at eR; cases eR
      refine ⟨by decide, fun p hp => ?_⟩
      have s5 := same_upd (o := .lst [.int 1, .int 1, .int 6, .int 35]) hp
      have hpu : p ≠ u := fun z => by rw [z, hux4] at hp; cases hp
      refine ⟨u, p, _, 900000 - 2000 * i - 1001, rfl, hpu, upd_same, (by show 0 < 4; decide), (by show 4 < 1073741824; decide), (hu4.same s5).mono (by omega), fun H6 v b6 hu6 hv => ⟨by decide, fun p3 hp3 => ?_⟩⟩
      have hun : ∃ un : Int, v = .int un ∧ 0 < un ∧ un ≤ 35 := by
        simp only [List.mem_cons, List.not_mem_nil, or_false] at hv
        rcases hv with rfl | rfl | rfl | rfl <;> exact ⟨_, rfl, by decide, by decide⟩
      obtain ⟨un, rfl, un0, un1⟩ := hun
      have s9 := same_upd (o := .tup [.ref R, .int un]) hp3
      refine ⟨_, st_of upd_same, rfl, _, _, rfl, _, _, rfl, rfl, ?_⟩
      have B9 := ((same_but s5).trans b6).trans (same_but s9)
      have hR9 := B9.1 _ nR _ hR
      have hrs9 : Each (RowZ K [u, R] _) vs rows := hrs.imp fun v x z => z.but B9 hux4 (.head _)
      have hu9 := hu6.same s9
      have B39 := b4.trans B9
      generalize upd H6 p3 (.tup [.ref R, .int un]) = H9 at *
      clear hrs hR B9 s9 hp3 b6 hu6 hpu s5 hux4 hp b4 hu4 hv
      subst hN2
      refine seq_by fun N3 hN3 => ?_
      walk_at "vc"
      obtain ⟨c9, ys9, hux9⟩ := hu9.at
      refine ⟨by decide, fun p hp => ?_⟩
      have s5 := same_upd (o := .lst [.int 0, .int 1, .int (-2)]) hp
      have hpu : p ≠ u := fun z => by rw [z, hux9] at hp; cases hp
      refine ⟨u, p, _, 900000 - 2000 * i - 1002, rfl, hpu, upd_same, (by show 0 < 3; decide), (by show 3 < 1073741824; decide), (hu9.same s5).mono (by omega), fun H6 v b6 hu6 hv => ⟨by decide, fun p2 hp2 => ?_⟩⟩
      have hle : ∃ le : Int, v = .int le ∧ -2 ≤ le ∧ le ≤ 1 := by
        simp only [List.mem_cons, List.not_mem_nil, or_false] at hv
        rcases hv with rfl | rfl | rfl <;> exact ⟨_, rfl, by decide, by decide⟩
      obtain ⟨le, rfl, le0, le1⟩ := hle
      obtain ⟨c6, ys6, hux6⟩ := hu6.at
      have s7 := same_upd (o := .lst [.int 0, .int 0, .int 1]) hp2
      have hpu2 : p2 ≠ u := fun z => by rw [z, hux6] at hp2; cases hp2
      refine ⟨u, p2, _, 900000 - 2000 * i - 1003, rfl, hpu2, upd_same, (by show 0 < 3; decide), (by show 3 < 1073741824; decide), (hu6.same s7).mono (by omega), fun H8 v2 b8 hu8 hv2 => ⟨by decide, fun p3 hp3 => ?_⟩⟩
      have hby : ∃ bb : Int, v2 = .int bb ∧ 0 ≤ bb ∧ bb ≤ 1 := by
        simp only [List.mem_cons, List.not_mem_nil, or_false] at hv2
        rcases hv2 with rfl | rfl | rfl <;> exact ⟨_, rfl, by decide, by decide⟩
      obtain ⟨bb, rfl, bb0, bb1⟩ := hby
      have s10 := same_upd (o := .tup [.int le, .int bb]) hp3
      refine ⟨_, st_of upd_same, rfl, _, _, rfl, _, _, rfl, rfl, ?_⟩
      have B10 := ((((same_but s5).trans b6).trans (same_but s7)).trans b8).trans (same_but s10)
      have hR10 := B10.1 _ nR _ hR9
      have hrs10 : Each (RowZ K [u, R] _) vs rows := hrs9.imp fun v x z => z.but B10 hux9 (.head _)
      have hu10 := hu8.same s10
      have B30 := B39.trans B10
      generalize upd H8 p3 (.tup [.int le, .int bb]) = H10 at *
      clear hrs9 hR9 B10 s10 hp3 b8 hu8 hv2 hpu2 hp2 s7 b6 hu6 hv s5 hp hpu hux9 hu9 B39 hux6
      subst hN3
      refine seq_by fun N4 hN4 => ?_
      walk_at "vc"
      have hP10 : Each (RowP K H10) vs rows := hrs10.imp fun v x ⟨L, us, e, _, h1, h2⟩ => ⟨L, us, e, h1, h2⟩
      have lv : vs.length = rows.length := hrs10.1
      have cm : ∀ {a b : Int}, a.natAbs < 2 ^ 100 → b.natAbs < 2 ^ 100 → CMulW a b := fun h1 h2 => wide_mul h1 h2 (by decide) (by decide) (by decide)
      have e100 : (2 : Nat) ^ 100 = 1267650600228229401496703205376 := by decide +kernel
      refine lc_rows (f := leanZ le bb) hR10 hP10 (by omega) (fun r hr => Nat.lt_of_le_of_lt (pl.ok r hr).ten (by decide)) (fun H2 p rv Q2 r s2 hr hp hQ => ?_) (fun H11 D ws s11 fD hD hws => ?_)
      · have wn := (pl.ok r hr).win p hp
        unfold Win at wn
        have lm : -20000 ≤ le * p.2 ∧ le * p.2 ≤ 20000 := by
          have : le = -2 ∨ le = -1 ∨ le = 0 ∨ le = 1 := by omega
          rcases this with rfl | rfl | rfl | rfl <;> omega
        walk_at "vc"
        have c1 : CMulW le p.2 := cm (by omega) (by omega)
        have c2 : CMulW bb (p.1 + le * p.2) := cm (by omega) (by omega)
        exact ⟨c1, c1, c2, by decide, fun t ht => hQ _ _ (same_upd ht) ⟨t, rfl, st_of upd_same⟩⟩
      · have fH : D ≠ u := fun z => by
          obtain ⟨c9, ys9, hux9⟩ := hu10.at
          rw [z, hux9] at fD
          cases fD
        obtain ⟨c10, ys10, hux10⟩ := hu10.at
        have hu11 := hu10.same s11
        have B31 := B30.trans (same_but s11)
        clear hP10 hR10 hrs10 s11 B30 hu10
        subst hN4
        refine seq_by fun N5 hN5 => ?_
        have lw : ws.length = rows.length := by rw [hws.1, List.length_map]
        have rest : ∀ H12 D2 ws2 g, But u H3 H12 → Urn H12 u (900000 - 2000 * i - 1100) → H12 D2 = some (.lst ws2) → D2 ≠ u → Each (RowP K H12) ws2 (rows.map (List.map g)) → (g = leanZ le bb ∨ g = fun p => bigZ (leanZ le bb p)) → N5 [some (.ref a), o1, o2, o3, some (.ref u), some (.int (0 + (i : Nat))), some (.ref D2), some (.int un), some (.int le), some (.int bb), o10, o11, o12, o13, o14, o15, o16, o17, o18, o19, o20, o21, o22, o23] H12 := by
          intro H12 D2 ws2 g B32 hu12 hD2 nD2 hws2 hg
          subst hN5
          refine seq_by fun N6 hN6 => ?_
          have ml : MLot (rows.map (List.map g)) := by
            have lm := lean_map pl (l := le) (b := bb) (by omega) (by omega) (by omega) (by omega)
            rcases hg with rfl | rfl
            · exact lm.1
            · exact lm.2
          have lR : (rows.map (List.map g)).length = rows.length := List.length_map _
          generalize rows.map (List.map g) = rz at *
          have lw2 : ws2.length = rz.length := hws2.1
          have un8 : un.natAbs < 2 ^ 8000 := Nat.lt_of_lt_of_le (show un.natAbs < 2 ^ 10 by omega) (Nat.pow_le_pow_right (by decide) (by decide))
          simp only [tMake]
          walk_at "vc"
          refine ⟨_, rfl, D2, rfl, ⟨_, sl_of hD2⟩, fun F hF => lc_eachN (RI := RowP K) (RO := FenceV K A.C_Fence) (f := fun r => r.map (scP un)) (fun s h => h.same s) (fun s h => FenceV.same s h) (fun h k => fv_keepL h k) hD2 hws2 hF (by omega) (fun _ => rfl) (fun H13 v r Q2 S13 _ hv hr hQ => ?_) fun H13 fs13 s13 hF13 hfs => ?_⟩
          · simp only [wipe, List.foldl, List.set]
            obtain ⟨L, zs, rfl, hL, hzs⟩ := id hv
            have l10 := ml.ten r hr
            have lz : zs.length = r.length := hzs.1
            have wh := (ml.fine r hr).whole (by omega) (ml.near r hr) un0 (show un < 1000 by omega)
            have canon : ∀ p ∈ r.map (scP un), CanonP p := fun p hp => (wh.pts p hp).1
            simp only [tMake]
            walk_at "vc"
            refine ⟨_, rfl, L, rfl, ⟨_, sl_of hL⟩, fun D3 hD3 => lc_zpG (RO := PP K) (f := scP un) (fun s h => h.same s) (fun h k => pp_keepL h k) hL hzs hD3 (by omega) (fun _ _ => rfl) (fun H14 p Q3 S14 hp hQ3 => ?_) fun H14 qw S14 hqw hqe => ?_⟩
            · simp only [wipe, List.foldl, List.set]
              walk_at "vc"
              exact ⟨p.1, un, rfl, un0, un8, fun H4 x s4 hx => ⟨p.2, un, rfl, un0, un8, fun H5 y s5 hy => ⟨by decide, fun t ht => hQ3 _ _ ((s4.trans s5).trans (same_upd ht)) ⟨t, _, _, rfl, st_of upd_same, ⟨x, rfl, same_tup (s5.trans (same_upd ht)) hx⟩, ⟨y, rfl, same_tup (same_upd ht) hy⟩⟩⟩⟩⟩
            · refine fun x1 dx1 hx1 hdx1 ne1 => mk_fence hx1 hdx1 ne1 (.inl (sl_of hqw)) ⟨hqe.1, fun n v x e1 e2 => (hqe.2 n v x e1 e2).pt (canon x (List.mem_of_getElem? e2))⟩ wh fun H15 s15 hf => ?_
              rw [(ml.fine r hr).roundOne un0] at hf
              exact hQ _ _ (S14.trans s15) ⟨x1, rfl, hf.at⟩
          · refine fun x dx hx hdx ne => ?_
            have t1 := same_upd (o := .own x) hdx
            have hx1 : upd H13 dx (.own x) x = none := by rw [upd_ne (Ne.symm ne)]; exact hx
            have t2 := t1.trans (same_upd (o := .ins A.C_Lot dx []) hx1)
            have wl := ml.whole (by omega) (by omega) un0 (show un < 1000 by omega)
            have gr := ml.grows un0 (show un < 1000 by omega)
            have n60 : (numP (fcs un rz) (fcs un rz).length).length ≤ 60 := by
              have c : ∀ ps ∈ fcs un rz, ps.length ≤ 10 := fun ps hp => by
                obtain ⟨r, hr, rfl⟩ := List.mem_map.mp hp
                rw [List.length_map]
                exact ml.ten r hr
              have a := numP_lenC c (fcs un rz).length
              have : (fcs un rz).length ≤ 6 := by unfold fcs; rw [List.length_map]; omega
              omega
            refine ⟨x, dx, F, fs13, fcs un rz, rfl, upd_same, .inl (sl_of (t2 _ _ hF13)), hfs.imp fun v y z => FenceV.same t2 z, wl, n60, fun H14 kp hlot => ?_⟩
            have s14 : Same H13 H14 := fun c o e => kp _ _ (fun z => by rw [z, hx] at e; cases e) (t2 _ _ e)
            have S14 := s13.trans s14
            obtain ⟨c12, ys12, hux12⟩ := hu12.at
            have hu14 := hu12.same S14
            have B34 := B32.trans (same_but S14)
            have hD14 := S14 _ _ hD2
            have hr14 : Each (RowP K H14) ws2 rz := hws2.imp fun v x z => z.same S14
            clear S14 s14 kp t2 hx1 t1 ne hdx hx hfs hF13 s13 hF hws2 hD2 hux12 hu12
            refine ⟨rfl, ?_⟩
            show N6 _ _
            subst hN6
            refine seq_by fun N7 hN7 => ?_
            walk_at "vc"
            have told : ∀ (H0 : Hp) (Q0 : VK), Same H14 H0 → (∀ H' v, Same H0 H' → ToldV K A.C_Gap un rz H' v → Q0 v H') → spGap K A.C_Fence A.C_Lot A.C_Gap [.ref x] H0 Q0 E0 := by
              intro H0 Q0 s0 q0
              refine ⟨x, fs13, un, rz, rfl, hlot.same s0, gr, fun H' s' => ⟨fun no e => q0 H' _ s' (.inl ⟨e, no, rfl⟩), fun c g e ic le g1 g2 => q0 H' _ s' (.inr ⟨c, g, e, ic, le, rfl, g1, g2⟩)⟩⟩
            refine told H14 _ (fun _ _ e => e) fun H15 v1 s15 hv1 => told H15 _ s15 fun H16 v2 s16 hv2 => ?_
            have s146 := s15.trans s16
            refine ⟨D2, ws2, rz, rfl, s146 _ _ hD14, hr14.imp fun v x z => z.same s146, by omega, fun r hr => ⟨(ml.fine r hr).poly.len, ml.ten r hr⟩, fun H17 DP ps s17 _ hDP hps => ⟨by decide, fun tp htp => ?_⟩⟩
            have s18 := same_upd (o := .tup [v1, v2, .ref DP]) htp
            refine ⟨_, st_of upd_same, rfl, _, _, rfl, _, _, rfl, _, _, rfl, rfl, ?_⟩
            have S18 := (s146.trans s17).trans s18
            have hv1' := ToldV.same ((s16.trans s17).trans s18) hv1
            have hv2' := ToldV.same (s17.trans s18) hv2
            have hDP' := s18 _ _ hDP
            have hps' : Each (PSd K rz _) ps (pairsZ rz) := hps.imp fun v x z => z.same s18
            have hu18 := hu14.same S18
            have B38 := B34.trans (same_but S18)
            have hlot18 := hlot.same S18
            have hr18 : Each (RowP K _) ws2 rz := hr14.imp fun v x z => z.same S18
            generalize upd H17 tp (.tup [v1, v2, .ref DP]) = H18 at *
            clear hps hDP hv1 hv2 s18 s17 s146 s16 s15 S18 hr14 hlot B34 hu14 told htp
            subst hN7
            refine seq_by fun N8 hN8 => ?_
            walk_at "vc"
            refine ⟨Nat.zero_le _, fun pe hpe => ?_⟩
            have s19 := same_upd (o := .lst []) hpe
            refine ⟨DP, pe, ps, rfl, rfl, sl_of (s19 _ _ hDP'), sl_of upd_same, _, rfl, ?_⟩
            rcases hv1' with ⟨gn, no, rfl⟩ | ⟨c, g1, gc, ic, le1, rfl, ga, gb⟩
            · have pn := pairs_nil no
              have pe0 : ps = [] := List.eq_nil_of_length_eq_zero (by rw [hps'.1, pn]; rfl)
              rcases hv2' with ⟨_, _, rfl⟩ | ⟨c, g1, gc, ic, _⟩
              · rw [if_pos (decide_eq_true pe0), if_neg (fun z => z rfl), if_neg (fun z => z rfl)]
                exact ⟨_, _, _, _, _, _, _, _, _, _, _, _, _, _, _, _, _, _, _, _, _, _, rfl, (hu18.same s19).mono (by omega)⟩
              · exact absurd ic (no c)
            · have pn := pairs_some ic
              have pe0 : ps ≠ [] := fun z => pn (List.eq_nil_of_length_eq_zero (by rw [← hps'.1, z]; rfl))
              rw [if_neg (by rw [decide_eq_false pe0]; decide)]
              have z := gapZ_of gr ic le1
              have ga' := gap_at ga gb
              obtain ⟨g2, rfl, gb'⟩ : ∃ g2, v2 = .ref g2 ∧ GapAt K A.C_Gap H18 g2 (sqC un rz c) (toI (pqC c).1) (toI (pqC c).2) (heC un rz c) (thC un rz c) := by
                rcases hv2' with ⟨gn, no, _⟩ | ⟨c', g2, gc', ic', le', rfl, ga2, gb2⟩
                · exact absurd ic (no c)
                · have e : c = c' := Option.some.inj (gc.symm.trans gc')
                  subst e
                  exact ⟨g2, rfl, gap_at ga2 gb2⟩
              have B : BagG K A.C_Gap _ g1 g2 DP ps un rz (sqC un rz c) (pqC c) (heC un rz c) (thC un rz c) := ⟨z, gr, s19 _ _ hDP', hps'.imp fun v x h => PSd.same s19 h, ga'.same s19, gb'.same s19, by omega, ml.ten, ?_⟩
              · show N8 _ _
                subst hN8
                exact restG_ok T B fun G' p14 p15 p16 p17 p18 p19 p20 p21 s' => ⟨_, _, _, _, _, _, _, _, _, _, _, _, _, _, _, _, _, _, _, _, _, _, rfl, ((hu18.same s19).same s').mono (by omega)⟩
              · rw [hps'.1]
                exact pairs_len (by omega) ml.ten
        walk_at "vc"
        refine ⟨u, 6, 900000 - 2000 * i - 1050, rfl, by omega, by omega, hu11.mono (by omega), fun H12 f b12 hu12 f0 f1 => ⟨rfl, ?_⟩⟩
        obtain ⟨c11, ys11, hux11⟩ := hu11.at
        have hD12 := b12.1 _ fH _ hD
        have hws12 : Each (RowP K H12) ws (rows.map (List.map (leanZ le bb))) := hws.imp fun v x z => z.but hux10 hux11 b12
        split
        · refine lc_rows (f := bigZ) hD12 hws12 (by omega) (fun r hr => ?_) (fun H13 p rv Q2 r s13 hr hp hQ => ?_) (fun H13 D2 ws2 s13 fD2 hD2 hws2 => ?_)
          · obtain ⟨r0, hr0, rfl⟩ := List.mem_map.mp hr
            rw [List.length_map]
            exact Nat.lt_of_le_of_lt (pl.ok r0 hr0).ten (by decide)
          · obtain ⟨r0, hr0, rfl⟩ := List.mem_map.mp hr
            obtain ⟨p0, hp0, rfl⟩ := List.mem_map.mp hp
            have wn := (pl.ok r0 hr0).win p0 hp0
            unfold Win at wn
            have lm : -20000 ≤ le * p0.2 ∧ le * p0.2 ≤ 20000 := by
              have : le = -2 ∨ le = -1 ∨ le = 0 ∨ le = 1 := by omega
              rcases this with rfl | rfl | rfl | rfl <;> omega
            have bm : -30000 ≤ bb * (p0.1 + le * p0.2) ∧ bb * (p0.1 + le * p0.2) ≤ 30000 := by
              have : bb = 0 ∨ bb = 1 := by omega
              rcases this with rfl | rfl <;> omega
            have p9 : CPow 10 9 := ⟨by decide, by decide, by decide⟩
            have c9 : ((10 : Int) ^ (9 : Int).toNat).natAbs < 2 ^ 100 := by decide +kernel
            have w1 : -30000 ≤ (leanZ le bb p0).1 ∧ (leanZ le bb p0).1 ≤ 30000 := by unfold leanZ; dsimp only; omega
            have w2 : -40000 ≤ (leanZ le bb p0).2 ∧ (leanZ le bb p0).2 ≤ 40000 := by unfold leanZ; dsimp only; omega
            generalize leanZ le bb p0 = pp at *
            have c1 : CMulW pp.1 (10 ^ (9 : Int).toNat) := cm (by omega) c9
            have c2 : CMulW 4 pp.2 := cm (by decide) (by omega)
            have c3 : CMulW pp.2 (10 ^ (9 : Int).toNat) := cm (by omega) c9
            walk_at "vc"
            exact ⟨p9, c1, c2, p9, c3, by decide, fun t ht => hQ _ _ (same_upd ht) ⟨t, rfl, st_of upd_same⟩⟩
          · obtain ⟨c12, ys12, hux12⟩ := hu12.at
            refine rest H13 D2 ws2 _ ((B31.trans b12).trans (same_but s13)) ((hu12.same s13).mono (by omega)) hD2 (fun z => by rw [z, hux12] at fD2; cases fD2) ?_ (.inr rfl)
            have e : (rows.map (List.map (leanZ le bb))).map (List.map bigZ) = rows.map (List.map fun p => bigZ (leanZ le bb p)) := by
              rw [List.map_map]
              refine List.map_congr_left fun r _ => ?_
              simp only [Function.comp, List.map_map]
              rfl
            rw [← e]
            exact hws2.imp fun v x z => z.p
        · exact rest H12 D ws (leanZ le bb) (B31.trans b12) (hu12.mono (by omega)) hD12 fH hws12 (.inl rfl)
    · rintro σ H3 ⟨o1, o2, o3, o5, o6, o7, o8, o9, o10, o11, o12, o13, o14, o15, o16, o17, o18, o19, o20, o21, o22, o23, rfl, hu3⟩
      show N _ _
      subst hN
      refine seq_by fun N hN => ?_
      walk_at "vc"
      refine ⟨_, rfl, by decide, by decide, for_range (n := ((2 : Int)).toNat) (fun i σ H4 => ∃ o1 o2 o3 o5 o6 o7 o8 o9 o10 o11 o12 o13 o14 o15 o16 o17 o18 o19 o20 o21 o22 o23, σ = [some (.ref a), o1, o2, o3, some (.ref u), o5, o6, o7, o8, o9, o10, o11, o12, o13, o14, o15, o16, o17, o18, o19, o20, o21, o22, o23] ∧ Urn H4 u (800000 - 2000 * i)) ?_ ?_ ?_⟩
      · exact ⟨_, _, _, _, _, _, _, _, _, _, _, _, _, _, _, _, _, _, _, _, _, _, rfl, hu3.mono (by omega)⟩
      · rintro i σ H4 hi ⟨o1, o2, o3, o5, o6, o7, o8, o9, o10, o11, o12, o13, o14, o15, o16, o17, o18, o19, o20, o21, o22, o23, rfl, hu4⟩
        have hi : i < 2 := by omega
        simp only [gName, List.set]
        refine seq_by fun N2 hN2 => ?_
        walk_at "vc"
        obtain ⟨c4, ys4, hux4⟩ := hu4.at
        refine ⟨u, 3, 5, 800000 - 2000 * i - 10, rfl, by decide, by decide, by decide, by decide, hu4.mono (by omega), fun H5 L vs zs b5 hu5 fL hL hzs st => ?_⟩
        subst hN2
        walk_at "vc"
        obtain ⟨ml, l3⟩ := tent_lot st
        have wh := (ml.fine zs List.mem_cons_self).whole (by omega) (ml.near zs List.mem_cons_self) (un := 1) (by decide) (by decide)
        have low1 : ∀ k : Int, low k 1 = (k, 1) := fun k => low_canonE (q := (k, 1)) ⟨Int.le_refl _, Nat.gcd_one_right _⟩
        have hpt : Each (Pt K H5) vs (zs.map (scP 1)) := by
          refine ⟨by rw [List.length_map]; exact hzs.1, fun n v x e1 e2 => ?_⟩
          rw [List.getElem?_map] at e2
          obtain ⟨z, hz, rfl⟩ := Option.map_eq_some_iff.mp e2
          obtain ⟨b, rfl, hb⟩ := hzs.2 n v z e1 hz
          refine ⟨b, .int z.1, .int z.2, rfl, .inr hb, ?_, ?_⟩
          · show Num K H5 (.int z.1) (low z.1 1)
            rw [low1]
            exact .int _
          · show Num K H5 (.int z.2) (low z.2 1)
            rw [low1]
            exact .int _
        simp only [tMake]
        walk_at "vc"
        simp only [tMake]
        walk_at "vc"
        refine fun x1 dx1 hx1 hdx1 ne1 => mk_fence hx1 hdx1 ne1 (.inl (sl_of hL)) hpt wh fun H6 s6 hf => ?_
        rw [(ml.fine zs List.mem_cons_self).roundOne (by decide)] at hf
        have hu6 := hu5.same s6
        refine ⟨by decide, fun p hp x dx hx hdx ne => ?_⟩
        have sp := same_upd (o := .lst [.ref x1]) hp
        have hp7 : upd H6 p (.lst [.ref x1]) p = some (.lst [.ref x1]) := upd_same
        have hu7 := hu6.same sp
        have hf7 : FenceV K A.C_Fence (upd H6 p (.lst [.ref x1])) (.ref x1) (zs.map (scP 1)) := FenceV.same sp ⟨x1, rfl, hf.at⟩
        generalize upd H6 p (.lst [.ref x1]) = H7 at *
        have t1 := same_upd (o := .own x) hdx
        have hx1' : upd H7 dx (.own x) x = none := by rw [upd_ne (Ne.symm ne)]; exact hx
        have t2 := t1.trans (same_upd (o := .ins A.C_Lot dx []) hx1')
        have n60 : (numP (fcs 1 [zs]) (fcs 1 [zs]).length).length ≤ 60 := by
          have c : ∀ ps ∈ fcs 1 [zs], ps.length ≤ 10 := fun ps hp => by
            obtain ⟨r, hr, rfl⟩ := List.mem_map.mp hp
            rw [List.length_map]
            exact ml.ten r hr
          have a := numP_lenC c (fcs 1 [zs]).length
          have : (fcs 1 [zs]).length = 1 := rfl
          omega
        refine ⟨x, dx, p, [.ref x1], fcs 1 [zs], rfl, upd_same, .inl (sl_of (t2 _ _ hp7)), each_one (FenceV.same t2 hf7), ml.whole (Nat.le_refl _) (by show 1 ≤ 6; decide) (by decide) (by decide), n60, fun H8 kp hlot => ⟨rfl, ?_⟩⟩
        have s8 : Same H7 H8 := fun c o e => kp _ _ (fun z => by rw [z, hx] at e; cases e) (t2 _ _ e)
        refine ⟨x, _, 1, [zs], rfl, hlot, ml.grows (by decide) (by decide), fun H9 s9 => ⟨fun _ _ => ?_, fun c g _ ic => absurd ic (tent_none l3 c)⟩⟩
        show if ¬V.non = V.non then _ else _
        rw [if_neg (fun z => z rfl)]
        exact ((hu7.same s8).same s9).mono (by omega)
      · rintro σ H4 ⟨o1, o2, o3, o5, o6, o7, o8, o9, o10, o11, o12, o13, o14, o15, o16, o17, o18, o19, o20, o21, o22, o23, rfl, hu4⟩
        show N _ _
        subst hN
        walk_at "vc"
        exact ret _
end
end Odd
namespace Odd
open PySem PySem.Spec PyProof.Rows L2
/-! ### the end of a law whose def's promise speaks of the guards -/
/-- the script as the only thing that is tracked, or nothing at all -/
def scrH (a : Addr) (ob : Obj) (ns : List Int) (t : Bool) : Hp := fun b => if b = a ∧ t = true then some (.frz ob (.lst (ns.map V.int))) else none
theorem scrH_at {a b : Addr} {ob : Obj} {ns : List Int} {t : Bool} {u : HO} (h : scrH a ob ns t b = some u) : b = a ∧ t = true ∧ u = .frz ob (.lst (ns.map V.int)) := by
  unfold scrH at h
  split at h
  · rename_i c
    exact ⟨c.1, c.2, (Option.some.inj h).symm⟩
  · cases h
theorem walk_ofEG {l : PySem.W.OpenLaw} {n k : Nat} {q : Program} {loose : List Str} {XP : (Str → Option Value) → Heap → Prop} {YP : World → Heap → Prop} {d : DefRec} {x : Str}
    (hn : l.most = some n) (hn2 : n ≤ sizeLine) (hdf : d.params.defaults = []) (hr : Room k callerA)
    (F : ∀ (w : World) (mg : Str → Option Value) (fa : Addr) (h : Heap), YP w h → h.Ns mainGlobals mg → mg d.name = some (.ref fa) →
      ∃ (K : PySem.W.Frag) (fd : FuncData) (sp : Sp), K.In h ∧ (∀ (s : Shared) (u : Value), BindsTo s fd ⟨[u], []⟩ [(x, u)]) ∧
        (∀ (H : Hp) (a : Addr) (ns : List Int), ns.length ≤ n → SqL K H a (ns.map V.int) → sp [.ref a] H (fun v _ => v = .bl true) E0) ∧
        ∀ base : Heap, K.In base → base.Ns mainGlobals mg → GOk l.prog w K mg base CX0 k fa fd [x] sp) :
    PySem.W.WalkO q loose XP YP l.row.toRowW d [] (fun f vs => PySem.call f vs) := by
  refine Att.attach_call hn hdf fun w s₀ s₁ mg mb fa o pm cd doc a vs ns G Y ho hd hcd hmg hobj hints hlen hg => ?_
  obtain ⟨K, fd, sp, KX, hbind, hsp, hF⟩ := F w mg fa _ Y G.T.g hmg
  have rv := vals_ints hints
  -- tracked: unless it stands in the written part
  obtain ⟨t, ht⟩ : ∃ t : Bool, t = true ↔ K.lookup a = none := by
    cases e : K.lookup a with
    | none => exact ⟨true, by simp⟩
    | some o => exact ⟨false, by simp⟩
  let ob : Obj := { cls := .type "list", data := .seq vs.toArray }
  have hob : s₁.heap.get? a = some ob := hobj
  have hok : HOk l.prog w (scrH a ob ns t) s₁.heap := by
    intro b u z
    obtain ⟨rfl, _, rfl⟩ := scrH_at z
    exact ⟨hob, by rw [List.length_map]; exact Nat.le_trans hlen hn2, vs, _, rv, hob⟩
  have hS : SqL K (scrH a ob ns t) a (ns.map V.int) := by
    cases t with
    | true => exact .inl (.inr ⟨ob, if_pos ⟨rfl, rfl⟩⟩)
    | false =>
      cases e : K.lookup a with
      | none => exact absurd (ht.mpr e) Bool.false_ne_true
      | some o =>
        have e' := KX a o e
        rw [hob] at e'
        cases e'
        exact .inr ⟨_, vs.toArray, _, e, rfl, rfl, rfl, by rw [List.size_toArray, hints.length]; exact Nat.le_trans hlen hn2, by simpa using rv⟩
  -- what the top has left is not tracked
  have apart : ∀ {b : Addr} {ob' : Obj}, s₁.heap.get? b = some ob' → (∀ n' its, ob'.data ≠ .seq its n') ∨ K.lookup b ≠ none → scrH a ob ns t b = none := by
    intro b ob' e h
    cases z : scrH a ob ns t b with
    | none => rfl
    | some u =>
      obtain ⟨rfl, ht', _⟩ := scrH_at z
      rcases h with h | h
      · rw [hob] at e
        cases e
        exact absurd rfl (h _ _)
      · exact absurd (ht.mp ht') h
  have ns2 : ∀ {b : Addr} {m : Str → Option Value}, s₁.heap.Ns b m → (hidT s₁.heap (scrH a ob ns t)).Ns b m := by
    rintro b m ⟨o', es, ep, e, dd, r⟩
    exact ⟨o', es, ep, hidT_get e (apart e (.inl fun n' its z => by rw [dd] at z; cases z)), dd, r⟩
  have kin : K.In (hidT s₁.heap (scrH a ob ns t)) := fun b o' e => hidT_get (KX b o' e) (apart (KX b o' e) (.inr fun z => by rw [z] at e; cases e))
  obtain ⟨mc, lim1, lim2⟩ := G.T.nolimit
  have e0 : Env0 l.prog w K mg (hidT s₁.heap (scrH a ob ns t)) callerA [] s₁ (scrH a ob ns t) :=
    ⟨rfl, ⟨kin, ns2 G.T.g, ⟨mb, ns2 G.T.b, G.T.builtins⟩, mc, ns2 lim1, lim2⟩, fun b o' e => of_hidT e, Nat.le_of_eq (hidT_size _ _), trivial, fun b hb => absurd (show b ∈ ([] : List Addr) from hb) (by simp), hok, .of_eq hg⟩
  refine codeAny_mono ((hF _ kin (ns2 G.T.g)).go (us := [.ref a]) (vs := [.ref a]) rfl hr e0 (hbind s₁ (.ref a)) (.cons rfl .nil) (hsp _ a ns hlen hS)) ?_
  intro r s' h
  match r, h with
  | .error e, h => exact h.elim
  | .ok (.ret u), h =>
    obtain ⟨v, H', os, bare, un, hok', r', qq⟩ := h
    obtain rfl : v = .bl true := qq
    obtain rfl : u = Value.bool true := r'
    refine ⟨rfl, OldK.of_keep fun b ob' e => ?_, os, bare⟩
    cases z : scrH a ob ns t b with
    | none => exact un.keep b ob' e z (by intro y; exact absurd (show b ∈ ([] : List Addr) from y) (by simp)) (by simp)
    | some u =>
      obtain ⟨rfl, ht', rfl⟩ := scrH_at z
      have z2 := un.frzs b ob _ z
      obtain ⟨e2, _⟩ := hok' b _ z2
      rw [hob] at e
      cases e
      exact e2
end Odd
namespace Odd
open PySem PySem.Spec PyProof.Rows L2 He Oh
theorem bi_lowest : ∀ (kV doc pm : Value) (an : Option Addr) (cdv ct : Value) (us : List Value), us.length = (["top", "under"] : List Str).length → bindArgs (PySem.W.fnOf "lowest" "lowest" (defArgs s_lowest) (defBody s_lowest) (defScope s_lowest) .none kV doc pm an cdv ct) ⟨us, []⟩ = pure ((["top", "under"] : List Str).zip us) := fun _ _ _ _ _ _ us hl => match us, hl with | [_, _], _ => rfl
theorem bi_pair_of : ∀ (kV doc pm : Value) (an : Option Addr) (cdv ct : Value) (us : List Value), us.length = (["value"] : List Str).length → bindArgs (PySem.W.fnOf "pair_of" "pair_of" (defArgs s_pair_of) (defBody s_pair_of) (defScope s_pair_of) .none kV doc pm an cdv ct) ⟨us, []⟩ = pure ((["value"] : List Str).zip us) := fun _ _ _ _ _ _ us hl => match us, hl with | [_], _ => rfl
theorem bi_sum_of : ∀ (kV doc pm : Value) (an : Option Addr) (cdv ct : Value) (us : List Value), us.length = (["one", "other"] : List Str).length → bindArgs (PySem.W.fnOf "sum_of" "sum_of" (defArgs s_sum_of) (defBody s_sum_of) (defScope s_sum_of) .none kV doc pm an cdv ct) ⟨us, []⟩ = pure ((["one", "other"] : List Str).zip us) := fun _ _ _ _ _ _ us hl => match us, hl with | [_, _], _ => rfl
theorem bi_difference : ∀ (kV doc pm : Value) (an : Option Addr) (cdv ct : Value) (us : List Value), us.length = (["one", "other"] : List Str).length → bindArgs (PySem.W.fnOf "difference" "difference" (defArgs s_difference) (defBody s_difference) (defScope s_difference) .none kV doc pm an cdv ct) ⟨us, []⟩ = pure ((["one", "other"] : List Str).zip us) := fun _ _ _ _ _ _ us hl => match us, hl with | [_, _], _ => rfl
theorem bi_product_of : ∀ (kV doc pm : Value) (an : Option Addr) (cdv ct : Value) (us : List Value), us.length = (["one", "other"] : List Str).length → bindArgs (PySem.W.fnOf "product_of" "product_of" (defArgs s_product_of) (defBody s_product_of) (defScope s_product_of) .none kV doc pm an cdv ct) ⟨us, []⟩ = pure ((["one", "other"] : List Str).zip us) := fun _ _ _ _ _ _ us hl => match us, hl with | [_, _], _ => rfl
theorem bi_quotient : ∀ (kV doc pm : Value) (an : Option Addr) (cdv ct : Value) (us : List Value), us.length = (["one", "other"] : List Str).length → bindArgs (PySem.W.fnOf "quotient" "quotient" (defArgs s_quotient) (defBody s_quotient) (defScope s_quotient) .none kV doc pm an cdv ct) ⟨us, []⟩ = pure ((["one", "other"] : List Str).zip us) := fun _ _ _ _ _ _ us hl => match us, hl with | [_, _], _ => rfl
theorem bi_is_below : ∀ (kV doc pm : Value) (an : Option Addr) (cdv ct : Value) (us : List Value), us.length = (["one", "other"] : List Str).length → bindArgs (PySem.W.fnOf "is_below" "is_below" (defArgs s_is_below) (defBody s_is_below) (defScope s_is_below) .none kV doc pm an cdv ct) ⟨us, []⟩ = pure ((["one", "other"] : List Str).zip us) := fun _ _ _ _ _ _ us hl => match us, hl with | [_, _], _ => rfl
theorem bi_sign : ∀ (kV doc pm : Value) (an : Option Addr) (cdv ct : Value) (us : List Value), us.length = (["top"] : List Str).length → bindArgs (PySem.W.fnOf "sign" "sign" (defArgs s_sign) (defBody s_sign) (defScope s_sign) .none kV doc pm an cdv ct) ⟨us, []⟩ = pure ((["top"] : List Str).zip us) := fun _ _ _ _ _ _ us hl => match us, hl with | [_], _ => rfl
theorem bi_is_integer : ∀ (kV doc pm : Value) (an : Option Addr) (cdv ct : Value) (us : List Value), us.length = (["value"] : List Str).length → bindArgs (PySem.W.fnOf "is_integer" "is_integer" (defArgs s_is_integer) (defBody s_is_integer) (defScope s_is_integer) .none kV doc pm an cdv ct) ⟨us, []⟩ = pure ((["value"] : List Str).zip us) := fun _ _ _ _ _ _ us hl => match us, hl with | [_], _ => rfl
theorem bi_is_within : ∀ (kV doc pm : Value) (an : Option Addr) (cdv ct : Value) (us : List Value), us.length = (["value", "least", "most"] : List Str).length → bindArgs (PySem.W.fnOf "is_within" "is_within" (defArgs s_is_within) (defBody s_is_within) (defScope s_is_within) .none kV doc pm an cdv ct) ⟨us, []⟩ = pure ((["value", "least", "most"] : List Str).zip us) := fun _ _ _ _ _ _ us hl => match us, hl with | [_, _, _], _ => rfl
theorem bi_is_row : ∀ (kV doc pm : Value) (an : Option Addr) (cdv ct : Value) (us : List Value), us.length = (["value"] : List Str).length → bindArgs (PySem.W.fnOf "is_row" "is_row" (defArgs s_is_row) (defBody s_is_row) (defScope s_is_row) .none kV doc pm an cdv ct) ⟨us, []⟩ = pure ((["value"] : List Str).zip us) := fun _ _ _ _ _ _ us hl => match us, hl with | [_], _ => rfl
theorem bi_is_pair : ∀ (kV doc pm : Value) (an : Option Addr) (cdv ct : Value) (us : List Value), us.length = (["value"] : List Str).length → bindArgs (PySem.W.fnOf "is_pair" "is_pair" (defArgs s_is_pair) (defBody s_is_pair) (defScope s_is_pair) .none kV doc pm an cdv ct) ⟨us, []⟩ = pure ((["value"] : List Str).zip us) := fun _ _ _ _ _ _ us hl => match us, hl with | [_], _ => rfl
theorem bi_is_number : ∀ (kV doc pm : Value) (an : Option Addr) (cdv ct : Value) (us : List Value), us.length = (["value"] : List Str).length → bindArgs (PySem.W.fnOf "is_number" "is_number" (defArgs s_is_number) (defBody s_is_number) (defScope s_is_number) .none kV doc pm an cdv ct) ⟨us, []⟩ = pure ((["value"] : List Str).zip us) := fun _ _ _ _ _ _ us hl => match us, hl with | [_], _ => rfl
theorem bi_is_point : ∀ (kV doc pm : Value) (an : Option Addr) (cdv ct : Value) (us : List Value), us.length = (["value"] : List Str).length → bindArgs (PySem.W.fnOf "is_point" "is_point" (defArgs s_is_point) (defBody s_is_point) (defScope s_is_point) .none kV doc pm an cdv ct) ⟨us, []⟩ = pure ((["value"] : List Str).zip us) := fun _ _ _ _ _ _ us hl => match us, hl with | [_], _ => rfl
theorem bi_are_points : ∀ (kV doc pm : Value) (an : Option Addr) (cdv ct : Value) (us : List Value), us.length = (["value", "least", "most"] : List Str).length → bindArgs (PySem.W.fnOf "are_points" "are_points" (defArgs s_are_points) (defBody s_are_points) (defScope s_are_points) .none kV doc pm an cdv ct) ⟨us, []⟩ = pure ((["value", "least", "most"] : List Str).zip us) := fun _ _ _ _ _ _ us hl => match us, hl with | [_, _, _], _ => rfl
theorem bi_point_of : ∀ (kV doc pm : Value) (an : Option Addr) (cdv ct : Value) (us : List Value), us.length = (["value"] : List Str).length → bindArgs (PySem.W.fnOf "point_of" "point_of" (defArgs s_point_of) (defBody s_point_of) (defScope s_point_of) .none kV doc pm an cdv ct) ⟨us, []⟩ = pure ((["value"] : List Str).zip us) := fun _ _ _ _ _ _ us hl => match us, hl with | [_], _ => rfl
theorem bi_joined : ∀ (kV doc pm : Value) (an : Option Addr) (cdv ct : Value) (us : List Value), us.length = (["one", "other"] : List Str).length → bindArgs (PySem.W.fnOf "joined" "joined" (defArgs s_joined) (defBody s_joined) (defScope s_joined) .none kV doc pm an cdv ct) ⟨us, []⟩ = pure ((["one", "other"] : List Str).zip us) := fun _ _ _ _ _ _ us hl => match us, hl with | [_, _], _ => rfl
theorem bi_way_between : ∀ (kV doc pm : Value) (an : Option Addr) (cdv ct : Value) (us : List Value), us.length = (["start", "end"] : List Str).length → bindArgs (PySem.W.fnOf "way_between" "way_between" (defArgs s_way_between) (defBody s_way_between) (defScope s_way_between) .none kV doc pm an cdv ct) ⟨us, []⟩ = pure ((["start", "end"] : List Str).zip us) := fun _ _ _ _ _ _ us hl => match us, hl with | [_, _], _ => rfl
theorem bi_stretched : ∀ (kV doc pm : Value) (an : Option Addr) (cdv ct : Value) (us : List Value), us.length = (["way", "factor"] : List Str).length → bindArgs (PySem.W.fnOf "stretched" "stretched" (defArgs s_stretched) (defBody s_stretched) (defScope s_stretched) .none kV doc pm an cdv ct) ⟨us, []⟩ = pure ((["way", "factor"] : List Str).zip us) := fun _ _ _ _ _ _ us hl => match us, hl with | [_, _], _ => rfl
theorem bi_cross_of : ∀ (kV doc pm : Value) (an : Option Addr) (cdv ct : Value) (us : List Value), us.length = (["one", "other"] : List Str).length → bindArgs (PySem.W.fnOf "cross_of" "cross_of" (defArgs s_cross_of) (defBody s_cross_of) (defScope s_cross_of) .none kV doc pm an cdv ct) ⟨us, []⟩ = pure ((["one", "other"] : List Str).zip us) := fun _ _ _ _ _ _ us hl => match us, hl with | [_, _], _ => rfl
theorem bi_dot_of : ∀ (kV doc pm : Value) (an : Option Addr) (cdv ct : Value) (us : List Value), us.length = (["one", "other"] : List Str).length → bindArgs (PySem.W.fnOf "dot_of" "dot_of" (defArgs s_dot_of) (defBody s_dot_of) (defScope s_dot_of) .none kV doc pm an cdv ct) ⟨us, []⟩ = pure ((["one", "other"] : List Str).zip us) := fun _ _ _ _ _ _ us hl => match us, hl with | [_, _], _ => rfl
theorem bi_moved : ∀ (kV doc pm : Value) (an : Option Addr) (cdv ct : Value) (us : List Value), us.length = (["start", "way", "share"] : List Str).length → bindArgs (PySem.W.fnOf "moved" "moved" (defArgs s_moved) (defBody s_moved) (defScope s_moved) .none kV doc pm an cdv ct) ⟨us, []⟩ = pure ((["start", "way", "share"] : List Str).zip us) := fun _ _ _ _ _ _ us hl => match us, hl with | [_, _, _], _ => rfl
theorem bi_comes_before : ∀ (kV doc pm : Value) (an : Option Addr) (cdv ct : Value) (us : List Value), us.length = (["one", "other"] : List Str).length → bindArgs (PySem.W.fnOf "comes_before" "comes_before" (defArgs s_comes_before) (defBody s_comes_before) (defScope s_comes_before) .none kV doc pm an cdv ct) ⟨us, []⟩ = pure ((["one", "other"] : List Str).zip us) := fun _ _ _ _ _ _ us hl => match us, hl with | [_, _], _ => rfl
theorem bi_fixed : ∀ (kV doc pm : Value) (an : Option Addr) (cdv ct : Value) (us : List Value), us.length = (["value"] : List Str).length → bindArgs (PySem.W.fnOf "fixed" "fixed" (defArgs s_fixed) (defBody s_fixed) (defScope s_fixed) .none kV doc pm an cdv ct) ⟨us, []⟩ = pure ((["value"] : List Str).zip us) := fun _ _ _ _ _ _ us hl => match us, hl with | [_], _ => rfl
theorem bi__are_equal : ∀ (kV doc pm : Value) (an : Option Addr) (cdv ct : Value) (us : List Value), us.length = (["one", "other"] : List Str).length → bindArgs (PySem.W.fnOf "_are_equal" "_are_equal" (defArgs s__are_equal) (defBody s__are_equal) (defScope s__are_equal) .none kV doc pm an cdv ct) ⟨us, []⟩ = pure ((["one", "other"] : List Str).zip us) := fun _ _ _ _ _ _ us hl => match us, hl with | [_, _], _ => rfl
theorem bi_sides_of : ∀ (kV doc pm : Value) (an : Option Addr) (cdv ct : Value) (us : List Value), us.length = (["corners"] : List Str).length → bindArgs (PySem.W.fnOf "sides_of" "sides_of" (defArgs s_sides_of) (defBody s_sides_of) (defScope s_sides_of) .none kV doc pm an cdv ct) ⟨us, []⟩ = pure ((["corners"] : List Str).zip us) := fun _ _ _ _ _ _ us hl => match us, hl with | [_], _ => rfl
theorem bi__loose : ∀ (kV doc pm : Value) (an : Option Addr) (cdv ct : Value) (us : List Value), us.length = (["one", "other"] : List Str).length → bindArgs (PySem.W.fnOf "_loose" "_loose" (defArgs s__loose) (defBody s__loose) (defScope s__loose) .none kV doc pm an cdv ct) ⟨us, []⟩ = pure ((["one", "other"] : List Str).zip us) := fun _ _ _ _ _ _ us hl => match us, hl with | [_, _], _ => rfl
theorem bi_bend : ∀ (kV doc pm : Value) (an : Option Addr) (cdv ct : Value) (us : List Value), us.length = (["start", "middle", "end"] : List Str).length → bindArgs (PySem.W.fnOf "bend" "bend" (defArgs s_bend) (defBody s_bend) (defScope s_bend) .none kV doc pm an cdv ct) ⟨us, []⟩ = pure ((["start", "middle", "end"] : List Str).zip us) := fun _ _ _ _ _ _ us hl => match us, hl with | [_, _, _], _ => rfl
theorem bi_ordered_segments : ∀ (kV doc pm : Value) (an : Option Addr) (cdv ct : Value) (us : List Value), us.length = (["side"] : List Str).length → bindArgs (PySem.W.fnOf "_ordered" "_ordered" (defArgs s_ordered_segments) (defBody s_ordered_segments) (defScope s_ordered_segments) .none kV doc pm an cdv ct) ⟨us, []⟩ = pure ((["side"] : List Str).zip us) := fun _ _ _ _ _ _ us hl => match us, hl with | [_], _ => rfl
theorem bi__shared_stretch : ∀ (kV doc pm : Value) (an : Option Addr) (cdv ct : Value) (us : List Value), us.length = (["one", "other"] : List Str).length → bindArgs (PySem.W.fnOf "_shared_stretch" "_shared_stretch" (defArgs s__shared_stretch) (defBody s__shared_stretch) (defScope s__shared_stretch) .none kV doc pm an cdv ct) ⟨us, []⟩ = pure ((["one", "other"] : List Str).zip us) := fun _ _ _ _ _ _ us hl => match us, hl with | [_, _], _ => rfl
theorem bi_common_point : ∀ (kV doc pm : Value) (an : Option Addr) (cdv ct : Value) (us : List Value), us.length = (["one", "other"] : List Str).length → bindArgs (PySem.W.fnOf "common_point" "common_point" (defArgs s_common_point) (defBody s_common_point) (defScope s_common_point) .none kV doc pm an cdv ct) ⟨us, []⟩ = pure ((["one", "other"] : List Str).zip us) := fun _ _ _ _ _ _ us hl => match us, hl with | [_, _], _ => rfl
theorem bi__corners_in : ∀ (kV doc pm : Value) (an : Option Addr) (cdv ct : Value) (us : List Value), us.length = (["corners"] : List Str).length → bindArgs (PySem.W.fnOf "_corners_in" "_corners_in" (defArgs s__corners_in) (defBody s__corners_in) (defScope s__corners_in) .none kV doc pm an cdv ct) ⟨us, []⟩ = pure ((["corners"] : List Str).zip us) := fun _ _ _ _ _ _ us hl => match us, hl with | [_], _ => rfl
theorem bi__goes_back : ∀ (kV doc pm : Value) (an : Option Addr) (cdv ct : Value) (us : List Value), us.length = (["coming", "leaving"] : List Str).length → bindArgs (PySem.W.fnOf "_goes_back" "_goes_back" (defArgs s__goes_back) (defBody s__goes_back) (defScope s__goes_back) .none kV doc pm an cdv ct) ⟨us, []⟩ = pure ((["coming", "leaving"] : List Str).zip us) := fun _ _ _ _ _ _ us hl => match us, hl with | [_, _], _ => rfl
theorem bi_are_next : ∀ (kV doc pm : Value) (an : Option Addr) (cdv ct : Value) (us : List Value), us.length = (["one", "other", "many"] : List Str).length → bindArgs (PySem.W.fnOf "are_next" "are_next" (defArgs s_are_next) (defBody s_are_next) (defScope s_are_next) .none kV doc pm an cdv ct) ⟨us, []⟩ = pure ((["one", "other", "many"] : List Str).zip us) := fun _ _ _ _ _ _ us hl => match us, hl with | [_, _, _], _ => rfl
theorem bi__meeting : ∀ (kV doc pm : Value) (an : Option Addr) (cdv ct : Value) (us : List Value), us.length = (["sides"] : List Str).length → bindArgs (PySem.W.fnOf "_meeting" "_meeting" (defArgs s__meeting) (defBody s__meeting) (defScope s__meeting) .none kV doc pm an cdv ct) ⟨us, []⟩ = pure ((["sides"] : List Str).zip us) := fun _ _ _ _ _ _ us hl => match us, hl with | [_], _ => rfl
theorem bi__doubled_area : ∀ (kV doc pm : Value) (an : Option Addr) (cdv ct : Value) (us : List Value), us.length = (["corners"] : List Str).length → bindArgs (PySem.W.fnOf "_doubled_area" "_doubled_area" (defArgs s__doubled_area) (defBody s__doubled_area) (defScope s__doubled_area) .none kV doc pm an cdv ct) ⟨us, []⟩ = pure ((["corners"] : List Str).zip us) := fun _ _ _ _ _ _ us hl => match us, hl with | [_], _ => rfl
theorem bi__judged : ∀ (kV doc pm : Value) (an : Option Addr) (cdv ct : Value) (us : List Value), us.length = (["corners"] : List Str).length → bindArgs (PySem.W.fnOf "_judged" "_judged" (defArgs s__judged) (defBody s__judged) (defScope s__judged) .none kV doc pm an cdv ct) ⟨us, []⟩ = pure ((["corners"] : List Str).zip us) := fun _ _ _ _ _ _ us hl => match us, hl with | [_], _ => rfl
theorem bi__bends_of : ∀ (kV doc pm : Value) (an : Option Addr) (cdv ct : Value) (us : List Value), us.length = (["corners"] : List Str).length → bindArgs (PySem.W.fnOf "_bends_of" "_bends_of" (defArgs s__bends_of) (defBody s__bends_of) (defScope s__bends_of) .none kV doc pm an cdv ct) ⟨us, []⟩ = pure ((["corners"] : List Str).zip us) := fun _ _ _ _ _ _ us hl => match us, hl with | [_], _ => rfl
theorem bi__fences_in : ∀ (kV doc pm : Value) (an : Option Addr) (cdv ct : Value) (us : List Value), us.length = (["fences"] : List Str).length → bindArgs (PySem.W.fnOf "_fences_in" "_fences_in" (defArgs s__fences_in) (defBody s__fences_in) (defScope s__fences_in) .none kV doc pm an cdv ct) ⟨us, []⟩ = pure ((["fences"] : List Str).zip us) := fun _ _ _ _ _ _ us hl => match us, hl with | [_], _ => rfl
theorem bi__numbered_sides : ∀ (kV doc pm : Value) (an : Option Addr) (cdv ct : Value) (us : List Value), us.length = (["fences"] : List Str).length → bindArgs (PySem.W.fnOf "_numbered_sides" "_numbered_sides" (defArgs s__numbered_sides) (defBody s__numbered_sides) (defScope s__numbered_sides) .none kV doc pm an cdv ct) ⟨us, []⟩ = pure ((["fences"] : List Str).zip us) := fun _ _ _ _ _ _ us hl => match us, hl with | [_], _ => rfl
theorem bi_judged_fences : ∀ (kV doc pm : Value) (an : Option Addr) (cdv ct : Value) (us : List Value), us.length = (["fences"] : List Str).length → bindArgs (PySem.W.fnOf "judged_fences" "judged_fences" (defArgs s_judged_fences) (defBody s_judged_fences) (defScope s_judged_fences) .none kV doc pm an cdv ct) ⟨us, []⟩ = pure ((["fences"] : List Str).zip us) := fun _ _ _ _ _ _ us hl => match us, hl with | [_], _ => rfl
theorem bi_is_side : ∀ (kV doc pm : Value) (an : Option Addr) (cdv ct : Value) (us : List Value), us.length = (["lot", "at"] : List Str).length → bindArgs (PySem.W.fnOf "is_side" "is_side" (defArgs s_is_side) (defBody s_is_side) (defScope s_is_side) .none kV doc pm an cdv ct) ⟨us, []⟩ = pure ((["lot", "at"] : List Str).zip us) := fun _ _ _ _ _ _ us hl => match us, hl with | [_, _], _ => rfl
theorem bi_are_neighbours : ∀ (kV doc pm : Value) (an : Option Addr) (cdv ct : Value) (us : List Value), us.length = (["lot", "one", "other"] : List Str).length → bindArgs (PySem.W.fnOf "are_neighbours" "are_neighbours" (defArgs s_are_neighbours) (defBody s_are_neighbours) (defScope s_are_neighbours) .none kV doc pm an cdv ct) ⟨us, []⟩ = pure ((["lot", "one", "other"] : List Str).zip us) := fun _ _ _ _ _ _ us hl => match us, hl with | [_, _, _], _ => rfl
theorem bi_check_lot : ∀ (kV doc pm : Value) (an : Option Addr) (cdv ct : Value) (us : List Value), us.length = (["lot"] : List Str).length → bindArgs (PySem.W.fnOf "check_lot" "check_lot" (defArgs s_check_lot) (defBody s_check_lot) (defScope s_check_lot) .none kV doc pm an cdv ct) ⟨us, []⟩ = pure ((["lot"] : List Str).zip us) := fun _ _ _ _ _ _ us hl => match us, hl with | [_], _ => rfl
theorem bi__squared : ∀ (kV doc pm : Value) (an : Option Addr) (cdv ct : Value) (us : List Value), us.length = (["way"] : List Str).length → bindArgs (PySem.W.fnOf "_squared" "_squared" (defArgs s__squared) (defBody s__squared) (defScope s__squared) .none kV doc pm an cdv ct) ⟨us, []⟩ = pure ((["way"] : List Str).zip us) := fun _ _ _ _ _ _ us hl => match us, hl with | [_], _ => rfl
theorem bi__nearest : ∀ (kV doc pm : Value) (an : Option Addr) (cdv ct : Value) (us : List Value), us.length = (["point", "side"] : List Str).length → bindArgs (PySem.W.fnOf "_nearest" "_nearest" (defArgs s__nearest) (defBody s__nearest) (defScope s__nearest) .none kV doc pm an cdv ct) ⟨us, []⟩ = pure ((["point", "side"] : List Str).zip us) := fun _ _ _ _ _ _ us hl => match us, hl with | [_, _], _ => rfl
theorem bi__side_of_corner : ∀ (kV doc pm : Value) (an : Option Addr) (cdv ct : Value) (us : List Value), us.length = (["lot", "fence", "corner", "at"] : List Str).length → bindArgs (PySem.W.fnOf "_side_of_corner" "_side_of_corner" (defArgs s__side_of_corner) (defBody s__side_of_corner) (defScope s__side_of_corner) .none kV doc pm an cdv ct) ⟨us, []⟩ = pure ((["lot", "fence", "corner", "at"] : List Str).zip us) := fun _ _ _ _ _ _ us hl => match us, hl with | [_, _, _, _], _ => rfl
theorem bi_ordered_gaps : ∀ (kV doc pm : Value) (an : Option Addr) (cdv ct : Value) (us : List Value), us.length = (["found"] : List Str).length → bindArgs (PySem.W.fnOf "_ordered" "_ordered" (defArgs s_ordered_gaps) (defBody s_ordered_gaps) (defScope s_ordered_gaps) .none kV doc pm an cdv ct) ⟨us, []⟩ = pure ((["found"] : List Str).zip us) := fun _ _ _ _ _ _ us hl => match us, hl with | [_], _ => rfl
theorem bi_gap : ∀ (kV doc pm : Value) (an : Option Addr) (cdv ct : Value) (us : List Value), us.length = (["lot"] : List Str).length → bindArgs (PySem.W.fnOf "gap" "gap" (defArgs s_gap) (defBody s_gap) (defScope s_gap) .none kV doc pm an cdv ct) ⟨us, []⟩ = pure ((["lot"] : List Str).zip us) := fun _ _ _ _ _ _ us hl => match us, hl with | [_], _ => rfl
theorem bi__law_ditch : ∀ (kV doc pm : Value) (an : Option Addr) (cdv ct : Value) (us : List Value), us.length = (["script"] : List Str).length → bindArgs (PySem.W.fnOf "_law_ditch" "_law_ditch" (defArgs s__law_ditch) (defBody s__law_ditch) (defScope s__law_ditch) .none kV doc pm an cdv ct) ⟨us, []⟩ = pure ((["script"] : List Str).zip us) := fun _ _ _ _ _ _ us hl => match us, hl with | [_], _ => rfl
theorem bi__law_dig : ∀ (kV doc pm : Value) (an : Option Addr) (cdv ct : Value) (us : List Value), us.length = (["ditch", "many"] : List Str).length → bindArgs (PySem.W.fnOf "_law_dig" "_law_dig" (defArgs s__law_dig) (defBody s__law_dig) (defScope s__law_dig) .none kV doc pm an cdv ct) ⟨us, []⟩ = pure ((["ditch", "many"] : List Str).zip us) := fun _ _ _ _ _ _ us hl => match us, hl with | [_, _], _ => rfl
theorem bi__law_pick : ∀ (kV doc pm : Value) (an : Option Addr) (cdv ct : Value) (us : List Value), us.length = (["ditch", "some"] : List Str).length → bindArgs (PySem.W.fnOf "_law_pick" "_law_pick" (defArgs s__law_pick) (defBody s__law_pick) (defScope s__law_pick) .none kV doc pm an cdv ct) ⟨us, []⟩ = pure ((["ditch", "some"] : List Str).zip us) := fun _ _ _ _ _ _ us hl => match us, hl with | [_, _], _ => rfl
theorem bi__law_turn : ∀ (kV doc pm : Value) (an : Option Addr) (cdv ct : Value) (us : List Value), us.length = (["a", "b", "c"] : List Str).length → bindArgs (PySem.W.fnOf "_law_turn" "_law_turn" (defArgs s__law_turn) (defBody s__law_turn) (defScope s__law_turn) .none kV doc pm an cdv ct) ⟨us, []⟩ = pure ((["a", "b", "c"] : List Str).zip us) := fun _ _ _ _ _ _ us hl => match us, hl with | [_, _, _], _ => rfl
theorem bi__law_on : ∀ (kV doc pm : Value) (an : Option Addr) (cdv ct : Value) (us : List Value), us.length = (["a", "b", "c"] : List Str).length → bindArgs (PySem.W.fnOf "_law_on" "_law_on" (defArgs s__law_on) (defBody s__law_on) (defScope s__law_on) .none kV doc pm an cdv ct) ⟨us, []⟩ = pure ((["a", "b", "c"] : List Str).zip us) := fun _ _ _ _ _ _ us hl => match us, hl with | [_, _, _], _ => rfl
theorem bi__law_ring : ∀ (kV doc pm : Value) (an : Option Addr) (cdv ct : Value) (us : List Value), us.length = (["points"] : List Str).length → bindArgs (PySem.W.fnOf "_law_ring" "_law_ring" (defArgs s__law_ring) (defBody s__law_ring) (defScope s__law_ring) .none kV doc pm an cdv ct) ⟨us, []⟩ = pure ((["points"] : List Str).zip us) := fun _ _ _ _ _ _ us hl => match us, hl with | [_], _ => rfl
theorem bi__law_low : ∀ (kV doc pm : Value) (an : Option Addr) (cdv ct : Value) (us : List Value), us.length = (["top", "under"] : List Str).length → bindArgs (PySem.W.fnOf "_law_low" "_law_low" (defArgs s__law_low) (defBody s__law_low) (defScope s__law_low) .none kV doc pm an cdv ct) ⟨us, []⟩ = pure ((["top", "under"] : List Str).zip us) := fun _ _ _ _ _ _ us hl => match us, hl with | [_, _], _ => rfl
theorem bi__law_star : ∀ (kV doc pm : Value) (an : Option Addr) (cdv ct : Value) (us : List Value), us.length = (["ditch", "many", "size"] : List Str).length → bindArgs (PySem.W.fnOf "_law_star" "_law_star" (defArgs s__law_star) (defBody s__law_star) (defScope s__law_star) .none kV doc pm an cdv ct) ⟨us, []⟩ = pure ((["ditch", "many", "size"] : List Str).zip us) := fun _ _ _ _ _ _ us hl => match us, hl with | [_, _, _], _ => rfl
theorem bi__law_strip : ∀ (kV doc pm : Value) (an : Option Addr) (cdv ct : Value) (us : List Value), us.length = (["ditch", "many"] : List Str).length → bindArgs (PySem.W.fnOf "_law_strip" "_law_strip" (defArgs s__law_strip) (defBody s__law_strip) (defScope s__law_strip) .none kV doc pm an cdv ct) ⟨us, []⟩ = pure ((["ditch", "many"] : List Str).zip us) := fun _ _ _ _ _ _ us hl => match us, hl with | [_, _], _ => rfl
theorem bi__law_lot : ∀ (kV doc pm : Value) (an : Option Addr) (cdv ct : Value) (us : List Value), us.length = (["ditch"] : List Str).length → bindArgs (PySem.W.fnOf "_law_lot" "_law_lot" (defArgs s__law_lot) (defBody s__law_lot) (defScope s__law_lot) .none kV doc pm an cdv ct) ⟨us, []⟩ = pure ((["ditch"] : List Str).zip us) := fun _ _ _ _ _ _ us hl => match us, hl with | [_], _ => rfl
theorem bi__law_foot : ∀ (kV doc pm : Value) (an : Option Addr) (cdv ct : Value) (us : List Value), us.length = (["point", "side"] : List Str).length → bindArgs (PySem.W.fnOf "_law_foot" "_law_foot" (defArgs s__law_foot) (defBody s__law_foot) (defScope s__law_foot) .none kV doc pm an cdv ct) ⟨us, []⟩ = pure ((["point", "side"] : List Str).zip us) := fun _ _ _ _ _ _ us hl => match us, hl with | [_, _], _ => rfl
theorem bi__law_between : ∀ (kV doc pm : Value) (an : Option Addr) (cdv ct : Value) (us : List Value), us.length = (["one", "other"] : List Str).length → bindArgs (PySem.W.fnOf "_law_between" "_law_between" (defArgs s__law_between) (defBody s__law_between) (defScope s__law_between) .none kV doc pm an cdv ct) ⟨us, []⟩ = pure ((["one", "other"] : List Str).zip us) := fun _ _ _ _ _ _ us hl => match us, hl with | [_, _], _ => rfl
theorem bi__law_pairs : ∀ (kV doc pm : Value) (an : Option Addr) (cdv ct : Value) (us : List Value), us.length = (["rows"] : List Str).length → bindArgs (PySem.W.fnOf "_law_pairs" "_law_pairs" (defArgs s__law_pairs) (defBody s__law_pairs) (defScope s__law_pairs) .none kV doc pm an cdv ct) ⟨us, []⟩ = pure ((["rows"] : List Str).zip us) := fun _ _ _ _ _ _ us hl => match us, hl with | [_], _ => rfl
theorem bi__law_lies : ∀ (kV doc pm : Value) (an : Option Addr) (cdv ct : Value) (us : List Value), us.length = (["point", "side", "under"] : List Str).length → bindArgs (PySem.W.fnOf "_law_lies" "_law_lies" (defArgs s__law_lies) (defBody s__law_lies) (defScope s__law_lies) .none kV doc pm an cdv ct) ⟨us, []⟩ = pure ((["point", "side", "under"] : List Str).zip us) := fun _ _ _ _ _ _ us hl => match us, hl with | [_, _, _], _ => rfl
theorem bi__law_apart : ∀ (kV doc pm : Value) (an : Option Addr) (cdv ct : Value) (us : List Value), us.length = (["one", "other"] : List Str).length → bindArgs (PySem.W.fnOf "_law_apart" "_law_apart" (defArgs s__law_apart) (defBody s__law_apart) (defScope s__law_apart) .none kV doc pm an cdv ct) ⟨us, []⟩ = pure ((["one", "other"] : List Str).zip us) := fun _ _ _ _ _ _ us hl => match us, hl with | [_, _], _ => rfl
theorem bi_law : ∀ (kV doc pm : Value) (an : Option Addr) (cdv ct : Value) (us : List Value), us.length = (["script"] : List Str).length → bindArgs (PySem.W.fnOf "law" "law" (defArgs s_law) (defBody s_law) (defScope s_law) .none kV doc pm an cdv ct) ⟨us, []⟩ = pure ((["script"] : List Str).zip us) := fun _ _ _ _ _ _ us hl => match us, hl with | [_], _ => rfl
theorem bi_Paper_bool : ∀ (kV doc pm : Value) (an : Option Addr) (cdv ct : Value) (us : List Value), us.length = (["self"] : List Str).length → bindArgs (PySem.W.fnOf "__bool__" "Paper.__bool__" (defArgs s_Paper_bool) (defBody s_Paper_bool) (defScope s_Paper_bool) .none kV doc pm an cdv ct) ⟨us, []⟩ = pure ((["self"] : List Str).zip us) := fun _ _ _ _ _ _ us hl => match us, hl with | [_], _ => rfl
theorem bi_Paper_eq : ∀ (kV doc pm : Value) (an : Option Addr) (cdv ct : Value) (us : List Value), us.length = (["self", "other"] : List Str).length → bindArgs (PySem.W.fnOf "__eq__" "Paper.__eq__" (defArgs s_Paper_eq) (defBody s_Paper_eq) (defScope s_Paper_eq) .none kV doc pm an cdv ct) ⟨us, []⟩ = pure ((["self", "other"] : List Str).zip us) := fun _ _ _ _ _ _ us hl => match us, hl with | [_, _], _ => rfl
theorem bi_Fence_init : ∀ (kV doc pm : Value) (an : Option Addr) (cdv ct : Value) (us : List Value), us.length = (["self", "corners"] : List Str).length → bindArgs (PySem.W.fnOf "__init__" "Fence.__init__" (defArgs s_Fence_init) (defBody s_Fence_init) (defScope s_Fence_init) .none kV doc pm an cdv ct) ⟨us, []⟩ = pure ((["self", "corners"] : List Str).zip us) := fun _ _ _ _ _ _ us hl => match us, hl with | [_, _], _ => rfl
theorem bi_Fence_len : ∀ (kV doc pm : Value) (an : Option Addr) (cdv ct : Value) (us : List Value), us.length = (["self"] : List Str).length → bindArgs (PySem.W.fnOf "__len__" "Fence.__len__" (defArgs s_Fence_len) (defBody s_Fence_len) (defScope s_Fence_len) .none kV doc pm an cdv ct) ⟨us, []⟩ = pure ((["self"] : List Str).zip us) := fun _ _ _ _ _ _ us hl => match us, hl with | [_], _ => rfl
theorem bi_Lot_init : ∀ (kV doc pm : Value) (an : Option Addr) (cdv ct : Value) (us : List Value), us.length = (["self", "fences"] : List Str).length → bindArgs (PySem.W.fnOf "__init__" "Lot.__init__" (defArgs s_Lot_init) (defBody s_Lot_init) (defScope s_Lot_init) .none kV doc pm an cdv ct) ⟨us, []⟩ = pure ((["self", "fences"] : List Str).zip us) := fun _ _ _ _ _ _ us hl => match us, hl with | [_, _], _ => rfl
theorem bi_Lot_side : ∀ (kV doc pm : Value) (an : Option Addr) (cdv ct : Value) (us : List Value), us.length = (["self", "at"] : List Str).length → bindArgs (PySem.W.fnOf "side" "Lot.side" (defArgs s_Lot_side) (defBody s_Lot_side) (defScope s_Lot_side) .none kV doc pm an cdv ct) ⟨us, []⟩ = pure ((["self", "at"] : List Str).zip us) := fun _ _ _ _ _ _ us hl => match us, hl with | [_, _], _ => rfl
theorem bx_Closed_init : ∀ (cl : List (Str × Addr)) (kV doc pm : Value) (an : Option Addr) (cdv ct : Value) (us : List Value), us.length = (["self", "is_left"] : List Str).length → bindArgs (PySem.W.fnX "__init__" "Closed.__init__" (defArgs s_Closed_init) (defBody s_Closed_init) (defScope s_Closed_init) cl .none kV doc pm an cdv ct) ⟨us, []⟩ = pure ((["self", "is_left"] : List Str).zip us) := fun _ _ _ _ _ _ _ us hl => match us, hl with | [_, _], _ => rfl
theorem bx_Apart_init : ∀ (cl : List (Str × Addr)) (kV doc pm : Value) (an : Option Addr) (cdv ct : Value) (us : List Value), us.length = (["self"] : List Str).length → bindArgs (PySem.W.fnX "__init__" "Apart.__init__" (defArgs s_Apart_init) (defBody s_Apart_init) (defScope s_Apart_init) cl .none kV doc pm an cdv ct) ⟨us, []⟩ = pure ((["self"] : List Str).zip us) := fun _ _ _ _ _ _ _ us hl => match us, hl with | [_], _ => rfl
theorem bx_Gap_init : ∀ (cl : List (Str × Addr)) (kV doc pm : Value) (an : Option Addr) (cdv ct : Value) (us : List Value), us.length = (["self", "squared", "one", "other", "here", "there"] : List Str).length → bindArgs (PySem.W.fnX "__init__" "Gap.__init__" (defArgs s_Gap_init) (defBody s_Gap_init) (defScope s_Gap_init) cl .none kV doc pm an cdv ct) ⟨us, []⟩ = pure ((["self", "squared", "one", "other", "here", "there"] : List Str).zip us) := fun _ _ _ _ _ _ _ us hl => match us, hl with | [_, _, _, _, _, _], _ => rfl
theorem facts {K : PySem.W.Frag} {h : Heap} {mg : Str → Option Value} (X : K.In h) (G : h.Ns mainGlobals mg) (c : SaysZ faL fnL ez suL K) : ∃ A : Ads, Txt K mg A ∧ A.f_law = ga K "law" := by
  have a := fun i b e => all_at (l := ezL K) (b := b) c.more i e
  obtain ⟨d_lowest, F_lowest⟩ := c.d.def_ 0 (d := dA "lowest" "lowest" s_lowest) rfl
  obtain ⟨d_pair_of, F_pair_of⟩ := c.d.def_ 1 (d := dA "pair_of" "pair_of" s_pair_of) rfl
  obtain ⟨d_sum_of, F_sum_of⟩ := c.d.def_ 2 (d := dA "sum_of" "sum_of" s_sum_of) rfl
  obtain ⟨d_difference, F_difference⟩ := c.d.def_ 3 (d := dA "difference" "difference" s_difference) rfl
  obtain ⟨d_product_of, F_product_of⟩ := c.d.def_ 4 (d := dA "product_of" "product_of" s_product_of) rfl
  obtain ⟨d_quotient, F_quotient⟩ := c.d.def_ 5 (d := dA "quotient" "quotient" s_quotient) rfl
  obtain ⟨d_is_below, F_is_below⟩ := c.d.def_ 6 (d := dA "is_below" "is_below" s_is_below) rfl
  obtain ⟨d_sign, F_sign⟩ := c.d.def_ 7 (d := dA "sign" "sign" s_sign) rfl
  obtain ⟨d_is_integer, F_is_integer⟩ := c.d.def_ 8 (d := dA "is_integer" "is_integer" s_is_integer) rfl
  obtain ⟨d_is_within, F_is_within⟩ := c.d.def_ 9 (d := dA "is_within" "is_within" s_is_within) rfl
  obtain ⟨d_is_row, F_is_row⟩ := c.d.def_ 10 (d := dA "is_row" "is_row" s_is_row) rfl
  obtain ⟨d_is_pair, F_is_pair⟩ := c.d.def_ 11 (d := dA "is_pair" "is_pair" s_is_pair) rfl
  obtain ⟨d_is_number, F_is_number⟩ := c.d.def_ 12 (d := dA "is_number" "is_number" s_is_number) rfl
  obtain ⟨d_is_point, F_is_point⟩ := c.d.def_ 13 (d := dA "is_point" "is_point" s_is_point) rfl
  obtain ⟨d_are_points, F_are_points⟩ := c.d.def_ 14 (d := dA "are_points" "are_points" s_are_points) rfl
  obtain ⟨d_point_of, F_point_of⟩ := c.d.def_ 15 (d := dA "point_of" "point_of" s_point_of) rfl
  obtain ⟨d_joined, F_joined⟩ := c.d.def_ 16 (d := dA "joined" "joined" s_joined) rfl
  obtain ⟨d_way_between, F_way_between⟩ := c.d.def_ 17 (d := dA "way_between" "way_between" s_way_between) rfl
  obtain ⟨d_stretched, F_stretched⟩ := c.d.def_ 18 (d := dA "stretched" "stretched" s_stretched) rfl
  obtain ⟨d_cross_of, F_cross_of⟩ := c.d.def_ 19 (d := dA "cross_of" "cross_of" s_cross_of) rfl
  obtain ⟨d_dot_of, F_dot_of⟩ := c.d.def_ 20 (d := dA "dot_of" "dot_of" s_dot_of) rfl
  obtain ⟨d_moved, F_moved⟩ := c.d.def_ 21 (d := dA "moved" "moved" s_moved) rfl
  obtain ⟨d_comes_before, F_comes_before⟩ := c.d.def_ 22 (d := dA "comes_before" "comes_before" s_comes_before) rfl
  obtain ⟨d_fixed, F_fixed⟩ := c.d.def_ 23 (d := dA "fixed" "fixed" s_fixed) rfl
  obtain ⟨d__are_equal, F__are_equal⟩ := c.d.def_ 24 (d := dA "_are_equal" "_are_equal" s__are_equal) rfl
  obtain ⟨d_sides_of, F_sides_of⟩ := c.d.def_ 25 (d := dA "sides_of" "sides_of" s_sides_of) rfl
  obtain ⟨d__loose, F__loose⟩ := c.d.def_ 26 (d := dA "_loose" "_loose" s__loose) rfl
  obtain ⟨d_bend, F_bend⟩ := c.d.def_ 27 (d := dA "bend" "bend" s_bend) rfl
  obtain ⟨d_ordered_segments, F_ordered_segments⟩ := c.d.def_ 28 (d := dA "ordered_segments" "_ordered" s_ordered_segments) rfl
  obtain ⟨d__shared_stretch, F__shared_stretch⟩ := c.d.def_ 29 (d := dA "_shared_stretch" "_shared_stretch" s__shared_stretch) rfl
  obtain ⟨d_common_point, F_common_point⟩ := c.d.def_ 30 (d := dA "common_point" "common_point" s_common_point) rfl
  obtain ⟨d__corners_in, F__corners_in⟩ := c.d.def_ 31 (d := dA "_corners_in" "_corners_in" s__corners_in) rfl
  obtain ⟨d__goes_back, F__goes_back⟩ := c.d.def_ 32 (d := dA "_goes_back" "_goes_back" s__goes_back) rfl
  obtain ⟨d_are_next, F_are_next⟩ := c.d.def_ 33 (d := dA "are_next" "are_next" s_are_next) rfl
  obtain ⟨d__meeting, F__meeting⟩ := c.d.def_ 34 (d := dA "_meeting" "_meeting" s__meeting) rfl
  obtain ⟨d__doubled_area, F__doubled_area⟩ := c.d.def_ 35 (d := dA "_doubled_area" "_doubled_area" s__doubled_area) rfl
  obtain ⟨d__judged, F__judged⟩ := c.d.def_ 36 (d := dA "_judged" "_judged" s__judged) rfl
  obtain ⟨d__bends_of, F__bends_of⟩ := c.d.def_ 37 (d := dA "_bends_of" "_bends_of" s__bends_of) rfl
  obtain ⟨d__fences_in, F__fences_in⟩ := c.d.def_ 38 (d := dA "_fences_in" "_fences_in" s__fences_in) rfl
  obtain ⟨d__numbered_sides, F__numbered_sides⟩ := c.d.def_ 39 (d := dA "_numbered_sides" "_numbered_sides" s__numbered_sides) rfl
  obtain ⟨d_judged_fences, F_judged_fences⟩ := c.d.def_ 40 (d := dA "judged_fences" "judged_fences" s_judged_fences) rfl
  obtain ⟨d_is_side, F_is_side⟩ := c.d.def_ 41 (d := dA "is_side" "is_side" s_is_side) rfl
  obtain ⟨d_are_neighbours, F_are_neighbours⟩ := c.d.def_ 42 (d := dA "are_neighbours" "are_neighbours" s_are_neighbours) rfl
  obtain ⟨d_check_lot, F_check_lot⟩ := c.d.def_ 43 (d := dA "check_lot" "check_lot" s_check_lot) rfl
  obtain ⟨d__squared, F__squared⟩ := c.d.def_ 44 (d := dA "_squared" "_squared" s__squared) rfl
  obtain ⟨d__nearest, F__nearest⟩ := c.d.def_ 45 (d := dA "_nearest" "_nearest" s__nearest) rfl
  obtain ⟨d__side_of_corner, F__side_of_corner⟩ := c.d.def_ 46 (d := dA "_side_of_corner" "_side_of_corner" s__side_of_corner) rfl
  obtain ⟨d_ordered_gaps, F_ordered_gaps⟩ := c.d.def_ 47 (d := dA "ordered_gaps" "_ordered" s_ordered_gaps) rfl
  obtain ⟨d_gap, F_gap⟩ := c.d.def_ 48 (d := dA "gap" "gap" s_gap) rfl
  obtain ⟨d__law_ditch, F__law_ditch⟩ := c.d.def_ 49 (d := dA "_law_ditch" "_law_ditch" s__law_ditch) rfl
  obtain ⟨d__law_dig, F__law_dig⟩ := c.d.def_ 50 (d := dA "_law_dig" "_law_dig" s__law_dig) rfl
  obtain ⟨d__law_pick, F__law_pick⟩ := c.d.def_ 51 (d := dA "_law_pick" "_law_pick" s__law_pick) rfl
  obtain ⟨d__law_turn, F__law_turn⟩ := c.d.def_ 52 (d := dA "_law_turn" "_law_turn" s__law_turn) rfl
  obtain ⟨d__law_on, F__law_on⟩ := c.d.def_ 53 (d := dA "_law_on" "_law_on" s__law_on) rfl
  obtain ⟨d__law_ring, F__law_ring⟩ := c.d.def_ 54 (d := dA "_law_ring" "_law_ring" s__law_ring) rfl
  obtain ⟨d__law_low, F__law_low⟩ := c.d.def_ 55 (d := dA "_law_low" "_law_low" s__law_low) rfl
  obtain ⟨d__law_star, F__law_star⟩ := c.d.def_ 56 (d := dA "_law_star" "_law_star" s__law_star) rfl
  obtain ⟨d__law_strip, F__law_strip⟩ := c.d.def_ 57 (d := dA "_law_strip" "_law_strip" s__law_strip) rfl
  obtain ⟨d__law_lot, F__law_lot⟩ := c.d.def_ 58 (d := dA "_law_lot" "_law_lot" s__law_lot) rfl
  obtain ⟨d__law_foot, F__law_foot⟩ := c.d.def_ 59 (d := dA "_law_foot" "_law_foot" s__law_foot) rfl
  obtain ⟨d__law_between, F__law_between⟩ := c.d.def_ 60 (d := dA "_law_between" "_law_between" s__law_between) rfl
  obtain ⟨d__law_pairs, F__law_pairs⟩ := c.d.def_ 61 (d := dA "_law_pairs" "_law_pairs" s__law_pairs) rfl
  obtain ⟨d__law_lies, F__law_lies⟩ := c.d.def_ 62 (d := dA "_law_lies" "_law_lies" s__law_lies) rfl
  obtain ⟨d__law_apart, F__law_apart⟩ := c.d.def_ 63 (d := dA "_law_apart" "_law_apart" s__law_apart) rfl
  obtain ⟨d_law, F_law⟩ := c.d.def_ 64 (d := dA "law" "law" s_law) rfl
  obtain ⟨d_Paper_init, F_Paper_init⟩ := c.d.def_ 65 (d := dM "Paper" "__init__" "Paper.__init__" s_Paper_init) rfl
  obtain ⟨d_Paper_bool, F_Paper_bool⟩ := c.d.def_ 66 (d := dM "Paper" "__bool__" "Paper.__bool__" s_Paper_bool) rfl
  obtain ⟨d_Paper_eq, F_Paper_eq⟩ := c.d.def_ 67 (d := dM "Paper" "__eq__" "Paper.__eq__" s_Paper_eq) rfl
  obtain ⟨d_Fence_init, F_Fence_init⟩ := c.d.def_ 68 (d := dM "Fence" "__init__" "Fence.__init__" s_Fence_init) rfl
  obtain ⟨d_Fence_len, F_Fence_len⟩ := c.d.def_ 69 (d := dM "Fence" "__len__" "Fence.__len__" s_Fence_len) rfl
  obtain ⟨d_Lot_init, F_Lot_init⟩ := c.d.def_ 70 (d := dM "Lot" "__init__" "Lot.__init__" s_Lot_init) rfl
  obtain ⟨d_Lot_side, F_Lot_side⟩ := c.d.def_ 71 (d := dM "Lot" "side" "Lot.side" s_Lot_side) rfl
  obtain ⟨cda_Closed, cc_Closed, d_Closed_init, U_Closed, B_Closed⟩ := sup_ok (d := ⟨"Closed", "Closed.__init__", s_Closed_init⟩) (px := "Paper") (ps := ["self", "is_left"]) (c.sup 0 rfl) (a 5 _ rfl) bx_Closed_init
  obtain ⟨cda_Apart, cc_Apart, d_Apart_init, U_Apart, B_Apart⟩ := sup_ok (d := ⟨"Apart", "Apart.__init__", s_Apart_init⟩) (px := "Paper") (ps := ["self"]) (c.sup 1 rfl) (a 6 _ rfl) bx_Apart_init
  obtain ⟨cda_Gap, cc_Gap, d_Gap_init, U_Gap, B_Gap⟩ := sup_ok (d := ⟨"Gap", "Gap.__init__", s_Gap_init⟩) (px := "Paper") (ps := ["self", "squared", "one", "other", "here", "there"]) (c.sup 2 rfl) (a 7 _ rfl) bx_Gap_init
  exact ⟨⟨ga K "lowest", d_lowest, ga K "pair_of", d_pair_of, ga K "sum_of", d_sum_of, ga K "difference", d_difference, ga K "product_of", d_product_of, ga K "quotient", d_quotient, ga K "is_below", d_is_below, ga K "sign", d_sign, ga K "is_integer", d_is_integer, ga K "is_within", d_is_within, ga K "is_row", d_is_row, ga K "is_pair", d_is_pair, ga K "is_number", d_is_number, ga K "is_point", d_is_point, ga K "are_points", d_are_points, ga K "point_of", d_point_of, ga K "joined", d_joined, ga K "way_between", d_way_between, ga K "stretched", d_stretched, ga K "cross_of", d_cross_of, ga K "dot_of", d_dot_of, ga K "moved", d_moved, ga K "comes_before", d_comes_before, ga K "fixed", d_fixed, ga K "_are_equal", d__are_equal, ga K "sides_of", d_sides_of, ga K "_loose", d__loose, ga K "bend", d_bend, ga K "ordered_segments", d_ordered_segments, ga K "_shared_stretch", d__shared_stretch, ga K "common_point", d_common_point, ga K "_corners_in", d__corners_in, ga K "_goes_back", d__goes_back, ga K "are_next", d_are_next, ga K "_meeting", d__meeting, ga K "_doubled_area", d__doubled_area, ga K "_judged", d__judged, ga K "_bends_of", d__bends_of, ga K "_fences_in", d__fences_in, ga K "_numbered_sides", d__numbered_sides, ga K "judged_fences", d_judged_fences, ga K "is_side", d_is_side, ga K "are_neighbours", d_are_neighbours, ga K "check_lot", d_check_lot, ga K "_squared", d__squared, ga K "_nearest", d__nearest, ga K "_side_of_corner", d__side_of_corner, ga K "ordered_gaps", d_ordered_gaps, ga K "gap", d_gap, ga K "_law_ditch", d__law_ditch, ga K "_law_dig", d__law_dig, ga K "_law_pick", d__law_pick, ga K "_law_turn", d__law_turn, ga K "_law_on", d__law_on, ga K "_law_ring", d__law_ring, ga K "_law_low", d__law_low, ga K "_law_star", d__law_star, ga K "_law_strip", d__law_strip, ga K "_law_lot", d__law_lot, ga K "_law_foot", d__law_foot, ga K "_law_between", d__law_between, ga K "_law_pairs", d__law_pairs, ga K "_law_lies", d__law_lies, ga K "_law_apart", d__law_apart, ga K "law", d_law, ga K "ZERO", ga K "BENDS", ga K "Paper", ga K "Closed", ga K "Fence", ga K "Apart", ga K "Lot", ga K "Gap", (ma K (ga K "Paper") "__init__"), d_Paper_init, (ma K (ga K "Paper") "__bool__"), d_Paper_bool, (ma K (ga K "Paper") "__eq__"), d_Paper_eq, (ma K (ga K "Fence") "__init__"), d_Fence_init, (ma K (ga K "Fence") "__len__"), d_Fence_len, (ma K (ga K "Lot") "__init__"), d_Lot_init, (ma K (ga K "Lot") "side"), d_Lot_side, (ma K (ga K "Closed") "__init__"), d_Closed_init, (ma K (ga K "Apart") "__init__"), d_Apart_init, (ma K (ga K "Gap") "__init__"), d_Gap_init, cda_Closed, cc_Closed, cda_Apart, cc_Apart, cda_Gap, cc_Gap⟩, ⟨⟨glo_ok X G (c.d.fact 0 (f := .glo "lowest") rfl), fun_of F_lowest, F_lowest.bindsN bi_lowest⟩,
    ⟨glo_ok X G (c.d.fact 1 (f := .glo "pair_of") rfl), fun_of F_pair_of, F_pair_of.bindsN bi_pair_of⟩,
    ⟨glo_ok X G (c.d.fact 2 (f := .glo "sum_of") rfl), fun_of F_sum_of, F_sum_of.bindsN bi_sum_of⟩,
    ⟨glo_ok X G (c.d.fact 3 (f := .glo "difference") rfl), fun_of F_difference, F_difference.bindsN bi_difference⟩,
    ⟨glo_ok X G (c.d.fact 4 (f := .glo "product_of") rfl), fun_of F_product_of, F_product_of.bindsN bi_product_of⟩,
    ⟨glo_ok X G (c.d.fact 5 (f := .glo "quotient") rfl), fun_of F_quotient, F_quotient.bindsN bi_quotient⟩,
    ⟨glo_ok X G (c.d.fact 6 (f := .glo "is_below") rfl), fun_of F_is_below, F_is_below.bindsN bi_is_below⟩,
    ⟨glo_ok X G (c.d.fact 7 (f := .glo "sign") rfl), fun_of F_sign, F_sign.bindsN bi_sign⟩,
    ⟨glo_ok X G (c.d.fact 8 (f := .glo "is_integer") rfl), fun_of F_is_integer, F_is_integer.bindsN bi_is_integer⟩,
    ⟨glo_ok X G (c.d.fact 9 (f := .glo "is_within") rfl), fun_of F_is_within, F_is_within.bindsN bi_is_within⟩,
    ⟨glo_ok X G (c.d.fact 10 (f := .glo "is_row") rfl), fun_of F_is_row, F_is_row.bindsN bi_is_row⟩,
    ⟨glo_ok X G (c.d.fact 11 (f := .glo "is_pair") rfl), fun_of F_is_pair, F_is_pair.bindsN bi_is_pair⟩,
    ⟨glo_ok X G (c.d.fact 12 (f := .glo "is_number") rfl), fun_of F_is_number, F_is_number.bindsN bi_is_number⟩,
    ⟨glo_ok X G (c.d.fact 13 (f := .glo "is_point") rfl), fun_of F_is_point, F_is_point.bindsN bi_is_point⟩,
    ⟨glo_ok X G (c.d.fact 14 (f := .glo "are_points") rfl), fun_of F_are_points, F_are_points.bindsN bi_are_points⟩,
    ⟨glo_ok X G (c.d.fact 15 (f := .glo "point_of") rfl), fun_of F_point_of, F_point_of.bindsN bi_point_of⟩,
    ⟨glo_ok X G (c.d.fact 16 (f := .glo "joined") rfl), fun_of F_joined, F_joined.bindsN bi_joined⟩,
    ⟨glo_ok X G (c.d.fact 17 (f := .glo "way_between") rfl), fun_of F_way_between, F_way_between.bindsN bi_way_between⟩,
    ⟨glo_ok X G (c.d.fact 18 (f := .glo "stretched") rfl), fun_of F_stretched, F_stretched.bindsN bi_stretched⟩,
    ⟨glo_ok X G (c.d.fact 19 (f := .glo "cross_of") rfl), fun_of F_cross_of, F_cross_of.bindsN bi_cross_of⟩,
    ⟨glo_ok X G (c.d.fact 20 (f := .glo "dot_of") rfl), fun_of F_dot_of, F_dot_of.bindsN bi_dot_of⟩,
    ⟨glo_ok X G (c.d.fact 21 (f := .glo "moved") rfl), fun_of F_moved, F_moved.bindsN bi_moved⟩,
    ⟨glo_ok X G (c.d.fact 22 (f := .glo "comes_before") rfl), fun_of F_comes_before, F_comes_before.bindsN bi_comes_before⟩,
    ⟨glo_ok X G (c.d.fact 23 (f := .glo "fixed") rfl), fun_of F_fixed, F_fixed.bindsN bi_fixed⟩,
    ⟨glo_ok X G (c.d.fact 24 (f := .glo "_are_equal") rfl), fun_of F__are_equal, F__are_equal.bindsN bi__are_equal⟩,
    ⟨glo_ok X G (c.d.fact 25 (f := .glo "sides_of") rfl), fun_of F_sides_of, F_sides_of.bindsN bi_sides_of⟩,
    ⟨glo_ok X G (c.d.fact 26 (f := .glo "_loose") rfl), fun_of F__loose, F__loose.bindsN bi__loose⟩,
    ⟨glo_ok X G (c.d.fact 27 (f := .glo "bend") rfl), fun_of F_bend, F_bend.bindsN bi_bend⟩,
    ⟨glo_ok X G (c.d.fact 29 (f := .glo "_shared_stretch") rfl), fun_of F__shared_stretch, F__shared_stretch.bindsN bi__shared_stretch⟩,
    ⟨glo_ok X G (c.d.fact 30 (f := .glo "common_point") rfl), fun_of F_common_point, F_common_point.bindsN bi_common_point⟩,
    ⟨glo_ok X G (c.d.fact 31 (f := .glo "_corners_in") rfl), fun_of F__corners_in, F__corners_in.bindsN bi__corners_in⟩,
    ⟨glo_ok X G (c.d.fact 32 (f := .glo "_goes_back") rfl), fun_of F__goes_back, F__goes_back.bindsN bi__goes_back⟩,
    ⟨glo_ok X G (c.d.fact 33 (f := .glo "are_next") rfl), fun_of F_are_next, F_are_next.bindsN bi_are_next⟩,
    ⟨glo_ok X G (c.d.fact 34 (f := .glo "_meeting") rfl), fun_of F__meeting, F__meeting.bindsN bi__meeting⟩,
    ⟨glo_ok X G (c.d.fact 35 (f := .glo "_doubled_area") rfl), fun_of F__doubled_area, F__doubled_area.bindsN bi__doubled_area⟩,
    ⟨glo_ok X G (c.d.fact 36 (f := .glo "_judged") rfl), fun_of F__judged, F__judged.bindsN bi__judged⟩,
    ⟨glo_ok X G (c.d.fact 37 (f := .glo "_bends_of") rfl), fun_of F__bends_of, F__bends_of.bindsN bi__bends_of⟩,
    ⟨glo_ok X G (c.d.fact 38 (f := .glo "_fences_in") rfl), fun_of F__fences_in, F__fences_in.bindsN bi__fences_in⟩,
    ⟨glo_ok X G (c.d.fact 39 (f := .glo "_numbered_sides") rfl), fun_of F__numbered_sides, F__numbered_sides.bindsN bi__numbered_sides⟩,
    ⟨glo_ok X G (c.d.fact 40 (f := .glo "judged_fences") rfl), fun_of F_judged_fences, F_judged_fences.bindsN bi_judged_fences⟩,
    ⟨glo_ok X G (c.d.fact 41 (f := .glo "is_side") rfl), fun_of F_is_side, F_is_side.bindsN bi_is_side⟩,
    ⟨glo_ok X G (c.d.fact 42 (f := .glo "are_neighbours") rfl), fun_of F_are_neighbours, F_are_neighbours.bindsN bi_are_neighbours⟩,
    ⟨glo_ok X G (c.d.fact 43 (f := .glo "check_lot") rfl), fun_of F_check_lot, F_check_lot.bindsN bi_check_lot⟩,
    ⟨glo_ok X G (c.d.fact 44 (f := .glo "_squared") rfl), fun_of F__squared, F__squared.bindsN bi__squared⟩,
    ⟨glo_ok X G (c.d.fact 45 (f := .glo "_nearest") rfl), fun_of F__nearest, F__nearest.bindsN bi__nearest⟩,
    ⟨glo_ok X G (c.d.fact 46 (f := .glo "_side_of_corner") rfl), fun_of F__side_of_corner, F__side_of_corner.bindsN bi__side_of_corner⟩,
    ⟨glo_ok X G (c.d.fact 48 (f := .glo "gap") rfl), fun_of F_gap, F_gap.bindsN bi_gap⟩,
    ⟨glo_ok X G (c.d.fact 49 (f := .glo "_law_ditch") rfl), fun_of F__law_ditch, F__law_ditch.bindsN bi__law_ditch⟩,
    ⟨glo_ok X G (c.d.fact 50 (f := .glo "_law_dig") rfl), fun_of F__law_dig, F__law_dig.bindsN bi__law_dig⟩,
    ⟨glo_ok X G (c.d.fact 51 (f := .glo "_law_pick") rfl), fun_of F__law_pick, F__law_pick.bindsN bi__law_pick⟩,
    ⟨glo_ok X G (c.d.fact 52 (f := .glo "_law_turn") rfl), fun_of F__law_turn, F__law_turn.bindsN bi__law_turn⟩,
    ⟨glo_ok X G (c.d.fact 53 (f := .glo "_law_on") rfl), fun_of F__law_on, F__law_on.bindsN bi__law_on⟩,
    ⟨glo_ok X G (c.d.fact 54 (f := .glo "_law_ring") rfl), fun_of F__law_ring, F__law_ring.bindsN bi__law_ring⟩,
    ⟨glo_ok X G (c.d.fact 55 (f := .glo "_law_low") rfl), fun_of F__law_low, F__law_low.bindsN bi__law_low⟩,
    ⟨glo_ok X G (c.d.fact 56 (f := .glo "_law_star") rfl), fun_of F__law_star, F__law_star.bindsN bi__law_star⟩,
    ⟨glo_ok X G (c.d.fact 57 (f := .glo "_law_strip") rfl), fun_of F__law_strip, F__law_strip.bindsN bi__law_strip⟩,
    ⟨glo_ok X G (c.d.fact 58 (f := .glo "_law_lot") rfl), fun_of F__law_lot, F__law_lot.bindsN bi__law_lot⟩,
    ⟨glo_ok X G (c.d.fact 59 (f := .glo "_law_foot") rfl), fun_of F__law_foot, F__law_foot.bindsN bi__law_foot⟩,
    ⟨glo_ok X G (c.d.fact 60 (f := .glo "_law_between") rfl), fun_of F__law_between, F__law_between.bindsN bi__law_between⟩,
    ⟨glo_ok X G (c.d.fact 61 (f := .glo "_law_pairs") rfl), fun_of F__law_pairs, F__law_pairs.bindsN bi__law_pairs⟩,
    ⟨glo_ok X G (c.d.fact 62 (f := .glo "_law_lies") rfl), fun_of F__law_lies, F__law_lies.bindsN bi__law_lies⟩,
    ⟨glo_ok X G (c.d.fact 63 (f := .glo "_law_apart") rfl), fun_of F__law_apart, F__law_apart.bindsN bi__law_apart⟩,
    ⟨glo_ok X G (c.d.fact 64 (f := .glo "law") rfl), fun_of F_law, F_law.bindsN bi_law⟩,
    ⟨glo_ok X G (c.d.fact 28 (f := .glo "ordered_segments") rfl), fun_of F_ordered_segments, F_ordered_segments.bindsN bi_ordered_segments⟩,
    ⟨glo_ok X G (c.d.fact 47 (f := .glo "ordered_gaps") rfl), fun_of F_ordered_gaps, F_ordered_gaps.bindsN bi_ordered_gaps⟩,
    free_ok X G (c.d.fact 65 (f := .free "len") rfl),
    free_ok X G (c.d.fact 66 (f := .free "abs") rfl),
    free_ok X G (c.d.fact 67 (f := .free "isinstance") rfl),
    free_ok X G (c.d.fact 68 (f := .free "int") rfl),
    free_ok X G (c.d.fact 69 (f := .free "bool") rfl),
    free_ok X G (c.d.fact 70 (f := .free "list") rfl),
    free_ok X G (c.d.fact 71 (f := .free "tuple") rfl),
    free_ok X G (c.d.fact 72 (f := .free "range") rfl),
    free_ok X G (c.d.fact 73 (f := .free "all") rfl),
    free_ok X G (c.d.fact 74 (f := .free "zip") rfl),
    free_ok X G (c.d.fact 75 (f := .free "enumerate") rfl),
    free_ok X G (c.d.fact 76 (f := .free "super") rfl),
    free_ok X G (c.d.fact 77 (f := .free "type") rfl),
    free_ok X G (c.d.fact 78 (f := .free "sum") rfl),
    free_ok X G (c.d.fact 79 (f := .free "sorted") rfl),
    free_ok X G (c.d.fact 80 (f := .free "repr") rfl),
    free_ok X G (c.d.fact 81 (f := .free "min") rfl),
    free_ok X G (c.d.fact 82 (f := .free "max") rfl),
    gcd_ok X G (a 0 _ rfl),
    glo_ok X G (c.d.fact 83 (f := .glo "ZERO") rfl),
    fun H => tupB_ok (a 1 _ rfl) H,
    glo_ok X G (c.d.fact 84 (f := .glo "BENDS") rfl),
    (fun k hk => hk.elim (fun e => by subst e; exact kintT_ok (a 2 _ rfl)) fun hk => hk.elim (fun e => by subst e; exact kintT_ok (a 3 _ rfl)) fun e => by subst e; exact kintT_ok (a 4 _ rfl)),
    int_ok X G (c.d.fact 85 (f := .int "FEWEST_CORNERS" 3) rfl),
    int_ok X G (c.d.fact 86 (f := .int "MOST_CORNERS" 40) rfl),
    int_ok X G (c.d.fact 87 (f := .int "MOST_FENCES" 6) rfl),
    int_ok X G (c.d.fact 88 (f := .int "MOST_SIDES" 60) rfl),
    ⟨fun_of F_Paper_bool, F_Paper_bool.bindsN bi_Paper_bool⟩,
    ⟨fun_of F_Paper_eq, F_Paper_eq.bindsN bi_Paper_eq⟩,
    ⟨fun_of F_Fence_init, F_Fence_init.bindsN bi_Fence_init⟩,
    ⟨fun_of F_Fence_len, F_Fence_len.bindsN bi_Fence_len⟩,
    ⟨fun_of F_Lot_init, F_Lot_init.bindsN bi_Lot_init⟩,
    ⟨fun_of F_Lot_side, F_Lot_side.bindsN bi_Lot_side⟩,
    fun_of F_Paper_init,
    U_Closed,
    U_Apart,
    U_Gap,
    B_Closed,
    B_Apart,
    B_Gap,
    cls_ok (c.d.fact 89 (f := .cls "Closed") rfl),
    cls_ok (c.d.fact 90 (f := .cls "Fence") rfl),
    cls_ok (c.d.fact 91 (f := .cls "Apart") rfl),
    cls_ok (c.d.fact 92 (f := .cls "Lot") rfl),
    cls_ok (c.d.fact 93 (f := .cls "Gap") rfl),
    noat_ok (c.d.fact 94 (f := .noat "Closed" "word") rfl),
    noat_ok (c.d.fact 95 (f := .noat "Closed" "parts") rfl),
    noat_ok (c.d.fact 96 (f := .noat "Closed" "is_left") rfl),
    noat_ok (c.d.fact 97 (f := .noat "Apart" "word") rfl),
    noat_ok (c.d.fact 98 (f := .noat "Apart" "parts") rfl),
    noat_ok (c.d.fact 99 (f := .noat "Fence" "corners") rfl),
    noat_ok (c.d.fact 100 (f := .noat "Fence" "sides") rfl),
    noat_ok (c.d.fact 101 (f := .noat "Fence" "area") rfl),
    noat_ok (c.d.fact 102 (f := .noat "Fence" "bends") rfl),
    noat_ok (c.d.fact 103 (f := .noat "Lot" "fences") rfl),
    noat_ok (c.d.fact 104 (f := .noat "Lot" "sides") rfl),
    noat_ok (c.d.fact 105 (f := .noat "Gap" "word") rfl),
    noat_ok (c.d.fact 106 (f := .noat "Gap" "parts") rfl),
    noat_ok (c.d.fact 107 (f := .noat "Gap" "squared") rfl),
    noat_ok (c.d.fact 108 (f := .noat "Gap" "one") rfl),
    noat_ok (c.d.fact 109 (f := .noat "Gap" "other") rfl),
    noat_ok (c.d.fact 110 (f := .noat "Gap" "here") rfl),
    noat_ok (c.d.fact 111 (f := .noat "Gap" "there") rfl),
    mkr_ok (c.d.fact 112 (f := .mkr "Closed") rfl),
    mkr_ok (c.d.fact 113 (f := .mkr "Fence") rfl),
    mkr_ok (c.d.fact 114 (f := .mkr "Apart") rfl),
    mkr_ok (c.d.fact 115 (f := .mkr "Lot") rfl),
    mkr_ok (c.d.fact 116 (f := .mkr "Gap") rfl),
    glo_ok X G (c.d.fact 117 (f := .glo "Closed") rfl),
    glo_ok X G (c.d.fact 118 (f := .glo "Fence") rfl),
    glo_ok X G (c.d.fact 119 (f := .glo "Apart") rfl),
    glo_ok X G (c.d.fact 120 (f := .glo "Lot") rfl),
    glo_ok X G (c.d.fact 121 (f := .glo "Gap") rfl),
    eqO_ok (a 8 _ rfl),
    eqO_ok (a 9 _ rfl),
    eqO_ok (a 10 _ rfl),
    of_decide_eq_true (a 11 _ rfl),
    eqO_ok (a 12 _ rfl),
    of_decide_eq_true (a 13 _ rfl),
    eqO_ok (a 14 _ rfl),
    a 15 _ rfl,
    eqO_ok (a 16 _ rfl),
    meth_ok (c.d.fact 122 (f := .meth "Lot" "side") rfl),
    ins_ok (a 17 _ rfl),
    ins_ok (a 18 _ rfl),
    ins_ok (a 19 _ rfl),
    of_decide_eq_true (a 20 _ rfl),
    of_decide_eq_true (a 21 _ rfl),
    of_decide_eq_true (a 22 _ rfl)⟩, rfl⟩
end Odd
open PySem PySem.W PySem.Calls PyProof.Rows
set_option maxHeartbeats 0 in
theorem PySem.Challenge.cw_oddsquares_k10_whole_gaps_of_lots_holds : PySem.Challenge.rw_oddsquares_k10_whole_gaps_of_lots.Holds := by
  w_on; o_law
  refine HandSHeadRun.head_imp (r := OpenLaw.row PySem.Challenge.rw_oddsquares_k10_whole_gaps_of_lots) (q := view (OpenLaw.row PySem.Challenge.rw_oddsquares_k10_whole_gaps_of_lots).prog [0, 108]) (H := Odd.hk) (ob := Odd.obH) (M := 30000) (loose := Odd.names) (d := HandSHeadRun.topDef (OpenLaw.row PySem.Challenge.rw_oddsquares_k10_whole_gaps_of_lots).prog 108) (kwd := []) Odd.obH_eq Odd.run (by kernel_rfl) (by kernel_rfl) (by kernel_rfl) (by rfl) (by first | assumption | decide +kernel) (by decide +kernel) ⟨rfl, rfl, rfl, rfl, rfl, by decide +kernel⟩ ?hw ?hc
  case hw => w_witness2
  case hc =>
    refine Odd.walk_ofEG (l := PySem.Challenge.rw_oddsquares_k10_whole_gaps_of_lots) (n := 63) (k := 13) (x := "script") rfl (by decide) (by kernel_rfl) ⟨rfl, by decide, by decide⟩ ?F
    intro w mg fa h Y G hmg0
    obtain ⟨K, KX, c⟩ := Y
    have hmg : mg ("law" : PySem.Str) = some (.ref fa) := by
      have e : (HandSHeadRun.topDef (OpenLaw.row PySem.Challenge.rw_oddsquares_k10_whole_gaps_of_lots).prog 108).name = ("law" : PySem.Str) := by kernel_rfl
      rw [← e]
      exact hmg0
    obtain ⟨A, T, hA⟩ := Odd.facts KX G c
    have e := hmg.symm.trans T.law.g
    rw [hA] at e
    injection e with e
    injection e with e
    subst e
    refine ⟨K, A.d_law, Odd.spLaw K, KX, ?_, fun H a ns hl hS => ⟨a, ns, rfl, hS, hl, fun _ => rfl⟩, fun base _ _ => by rw [← hA]; exact Odd.ok_law T⟩
    intro s v
    obtain ⟨oc, od, kV, doc, pm, an, cdv, ct, osl, ed, lk, hcd⟩ := T.law.F.ex
    rw [ed]
    exact .of_eq rfl
#print axioms PySem.Challenge.cw_oddsquares_k10_whole_gaps_of_lots_holds
