import PyProof.Rows.All
import Wide.All
import OpenK.AllK
import Wide.FinOn
import HandS.ForMost
import HandS.ForExc
import HandS.Gcd
import HandS.Wide
import HandS.IsInst
import HandS.Style
import HandS.RaiseMore
import HandS.Defaults
import HandS.TryOnly
import HandS.ClsMeth
import HandS.Nested
import HandS.Star
import HandS.More
import KE.KSuper
import KE.KDictZip
import PyProof.CollectWalk
import HandS.Base
import HandS.Call
import HandS.List
import HandS.Iter
import HandS.Zip0
import HandS.Zip
import HandS.Rev
import HandS.RevTup
import PyProof.Draws
import PyProof.EnumMake
import KE.GoesMore
import HandS.Walk
import HandS.Head0
import HandS.Head1
import HandS.Head2
import HandS.Head3
import HandS.HeadEnd
import HandS.HeadHook1
import HandS.HeadHook2
import HandS.Deep
import HandS.TupAny
import PySem.Challenge.RW_oddsquares_k14_determinants_of_four_side
set_option Elab.async false
set_option linter.all false
set_option maxRecDepth 100000
set_option maxHeartbeats 4000000
namespace Odd
open PySem PySem.Spec PyProof.Rows L2

/-! ### numbers -/
def Canon (p : Int × Int) : Prop := 1 ≤ p.2 ∧ Nat.gcd p.1.natAbs p.2.natAbs = 1
def IsLow (t u : Int) (p : Int × Int) : Prop := Canon p ∧ p.1 * u = t * p.2
def low (t u : Int) : Int × Int := if u < 0 then (t.fdiv (-(Nat.gcd t.natAbs u.natAbs : Int)), u.fdiv (-(Nat.gcd t.natAbs u.natAbs : Int))) else (t.fdiv (Nat.gcd t.natAbs u.natAbs : Int), u.fdiv (Nat.gcd t.natAbs u.natAbs : Int))

theorem low_pos {t u : Int} (h : 0 < u) : ∃ g : Int, 0 < g ∧ t = g * (low t u).1 ∧ u = g * (low t u).2 ∧ Nat.gcd (low t u).1.natAbs (low t u).2.natAbs = 1 := by
  have hg : 0 < Nat.gcd t.natAbs u.natAbs := Nat.gcd_pos_of_pos_right _ (by omega)
  have d1 : ((Nat.gcd t.natAbs u.natAbs : Nat) : Int) ∣ t := Int.ofNat_dvd_left.mpr (Nat.gcd_dvd_left _ _)
  have d2 : ((Nat.gcd t.natAbs u.natAbs : Nat) : Int) ∣ u := Int.ofNat_dvd_left.mpr (Nat.gcd_dvd_right _ _)
  have e1 := Int.mul_fdiv_cancel' d1
  have e2 := Int.mul_fdiv_cancel' d2
  have el : low t u = (t.fdiv (Nat.gcd t.natAbs u.natAbs : Int), u.fdiv (Nat.gcd t.natAbs u.natAbs : Int)) := by
    unfold low
    rw [if_neg (by omega)]
  refine ⟨(Nat.gcd t.natAbs u.natAbs : Int), by omega, ?_, ?_, ?_⟩
  · rw [el]; exact e1.symm
  · rw [el]; exact e2.symm
  · rw [el]
    have a1 : t.natAbs = Nat.gcd t.natAbs u.natAbs * (t.fdiv (Nat.gcd t.natAbs u.natAbs : Int)).natAbs := by
      have := congrArg Int.natAbs e1
      rw [Int.natAbs_mul] at this
      exact this.symm
    have a2 : u.natAbs = Nat.gcd t.natAbs u.natAbs * (u.fdiv (Nat.gcd t.natAbs u.natAbs : Int)).natAbs := by
      have := congrArg Int.natAbs e2
      rw [Int.natAbs_mul] at this
      exact this.symm
    have a3 : Nat.gcd t.natAbs u.natAbs = Nat.gcd t.natAbs u.natAbs * Nat.gcd (t.fdiv (Nat.gcd t.natAbs u.natAbs : Int)).natAbs (u.fdiv (Nat.gcd t.natAbs u.natAbs : Int)).natAbs := by
      rw [← Nat.gcd_mul_left, ← a1, ← a2]
    exact Nat.eq_of_mul_eq_mul_left hg (by rw [Nat.mul_one]; exact a3.symm)
theorem low_neg {t u : Int} (h : u < 0) : low t u = low (-t) (-u) := by
  unfold low
  rw [if_pos h, if_neg (by omega), Int.natAbs_neg, Int.natAbs_neg]
  have k : ∀ x : Int, x.fdiv (-((Nat.gcd t.natAbs u.natAbs : Nat) : Int)) = (-x).fdiv ((Nat.gcd t.natAbs u.natAbs : Nat) : Int) := fun x => by
    have q := Int.neg_fdiv_neg (-x) ((Nat.gcd t.natAbs u.natAbs : Nat) : Int)
    rw [Int.neg_neg] at q
    exact q
  rw [k t, k u]
theorem natAbs_mul_le {g x y : Int} (hg : g ≠ 0) (e : x = g * y) : y.natAbs ≤ x.natAbs := by
  rw [e, Int.natAbs_mul]
  exact Nat.le_mul_of_pos_left _ (by omega)
/-- what lowest makes -/
theorem low_is {t u : Int} (h : u ≠ 0) : IsLow t u (low t u) ∧ (low t u).1.natAbs ≤ t.natAbs ∧ (low t u).2.natAbs ≤ u.natAbs := by
  have pos : ∀ t u : Int, 0 < u → IsLow t u (low t u) ∧ (low t u).1.natAbs ≤ t.natAbs ∧ (low t u).2.natAbs ≤ u.natAbs := fun t u hu => by
    obtain ⟨g, hg, e1, e2, e3⟩ := low_pos (t := t) hu
    generalize low t u = q at *
    obtain ⟨a, b⟩ := q
    dsimp only at *
    have hb : 0 < b := by
      rcases Int.lt_or_le 0 b with x | x
      · exact x
      · have : g * b ≤ 0 := Int.mul_nonpos_of_nonneg_of_nonpos (by omega) x
        omega
    refine ⟨⟨⟨by show 1 ≤ b; omega, e3⟩, ?_⟩, natAbs_mul_le (by omega) e1, natAbs_mul_le (by omega) e2⟩
    show a * u = t * b
    rw [e1, e2, ← Int.mul_assoc, Int.mul_comm a g]
  rcases Int.lt_or_le 0 u with hu | hu
  · exact pos t u hu
  · have hn : u < 0 := by omega
    obtain ⟨⟨c, e⟩, l1, l2⟩ := pos (-t) (-u) (by omega)
    rw [low_neg hn]
    rw [Int.natAbs_neg] at l1 l2
    refine ⟨⟨c, ?_⟩, l1, l2⟩
    rw [Int.mul_neg, Int.neg_mul] at e
    omega
/-- two pairs in lowest terms that are the same number are the same pair -/
theorem canon_eq {p q : Int × Int} (hp : Canon p) (hq : Canon q) (e : p.1 * q.2 = q.1 * p.2) : p = q := by
  obtain ⟨a, b⟩ := p
  obtain ⟨c, d⟩ := q
  obtain ⟨hb, g1⟩ := hp
  obtain ⟨hd, g2⟩ := hq
  dsimp only at *
  have n : a.natAbs * d.natAbs = c.natAbs * b.natAbs := by
    have := congrArg Int.natAbs e
    rwa [Int.natAbs_mul, Int.natAbs_mul] at this
  have d1 : d.natAbs ∣ b.natAbs := (Nat.Coprime.symm g2 : Nat.Coprime d.natAbs c.natAbs).dvd_of_dvd_mul_left ⟨a.natAbs, by rw [← n, Nat.mul_comm]⟩
  have d2 : b.natAbs ∣ d.natAbs := (Nat.Coprime.symm g1 : Nat.Coprime b.natAbs a.natAbs).dvd_of_dvd_mul_left ⟨c.natAbs, by rw [n, Nat.mul_comm]⟩
  have ebd : b = d := by
    have := Nat.dvd_antisymm d2 d1
    omega
  subst ebd
  have : a = c := Int.eq_of_mul_eq_mul_right (by omega) e
  rw [this]
/-- the pair in lowest terms of a pair in lowest terms is itself -/
theorem IsLow.uniq {t u : Int} {p q : Int × Int} (hu : u ≠ 0) (hp : IsLow t u p) (hq : IsLow t u q) : p = q := by
  refine canon_eq hp.1 hq.1 ?_
  refine Int.eq_of_mul_eq_mul_right hu ?_
  have e1 := hp.2
  have e2 := hq.2
  calc p.1 * q.2 * u = (p.1 * u) * q.2 := by rw [Int.mul_assoc, Int.mul_comm q.2 u, ← Int.mul_assoc]
    _ = t * p.2 * q.2 := by rw [e1]
    _ = (t * q.2) * p.2 := by rw [Int.mul_assoc, Int.mul_comm p.2 q.2, ← Int.mul_assoc]
    _ = q.1 * u * p.2 := by rw [e2]
    _ = q.1 * p.2 * u := by rw [Int.mul_assoc, Int.mul_comm u p.2, ← Int.mul_assoc]

/-! ### rules -/
def CDivX (_ j : Int) : Prop := j ≠ 0 ∧ j.natAbs.log2 < 9000
theorem op_fdivX {X : Cx} : OpR X (binaryOp .FloorDiv) (rI CDivX fun i j => .int (i.fdiv j)) := opI fun i j _ _ _ _ _ hc q => floordiv_int hc.1 q (.inl (PyProof.noPylong_of_log2 hc.2))
theorem divx {j : Int} {b : Nat} (h : j ≠ 0) (hb : j.natAbs < 2 ^ b) (h0 : 0 < b) (h9 : b ≤ 9000) : CDivX i j := ⟨h, Nat.lt_of_lt_of_le (PySem.Flt.log2_lt_of h0 hb) h9⟩

/-! ### heaps -/
theorem same_upd {H : Hp} {p : Addr} {o : HO} (h : H p = none) : Same H (upd H p o) := fun b x e => by
  rw [upd_ne (ne_of_none e h)]
  exact e
theorem same_tup {K : PySem.W.Frag} {H H' : Hp} {a : Addr} {xs : List V} (e : Same H H') (h : SqT K H a xs) : SqT K H' a xs := by
  rcases h with (h | ⟨o, h⟩) | h
  · exact .inl (.inl (e _ _ h))
  · exact .inl (.inr ⟨o, e _ _ h⟩)
  · exact .inr h
/-- all but the object at u stands as it stood -/
def But (u : Addr) (H H' : Hp) : Prop := (∀ b, b ≠ u → ∀ o, H b = some o → H' b = some o) ∧ ∀ c ys, H u = some (.lst (c :: ys)) → ∃ ys', H' u = some (.lst (c :: ys'))
theorem same_but {u : Addr} {H H' : Hp} (s : Same H H') : But u H H' := ⟨fun b _ o e => s b o e, fun c ys e => ⟨ys, s _ _ e⟩⟩
theorem But.trans {u : Addr} {H H1 H2 : Hp} (a : But u H H1) (b : But u H1 H2) : But u H H2 := ⟨fun c n o h => b.1 c n o (a.1 c n o h), fun c ys e => by obtain ⟨y1, e1⟩ := a.2 c ys e; exact b.2 c y1 e1⟩
theorem But.refl (u : Addr) (H : Hp) : But u H H := ⟨fun _ _ _ h => h, fun c ys e => ⟨ys, e⟩⟩
theorem but_upd {u : Addr} {H : Hp} {c : V} {xs ys : List V} (h : H u = some (.lst (c :: xs))) : But u H (upd H u (.lst (c :: ys))) := ⟨fun b nb o e => by rw [upd_ne nb]; exact e, fun c' y' e => by rw [h] at e; cases e; exact ⟨ys, upd_same⟩⟩
theorem But.tup {K : PySem.W.Frag} {u : Addr} {H H' : Hp} {a : Addr} {xs : List V} {ys : List V} (s : But u H H') (hu : H u = some (.lst ys)) (h : SqT K H a xs) : SqT K H' a xs := by
  rcases h with (h | ⟨o, h⟩) | h
  · exact .inl (.inl (s.1 _ (ne_of h hu (by intro z; cases z)) _ h))
  · exact .inl (.inr ⟨o, s.1 _ (ne_of h hu (by intro z; cases z)) _ h⟩)
  · exact .inr h
theorem But.lst {K : PySem.W.Frag} {u : Addr} {H H' : Hp} {a : Addr} {xs : List V} {ys : List V} (s : But u H H') (hu : H u = some (.lst ys)) (d : xs ≠ ys) (h : SqL K H a xs) : SqL K H' a xs := by
  rcases h with (h | ⟨o, h⟩) | h
  · exact .inl (.inl (s.1 _ (ne_of h hu (by intro z; injection z with z; exact d z)) _ h))
  · exact .inl (.inr ⟨o, s.1 _ (ne_of h hu (by intro z; cases z)) _ h⟩)
  · exact .inr h

/-! ### what a value is -/
inductive TyN (K : PySem.W.Frag) (H : Hp) : V → String → Prop
  | non : TyN K H .non "NoneType"
  | bl (b : Bool) : TyN K H (.bl b) "bool"
  | int (i : Int) : TyN K H (.int i) "int"
  | str (x : Str) : TyN K H (.str x) "str"
  | lst {p : Addr} {xs : List V} (h : SqL K H p xs) : TyN K H (.ref p) "list"
  | tup {p : Addr} {xs : List V} (h : SqT K H p xs) : TyN K H (.ref p) "tuple"
  | dict {p : Addr} {kvs : List (Key × V)} (h : H p = some (.dK kvs)) : TyN K H (.ref p) "dict"
theorem TyN.x {K : PySem.W.Frag} {H : Hp} {v : V} {T : String} (h : TyN K H v T) : TyX K H v (.type T) := by
  cases h with
  | non => exact .base .non
  | bl b => exact .base (.bl b)
  | int i => exact .base (.int i)
  | str x => exact .base (.str x)
  | lst h =>
    rcases h with (h | ⟨o, h⟩) | ⟨o, its, n, h, c, _⟩
    · exact .base (.lst h)
    · exact .base (.frz h)
    · exact .kList h c
  | tup h =>
    rcases h with (h | ⟨o, h⟩) | ⟨o, its, n, h, c, _⟩
    · exact .base (.tup h)
    · exact .fTuple h
    · exact .kTuple h c
  | dict h => exact .base (.dK h)
theorem TyN.same {K : PySem.W.Frag} {H H' : Hp} {v : V} {T : String} (s : Same H H') (h : TyN K H v T) : TyN K H' v T := by
  cases h with
  | non => exact .non
  | bl b => exact .bl b
  | int i => exact .int i
  | str x => exact .str x
  | lst h => exact .lst (s.seq h)
  | tup h => exact .tup (same_tup s h)
  | dict h => exact .dict (s _ _ h)
/-- a list or a tuple of these values -/
def Sq (K : PySem.W.Frag) (H : Hp) (p : Addr) (xs : List V) : Prop := SqL K H p xs ∨ SqT K H p xs
theorem Sq.same {K : PySem.W.Frag} {H H' : Hp} {p : Addr} {xs : List V} (s : Same H H') (h : Sq K H p xs) : Sq K H' p xs := by
  rcases h with h | h
  · exact .inl (s.seq h)
  · exact .inr (same_tup s h)
theorem Sq.but {K : PySem.W.Frag} {u : Addr} {H H' : Hp} {p : Addr} {xs ys : List V} (s : But u H H') (hu : H u = some (.lst ys)) (d : xs ≠ ys) (h : Sq K H p xs) : Sq K H' p xs := by
  rcases h with h | h
  · exact .inl (s.lst hu d h)
  · exact .inr (s.tup hu h)
/-- a pair of integers as a list or a tuple in lowest terms, or an integer: a number -/
inductive Num (K : PySem.W.Frag) (H : Hp) : V → Int × Int → Prop
  | int (n : Int) : Num K H (.int n) (n, 1)
  | sq {p : Addr} {a b : Int} (h : Sq K H p [.int a, .int b]) (c : Canon (a, b)) : Num K H (.ref p) (a, b)
theorem Num.same {K : PySem.W.Frag} {H H' : Hp} {v : V} {q : Int × Int} (s : Same H H') (h : Num K H v q) : Num K H' v q := by
  cases h with
  | int n => exact .int n
  | sq h c => exact .sq (h.same s) c
theorem Num.but {K : PySem.W.Frag} {u : Addr} {H H' : Hp} {v : V} {q : Int × Int} {c : Addr} {ys : List V} (s : But u H H') (hu : H u = some (.lst (.ref c :: ys))) (h : Num K H v q) : Num K H' v q := by
  cases h with
  | int n => exact .int n
  | sq h c => exact .sq (h.but s hu (by intro z; cases z)) c
theorem Num.canon {K : PySem.W.Frag} {H : Hp} {v : V} {q : Int × Int} (h : Num K H v q) : Canon q := by
  cases h with
  | int n => exact ⟨by show (1 : Int) ≤ 1; omega, Nat.gcd_one_right _⟩
  | sq h c => exact c
/-- a tuple that is a number -/
def Pr (K : PySem.W.Frag) (H : Hp) (v : V) (q : Int × Int) : Prop := ∃ p, v = .ref p ∧ SqT K H p [.int q.1, .int q.2]
theorem Pr.same {K : PySem.W.Frag} {H H' : Hp} {v : V} {q : Int × Int} (s : Same H H') (h : Pr K H v q) : Pr K H' v q := by
  obtain ⟨p, e, h⟩ := h
  exact ⟨p, e, same_tup s h⟩
theorem Pr.but {K : PySem.W.Frag} {u : Addr} {H H' : Hp} {v : V} {q : Int × Int} {ys : List V} (s : But u H H') (hu : H u = some (.lst ys)) (h : Pr K H v q) : Pr K H' v q := by
  obtain ⟨p, e, h⟩ := h
  exact ⟨p, e, s.tup hu h⟩
theorem Pr.num {K : PySem.W.Frag} {H : Hp} {v : V} {q : Int × Int} (h : Pr K H v q) (c : Canon q) : Num K H v q := by
  obtain ⟨p, rfl, h⟩ := h
  exact .sq (.inr h) c
/-- what is no number -/
inductive Bad (K : PySem.W.Frag) (H : Hp) : V → Prop
  | scal {v : V} {T : String} (h : TyN K H v T) (h1 : T ≠ "int") (h2 : T ≠ "list") (h3 : T ≠ "tuple") : Bad K H v
  | len {p : Addr} {xs : List V} (h : Sq K H p xs) (l : xs.length ≠ 2) : Bad K H (.ref p)
  | top {p : Addr} {x y : V} {T U : String} (h : Sq K H p [x, y]) (hx : TyN K H x T) (hT : T ≠ "int") (hy : TyN K H y U) : Bad K H (.ref p)
  | und {p : Addr} {a : Int} {y : V} {U : String} (h : Sq K H p [.int a, y]) (hy : TyN K H y U) (hU : U ≠ "int") : Bad K H (.ref p)
  | low {p : Addr} {a b : Int} (h : Sq K H p [.int a, .int b]) (c : ¬ Canon (a, b)) : Bad K H (.ref p)
theorem Bad.same {K : PySem.W.Frag} {H H' : Hp} {v : V} (s : Same H H') (h : Bad K H v) : Bad K H' v := by
  cases h with
  | scal h h1 h2 h3 => exact .scal (h.same s) h1 h2 h3
  | len h l => exact .len (h.same s) l
  | top h hx hT hy => exact .top (h.same s) (hx.same s) hT (hy.same s)
  | und h hy hU => exact .und (h.same s) (hy.same s) hU
  | low h c => exact .low (h.same s) c
/-- of so many bits -/
def Sm (N : Nat) (q : Int × Int) : Prop := q.1.natAbs < 2 ^ N ∧ q.2.natAbs < 2 ^ N
/-- hands back a number as a tuple -/
def RetP (K : PySem.W.Frag) (H : Hp) (q : Int × Int) (Q : VK) : Prop := ∀ H' p, Same H H' → SqT K H' p [.int q.1, .int q.2] → Q (.ref p) H'
/-- hands back a value -/
def RetV (H : Hp) (v : V) (Q : VK) : Prop := ∀ H', Same H H' → Q v H'
/-- raises an error of the class at C with this part -/
def RaiseP (H : Hp) (C : Addr) (part : V) (E : XK) : Prop := ∀ H' d, Same H H' → H' d = some (.xd [(("part" : Str), part)]) → E (.ref C) (some d) H'
theorem RetP.same {K : PySem.W.Frag} {H H' : Hp} {q : Int × Int} {Q : VK} (s : Same H H') (h : RetP K H q Q) : RetP K H' q Q := fun H2 p s2 e => h H2 p (s.trans s2) e
theorem RetV.same {H H' : Hp} {v : V} {Q : VK} (s : Same H H') (h : RetV H v Q) : RetV H' v Q := fun H2 s2 => h H2 (s.trans s2)
theorem RaiseP.same {H H' : Hp} {C : Addr} {part : V} {E : XK} (s : Same H H') (h : RaiseP H C part E) : RaiseP H' C part E := fun H2 d s2 e => h H2 d (s.trans s2) e
theorem st_of {K : PySem.W.Frag} {H : Hp} {a : Addr} {xs : List V} (h : H a = some (.tup xs)) : SqT K H a xs := .inl (.inl h)
theorem sl_of {K : PySem.W.Frag} {H : Hp} {a : Addr} {xs : List V} (h : H a = some (.lst xs)) : SqL K H a xs := .inl (.inl h)
theorem bt_len : bootBuiltins "len" = some (.builtin "len") := by decide +kernel
theorem bt_abs : bootBuiltins "abs" = some (.builtin "abs") := by decide +kernel
theorem bt_repr : bootBuiltins "repr" = some (.builtin "repr") := by decide +kernel
theorem bt_isinstance : bootBuiltins "isinstance" = some (.builtin "isinstance") := by decide +kernel
theorem bt_int : bootBuiltins "int" = some (.type "int") := by decide +kernel
theorem bt_bool : bootBuiltins "bool" = some (.type "bool") := by decide +kernel
theorem bt_str : bootBuiltins "str" = some (.type "str") := by decide +kernel
theorem bt_list : bootBuiltins "list" = some (.type "list") := by decide +kernel
theorem bt_tuple : bootBuiltins "tuple" = some (.type "tuple") := by decide +kernel
theorem bt_all : bootBuiltins "all" = some (.builtin "all") := by decide +kernel
theorem bt_range : bootBuiltins "range" = some (.type "range") := by decide +kernel
section
variable {X : Cx} {CX : CXT} {k : Nat} {f : Addr} {fd : FuncData} {ps ks : List Str} {sp : Sp} {E : XK} {x : Str} {p pos : Pos} {kws : List Keyword} {tk : TA} {g : List Value → List Value → List Value} {gV : List V → List V → List V}
/-- f(k = v, ..) -/
theorem pe_callK0 (F : FnOk X.prog X.w X.K X.mg X.base CX k f fd ps sp) (hr : Room k X.A) (hg : Gl X x) (hm : X.mg x = some (.ref f)) (hk : PySem.W.keepIn X.K (.ref f) = true) (hb : KBinds X.K fd ps ks g gV) (hx : Passes CX X E)
    (hkw : PK X kws tk) (hall : (backToKw pos (keywordEach kws X.env)).all (·.1.isSome) = true := by rfl) (hks : (backToKw pos (keywordEach kws X.env)).filterMap (·.1) = ks := by rfl)
    (hdb : (x == ("__debug__" : Str)) = false := by decide) (hpl : ((backTo pos (starEach [] X.env)).any (·.1) || (backToKw pos (keywordEach kws X.env)).any (·.1.isNone)) = false := by rfl) :
    PE X (.Call (.Name x p) [] kws pos) (tCallK sp gV E tNil tk) := by
  refine ⟨fun pins s σ H Q I h => ?_⟩
  refine wpAny_Call_Name_kw (ld_glob I hg hm ?_ hdb)
  refine PySem.W.callWith_KW0 (h₀ := X.base) I.ok.mod.kin hk hall (thn (hkw.run pos pins s σ H _ I h) fun ws s2 ⟨zs, H2, I2, rz, q2⟩ => ⟨I2.kIn, ?_⟩) hpl
  rw [hks]
  exact run_fnk (us := []) F hr hb hx I2 .nil rz q2
/-- repr of a bool, of an int -/
theorem call_reprX : CallR X (.builtin "repr") (fun xs H Q => (∃ i : Int, xs = [.int i] ∧ i.natAbs.log2 < 1920 ∧ Q (.str (toString i)) H) ∨ ∃ b : Bool, xs = [.bl b] ∧ Q (.str (if b then "True" else "False")) H) := by
  intro pins s σ H xs us Q I r h
  rcases h with h | ⟨b, rfl, q⟩
  · exact SkE.call_repr_int pins s σ H xs us Q I r h
  · obtain ⟨u, rfl, e⟩ := vals1 r
    cases e
    exact PySem.P.repr_of_bool (by cases b <;> exact ⟨.str _, H, I.tok _, ⟨_, rfl⟩, q⟩)
end
end Odd
namespace PySem
namespace LowX
open PySem.W PySem.Calls PyProof.Rows PySem.HandSPX
/-! ### the text of __init__ -/
def iA (p1 p2 : Pos) : Arguments := { posonlyargs := [], args := [{ arg := "self", annotation := none, pos := p1 }, { arg := "part", annotation := none, pos := p2 }], vararg := none, kwonlyargs := [], kw_defaults := [], kwarg := none, defaults := [] }
def iB (q1 q2 q3 q4 : Pos) : List Stmt := [.Assign [.Attribute (.Name "self" q1) "part" q2] (.Name "part" q3) q4]
def iS : Scope := { kind := .function, names := [(PySem.Str.ofString "self", .local), (PySem.Str.ofString "part", .local)], isGenerator := false, isCoroutine := false, more := [] }
/-- what the written part says of Low, at C, and of its __init__, at fI -/
structure LowTxt (nx qn : Str) (K : Frag) (mg : Str → Option Value) (C fI : Addr) : Prop where
  gC : mg nx = some (.ref C)
  cls : ∃ nm q N bs bm sn sub ab col dd k0 k1 k2 k3 k5, K.lookup C = some (excClassObj nm q C N bs bm true sn sub ab col dd k0 k1 k2 k3 k5 "ValueError.__new__") ∧ refsVE bm = true
  sa : findIn K (.ref C) "__setattr__" = some (some (.builtin "object.__setattr__"))
  ga : findIn K (.ref C) "__getattribute__" = some (some (.builtin "BaseException.__getattribute__"))
  gg : findIn K (.ref C) "__getattr__" = some none
  noN : findIn K (.ref C) "part" = some none
  iC : findIn K (.ref C) "__init__" = some (some (.ref fI))
  tC : typeIn K (.ref fI) = some (.type "function")
  kC : keepIn K (.ref C) = true
  exC : subIn K (.ref C) (.type "BaseException") = some true
  tyC : typeIn K (.ref C) = some (.type "type")
  hdC : hasDictIn K C = true
  te : exmOne K (.ref C) (.ref C) = some true
  fn : ∃ (oc : Value) (od : Option Addr) (doc pm : Value) (an : Option Addr) (cdv ct : Value) (osl : Array (Option Value)) (p1 p2 q1 q2 q3 q4 : Pos),
    K.lookup fI = some ⟨oc, od, .func (fnOf "__init__" qn (iA p1 p2) (iB q1 q2 q3 q4) iS .none .none doc pm an cdv ct), osl⟩ ∧ codeIn K cdv qn = true
theorem one_size (v : Value) : [v].length ≤ sizeLine := by
  rw [sizeLine_eq]
  exact (by decide : 1 ≤ 16777216)
theorem kept_but {K : Frag} {h h' : Heap} {x : Addr} (X : K.In h) (hx : K.lookup x = none) (k : ∀ b o, b ≠ x → h.get? b = some o → h'.get? b = some o) : K.In h' := fun a o e =>
  k a o (fun z => by rw [z, hx] at e; cases e) (X a o e)
theorem ldC {M : Model} {s : Shared} {name : Str} {scope : Scope} {L a : Addr} {cd : Value} {m : Str → Option Value} {x : Str} {pos : Pos} {v : Value} {Q : Value → Shared → Prop} {A : Around} {E : Value → Shared → Prop} (hn : s.heap.Ns L m) (hv : m x = some v) (h : Q v s)
    (hk : scope.kind = .function := by rfl) (hl : (envOfC name scope L a cd).kindOf x = some .local := by rfl) (hd : (x == ("__debug__" : Str)) = false := by decide) :
    wpAny M A (eval (.Name x pos) (envOfC name scope L a cd)) Q E s := wpAny_Name (wpAny_loadName_local hk hl hn hv h) hd
/-- what __init__ leaves of a fresh exception at x -/
structure InitEnd (h h' : Heap) (x C dx t1 : Addr) (v : Value) : Prop where
  keep : ∀ b o, b ≠ x → h.get? b = some o → h'.get? b = some o
  obj : h'.get? x = some { cls := .ref C, dict := some dx, data := .fields #[.ref t1, .none, .none, .none, .bool false, .none] }
  dbig : h.objs.size ≤ dx
  dne : dx ≠ x
  ns : h'.Ns1 dx (fun y => if y = "part" then some v else none)
/-- a made Low -/
structure OwnMade (h h' : Heap) (e C d : Addr) (v : Value) : Prop where
  keep : ∀ b o, h.get? b = some o → h'.get? b = some o
  new : h.objs.size ≤ e
  obj : ∃ oe vs, h'.get? e = some oe ∧ oe.cls = .ref C ∧ oe.dict = some d ∧ oe.data = .fields vs ∧ vs[1]? = some .none
  dbig : h.objs.size ≤ d
  dne : d ≠ e
  ns : h'.Ns1 d (fun y => if y = "part" then some v else none)
section
variable {prog : Program} {w : World} {A : Around} {E : Value → Shared → Prop} {R : Result → Shared → Prop} {s : Shared} {K : Frag} {mg : Str → Option Value} {C fI : Addr} {nx qn : Str}
theorem low_init (T : LowTxt nx qn K mg C fI) {x t0 : Addr} {v : Value} (X : K.In s.heap) (hlim : s.heap.NoLimit) (hx : s.heap.get? x = some (excO C t0)) (hnx : K.lookup x = none) (hroom : A.depth < recursionLimit)
    (hq : ∀ h' tk dx, InitEnd s.heap h' x C dx t0 v → R (.ok (.ret .none)) { s with heap := h', toks := tk }) :
    codeAny (model prog w) A (.call (.ref fI) ⟨[.ref x, v], []⟩) R s := by
  obtain ⟨oc, od, doc, pm, an, cdv, ct, osl, p1, p2, q1, q2, q3, q4, ho, hcd⟩ := T.fn
  obtain ⟨nm, q, N, bs, bm, sn, sub, ab, col, dd, k0, k1, k2, k3, k5, hC, hbm⟩ := T.cls
  have hcl : clsIn K C = some { name := nm, bases := bs, mro := .ref C :: bm, ns := N, qualname := q, hasDict := true, slotNames := sn, subclasses := sub, abstract := ab, collection := col, hasDel := false } := by unfold clsIn; rw [hC] <;> rfl
  refine Att.call_fn (binds := [("self", .ref x), ("part", v)]) X hlim ho hcd hroom (BindsTo.of_eq (by first | rfl | with_unfolding_all rfl)) (by first | rfl | decide | with_unfolding_all rfl) (fun s₁ IC => ?_) rfl rfl rfl
  obtain ⟨h₁, tk₁, rfl⟩ := IC.toInCall.same
  have k : ∀ b o, s.heap.get? b = some o → h₁.get? b = some o := IC.toInCall.keep
  have hn := IC.toInCall.ns
  have hxL : s.heap.objs.size ≠ x := Nat.ne_of_gt (Heap.lt_size hx)
  have X₁ : K.In h₁ := X.keeps k
  have hx₁ := k _ _ hx
  -- self.by = by
  show wpAny _ _ (execs _ _) _ _ _
  refine wpAny_execs_cons (plainObj_wpAny_Assign_Attribute ?_)
  refine ldC (v := v) hn (by first | rfl | with_unfolding_all rfl | kernel_rfl) (ldC (v := .ref x) hn (by first | rfl | with_unfolding_all rfl | kernel_rfl) ?_)
  refine set_plain X₁ (ox := excO C t0) (od := none) ⟨hx₁, rfl, rfl, trivial⟩ T.sa ?_
  refine exc_osa X₁ hx₁ hcl (show refsVE (.ref C :: bm) = true from hbm) rfl T.noN (fun h₃ tk₃ dx k₃ dn dne hx₃ hn₃ => ?_)
  show wpAny _ _ (execs _ _) _ _ _
  have z : s.heap.objs.size < h₁.objs.size := hn.lt
  exact wpAny_execs_nil (hq h₃ tk₃ dx ⟨fun b o hb e => k₃ b o hb (k b o e), hx₃, Nat.le_of_lt (Nat.lt_of_lt_of_le z dn), dne, hn₃⟩)
theorem low_made (T : LowTxt nx qn K mg C fI) {v : Value} (X : K.In s.heap) (hlim : s.heap.NoLimit) (hroom : A.depth + 1 < recursionLimit)
    (hq : ∀ h' tk e d, OwnMade s.heap h' e C d v → R (.ok (.ret (.ref e))) { s with heap := h', toks := tk }) :
    codeAny (model prog w) A (.call (.ref C) ⟨[v], []⟩) R s := by
  obtain ⟨nm, q, N, bs, bm, sn, sub, ab, col, dd, k0, k1, k2, k3, k5, hC, hbm⟩ := T.cls
  obtain ⟨hp, g, dr, tk, os⟩ := s
  have k : ∀ b o, hp.get? b = some o → ((hp.push (kdv_tup [v])).push (excO C hp.objs.size)).get? b = some o := fun b o e => Heap.get?_push_of_some _ (Heap.get?_push_of_some _ e)
  have hget : ((hp.push (kdv_tup [v])).push (excO C hp.objs.size)).get? (hp.objs.size + 1) = some (excO C hp.objs.size) := by heap_get
  have hnx : K.lookup (hp.objs.size + 1) = none := by
    cases e : K.lookup (hp.objs.size + 1) with
    | none => rfl
    | some o =>
      have z : hp.get? (hp.objs.size + 1) = some o := X _ _ e
      exact absurd (Nat.lt_of_succ_lt (Heap.lt_size z)) (Nat.lt_irrefl _)
  refine call_own F.excBase_ValueError (fun X => refsVE_contains X bm hbm) (X _ _ hC) (looks_findIn X T.iC) (fun self => bind_fn X self T.tC) (one_size v) ?_
  refine low_init (s := ⟨(hp.push (kdv_tup [v])).push (excO C hp.objs.size), g, dr, tk, os⟩) T (X.keeps k) (hlim.keeps k) hget hnx ?_ fun h' tk' dx ⟨k', hx, dn, dne, hns⟩ => ?_
  · show A.depth + 1 < recursionLimit
    exact hroom
  · have old : ∀ b o, hp.get? b = some o → h'.get? b = some o := fun b o e => k' b o (Nat.ne_of_lt (Nat.lt_succ_of_lt (Heap.lt_size e))) (k b o e)
    have z : hp.objs.size + 1 + 1 ≤ dx := by
      first
        | (simpa only [Heap.size_push] using dn)
        | exact dn
        | (have q := dn; rw [Heap.size_push, Heap.size_push] at q; exact q)
    exact ⟨rfl, hq h' tk' (hp.objs.size + 1) dx ⟨old, Nat.le_succ _, ⟨_, _, hx, rfl, rfl, rfl, rfl⟩, Nat.le_trans (Nat.le_trans (Nat.le_succ _) (Nat.le_succ _)) z, dne, hns⟩⟩
end
end LowX
end PySem
namespace L2
open PySem PySem.Spec PyProof.Rows
theorem relO_low {v : V} {v' : Value} (r : RelV v v') (f : Str) : RelO (List.lookup f [(("part" : Str), v)]) (if f = "part" then some v' else none) := by
  by_cases hw : f = "part"
  · subst hw
    rw [if_pos rfl]
    have q : List.lookup ("part" : Str) [(("part" : Str), v)] = some v := by simp [List.lookup]
    rw [q]
    exact r
  · rw [if_neg hw]
    have qw : (f == ("part" : Str)) = false := by simpa using hw
    have q2 : List.lookup f [(("part" : Str), v)] = none := by simp [List.lookup, qw]
    rw [q2]
    trivial
section
variable {X : Cx} {C fI : Addr} {nx qn : Str}
/-- Low(e) -/
def tMkLow (C : Addr) (ta : TA) : St → Hp → XK → Prop := fun σ H Q => ta σ H fun vs H1 => ∃ v, vs = [v] ∧ ∀ d, H1 d = none → Q (.ref C) (some d) (upd H1 d (.xd [(("part" : Str), v)]))
theorem pmk_low {a : Expr} {ta : TA} {p pos : Pos} {k : Nat} (T : PySem.LowX.LowTxt nx qn X.K X.mg C fI) (hr : Room k X.A) (ha : PA X [a] ta) (hg : Gl X nx := by rfl) (hnd : (nx == ("__debug__" : Str)) = false := by decide)
    (he : starEach (a :: []) X.env = (false, eval a X.env) :: starEach [] X.env := by rfl) (hpl : (backTo pos (starEach [] X.env)).any (·.1) = false := by rfl) :
    PMk X (.Call (.Name nx p) [a] [] pos) (tMkLow C ta) := by
  intro pins s σ H Q I h
  refine wpAny_Call_Name_kw (ld_glob I hg T.gC ?_ hnd)
  refine PySem.W.callWith_K (h₀ := X.base) I.ok.mod.kin T.kC (thn (ha.run pos pins s σ H _ I h) fun us s1 hh => ?_) he hpl
  obtain ⟨vs, H1, I1, r1, v, ev, q1⟩ := hh
  subst ev
  refine ⟨I1.kIn, ?_⟩
  cases r1 with
  | cons rv rn =>
    rename_i v' us'
    cases rn
    show wpAny _ _ (call (.ref C) [v']) _ _ _
    have hlim := I1.nolimit
    obtain ⟨hp, g, dr, tk, os⟩ := s1
    refine wpAny_call (PySem.LowX.low_made T I1.kIn hlim (by have := hr.dp; omega) fun h' tk' e d M => ?_)
    show MkP X pins σ Q (.ref e) ⟨h', g, dr, tk', os⟩
    obtain ⟨oe, fv, hoe, hc, hd, hdat, h1⟩ := M.obj
    have hns := M.ns
    obtain ⟨G', g1, g2⟩ := restrict h' fun b => decide (b ≠ e)
    have gk : ∀ b, b ≠ e → G'.get? b = h'.get? b := fun b hb => g1 b (decide_eq_true hb)
    have ge : G'.get? e = none := g2 e (by simp)
    have old : ∀ b o, hp.get? b = some o → G'.get? b = some o := fun b o q => (gk b (Nat.ne_of_lt (Nat.lt_of_lt_of_le (Heap.lt_size q) M.new))).trans (M.keep b o q)
    have ob : ObjOk X.prog X.w (upd H1 d (.xd [(("part" : Str), v)])) G' d (.xd [(("part" : Str), v)]) :=
      ⟨_, hns.at (fun o q => (gk d M.dne).trans q), fun f => relO_low rv f⟩
    have J : Inv X pins σ (upd H1 d (.xd [(("part" : Str), v)])) ⟨G', g, dr, tk', os⟩ := I1.laid (t' := tk') old M.dbig ob
    refine ⟨e, oe, fv, ⟨G', g, dr, tk', os⟩, _, .ref C, some d, rfl, J, fun b o q => ?_, ge, hoe, ⟨hc, hd⟩, hdat, h1, ?_, rfl, I1.bare, raises_own T.exC T.tyC, q1 d (I1.hok.fresh M.dbig)⟩
    · by_cases hb : b = e
      · have q' : G'.get? b = some o := q
        rw [hb, ge] at q'; cases q'
      · exact (gk b hb).symm.trans q
    · rw [upd_ne (Ne.symm M.dne)]
      exact I1.hok.fresh M.new
/-- raise Low(e) -/
def tRaiseLow (C : Addr) (W : WX) (ta : TA) : TS := fun _ σ H => tMkLow C ta σ H fun cls d H' => W cls d σ H'
theorem ps_raiseLow {a : Expr} {ta : TA} {W : WX} {p pos pos2 : Pos} {k : Nat} (hc : X.calm = true) (T : PySem.LowX.LowTxt nx qn X.K X.mg C fI) (hr : Room k X.A) (tk : Takes X W) (ha : PA X [a] ta) (hg : Gl X nx := by rfl) (hnd : (nx == ("__debug__" : Str)) = false := by decide)
    (he : starEach (a :: []) X.env = (false, eval a X.env) :: starEach [] X.env := by rfl) (hpl : (backTo pos (starEach [] X.env)).any (·.1) = false := by rfl) :
    PS X (.Raise (some (.Call (.Name nx p) [a] [] pos)) none pos2) (tRaiseLow C W ta) := ps_raise hc tk (pmk_low T hr ha hg hnd he hpl)
/-- low.by, low the exception that the suite holds (at a; its class cls, its dict d) -/
def tByLow (C : Addr) (a : Addr) (cls : Value) (d : Option Addr) (te : TE) : TE := fun σ H Q => te σ H fun x H1 => x = .ref a ∧ cls = .ref C ∧ ∃ (dd : Addr) (v : V), d = some dd ∧ H1 dd = some (.xd [(("part" : Str), v)]) ∧ Q v H1
theorem pe_byLow {a : Addr} {oe : Obj} {cls : Value} {d : Option Addr} {pn : List (Addr × Obj)} {e : Expr} {te : TE} {pos : Pos} (T : PySem.LowX.LowTxt nx qn X.K X.mg C fI) (hz : Zc cls d oe) (hf : ∃ vs, oe.data = .fields vs) (he : PE (X.suite a ((a, oe) :: pn)) e te)
    (hb : attributeBase e "part" X.env (eval e X.env) = eval e X.env := by rfl) :
    PE (X.suite a ((a, oe) :: pn)) (.Attribute e "part" pos) (tByLow C a cls d te) := by
  refine ⟨fun pins s σ H Q I h => ?_⟩
  refine attr_of hb (thn (he.run pins s σ H _ I h) fun u s1 hh => ?_)
  obtain ⟨x, H1, I1, rx, ex, ec, dd, v, ed, ea, q⟩ := hh
  subst ex
  obtain rfl : u = Value.ref a := rx
  subst ec
  subst ed
  obtain ⟨ha, _⟩ := I1.pin (a, oe) (List.mem_append_left _ List.mem_cons_self)
  obtain ⟨vs, hd⟩ := hf
  have hx : ObjOk X.prog X.w H1 s1.heap dd (.xd [(("part" : Str), v)]) := I1.hok dd _ ea
  obtain ⟨mA, hns, hr⟩ := hx
  obtain ⟨od, ho, hl⟩ := lookIn_ns hns
  have l : List.lookup ("part" : Str) [(("part" : Str), v)] = some v := by simp [List.lookup]
  obtain ⟨u, hu, ru⟩ := RelO.some_of (v := v) (o := mA "part") (by rw [← l]; exact hr "part")
  have J : PySem.W.InstAt s1.heap a oe C (some od) := ⟨ha, hz.1, by unfold PySem.W.notCls; rw [hd] <;> rfl, by rw [hz.2]; exact ho⟩
  exact HandSPX.exc_get I1.kIn J T.ga T.gg T.exC (PySem.W.findObj_own T.hdC T.noN rfl (by rw [hl, hu])) (handed_of ru) ⟨v, H1, I1.tok _, ru, q⟩
end
end L2

namespace L2
open PySem PySem.Spec PyProof.Rows
/-- an if whose test is known -/
theorem if_true_of {c : Bool} {A B : Prop} (hc : c = true) (h : A) : if c = true then A else B := by
  rw [if_pos hc]
  exact h
theorem if_false_of {c : Bool} {A B : Prop} (hc : c = false) (h : B) : if c = true then A else B := by
  rw [hc, if_neg Bool.false_ne_true]
  exact h
end L2
namespace Odd
open PySem PySem.Spec PyProof.Rows L2
/-! ### small rules that readings use -/
theorem cx_K {CX : CXT} {P : Program} {w : World} {K : PySem.W.Frag} {mg : Str → Option Value} {base : Heap} {N : List Str} {qual : Str} {sc : Scope} {f : Addr} {cd : Value} {A : Around} {outer : List Env} {s : Shared} {H : Hp} {E : XK} :
    (cxOf CX P w K mg base N qual sc f cd A outer s H E).K = K := rfl
theorem cx_Kn {X : Cx} : (Cx.nox X).K = X.K := rfl
def gSeq (K : PySem.W.Frag) (n : Nat) (t : TGs) : TG := fun v σ H Q => ∃ a xs, v = .ref a ∧ Sq K H a xs ∧ xs.length = n ∧ t xs σ H Q
theorem pg_seq2 {X : Cx} {pos : Pos} {es : List Expr} {k : Nat} {t : TGs} {n : Nat} (hc : X.calm = true) (h : PGs X es t)
    (hn : (assignEach es X.env).length = n := by rfl) (hst : (assignEach es X.env).findIdx? (·.1) = none := by rfl) : PG X (.Tuple es k pos) (gSeq X.K n t) := by
  refine ⟨fun pins s σ H v u Q I r hw => ?_⟩
  obtain ⟨a, xs, e1, hq, hl, hw⟩ := hw
  rcases hq with hq | hq
  · exact (pg_lst hc h hn hst).run pins s σ H v u Q I r ⟨a, xs, e1, hq, hl, hw⟩
  · exact (pg_tup hc h hn hst).run pins s σ H v u Q I r ⟨a, xs, e1, hq, hl, hw⟩
section
variable {K : PySem.W.Frag} {H H0 : Hp} {Q : VK} {p : Addr} {xs : List V} {v : V} {i : Int}
theorem ixT (h : SqT K H p xs) (e : atI xs i = some v) (q : Q v H) : rIxT K (.ref p) (.int i) H Q := ⟨p, xs, i, v, rfl, rfl, h, e, q⟩
theorem ixL (h : SqL K H p xs) (e : atI xs i = some v) (q : Q v H) : rIxL K (.ref p) (.int i) H Q := ⟨p, xs, i, v, rfl, rfl, h, e, q⟩
theorem ty_int {T : String} (h : TyN K H v T) (q : Q (.bl (T == "int" || T == "bool")) H) : rIsi K [v, .ty "int"] H Q := by
  refine ⟨v, .ty "int", .type T, .type "int", _, rfl, .ty _, h.x, ?_, q⟩
  cases h <;> exact kit_ty (by decide +kernel)
theorem ty_bool {T : String} (h : TyN K H v T) (q : Q (.bl (T == "bool")) H) : rIsi K [v, .ty "bool"] H Q := by
  refine ⟨v, .ty "bool", .type T, .type "bool", _, rfl, .ty _, h.x, ?_, q⟩
  cases h <;> exact kit_ty (by decide +kernel)
theorem ty_tuple {T : String} (h : TyN K H v T) (q : Q (.bl (T == "tuple")) H) : rIsi K [v, .ty "tuple"] H Q := by
  refine ⟨v, .ty "tuple", .type T, .type "tuple", _, rfl, .ty _, h.x, ?_, q⟩
  cases h <;> exact kit_ty (by decide +kernel)
theorem ty_str {T : String} (h : TyN K H v T) (q : Q (.bl (T == "str")) H) : rIsi K [v, .ty "str"] H Q := by
  refine ⟨v, .ty "str", .type T, .type "str", _, rfl, .ty _, h.x, ?_, q⟩
  cases h <;> exact kit_ty (by decide +kernel)
theorem kl (T : String) (h : TyN K H v T) : PySem.W.kitOne K (.type T) (.type "list") = some (T == "list") := by
  cases h <;> exact kit_ty (by decide +kernel)
theorem kt (T : String) (h : TyN K H v T) : PySem.W.kitOne K (.type T) (.type "tuple") = some (T == "tuple") := by
  cases h <;> exact kit_ty (by decide +kernel)
theorem ty_row {T : String} (h : TyN K H v T) (hp : H p = some (.tup [.ty "list", .ty "tuple"])) (q : Q (.bl (T == "list" || T == "tuple")) H) : rIsiT K [v, .ref p] H Q := by
  refine ⟨v, p, _, .type T, [.type "list", .type "tuple"], _, rfl, hp, .cons (.ty _) (.cons (.ty _) .nil), h.x, ?_, q⟩
  refine kitAny_cons (kl T h) (fun e => ?_) (fun e => by rw [e] <;> rfl)
  rw [e, Bool.false_or]
  exact kitAny_cons (kt T h) (fun e => by rw [e]; exact kitAny_nil) (fun e => e)
end
theorem TyN.intI {K : PySem.W.Frag} {H : Hp} {v : V} {T : String} (h : TyN K H v T) (e : T = "int") : ∃ i, v = .int i := by
  cases h <;> first | exact ⟨_, rfl⟩ | exact absurd e (by decide)
theorem seq_by {t u : TS} {D : Ends} {σ : L2.St} {H : Hp} (h : ∀ N, N = u D → t { D with nx := N } σ H) : tSeq t u D σ H := h _ rfl
theorem dpAll_ints {K : PySem.W.Frag} {H : Hp} : ∀ ns : List Int, DpAll K H (ns.map V.int) (ns.map PyData.int)
  | [] => .nil
  | n :: ns => .cons (.int n) (dpAll_ints ns)
theorem dp_ints {K : PySem.W.Frag} {H : Hp} {a : Addr} {ns : List Int} (h : SqL K H a (ns.map V.int)) : Dp K H (.ref a) (.list (ns.map PyData.int)) := .lst h (dpAll_ints ns)
theorem dp_intsT {K : PySem.W.Frag} {H : Hp} {a : Addr} {ns : List Int} (h : SqT K H a (ns.map V.int)) : Dp K H (.ref a) (.tuple (ns.map PyData.int)) := .tup h (dpAll_ints ns)
theorem lay_ints : ∀ ns : List Int, PyData.canLayAll0 (ns.map PyData.int) = true
  | [] => by simp [PyData.canLayAll0]
  | n :: ns => by simp [PyData.canLayAll0, PyData.canLay0, lay_ints ns]
theorem dep_ints : ∀ ns : List Int, PyData.depthAll (ns.map PyData.int) = 0
  | [] => by simp [PyData.depthAll]
  | n :: ns => by simp [PyData.depthAll, PyData.depth, dep_ints ns]
theorem sh_ints (ns : List Int) : SeqAt.shaped (.list (ns.map PyData.int)) = true := by
  simp [SeqAt.shaped, PyData.canLay0, PyData.depth, lay_ints, dep_ints]
theorem sh_intsT (ns : List Int) : SeqAt.shaped (.tuple (ns.map PyData.int)) = true := by
  simp [SeqAt.shaped, PyData.canLay0, PyData.depth, lay_ints, dep_ints]
theorem eqv_ints : ∀ ns ms : List Int, PyData.eqvAll (ns.map PyData.int) (ms.map PyData.int) = decide (ns = ms)
  | [], [] => by simp [PyData.eqvAll]
  | [], m :: ms => by simp [PyData.eqvAll]
  | n :: ns, [] => by simp [PyData.eqvAll]
  | n :: ns, m :: ms => by
    rw [List.map_cons, List.map_cons, PyData.eqvAll, eqv_ints ns ms, PyData.eqv, Bool.eq_iff_iff]
    simp
section
variable {X : Cx} {CX : CXT} {k : Nat} {f : Addr} {fd : FuncData} {ps ks : List Str} {sp : Sp} {E : XK} {x : Str} {p pos : Pos} {kws : List Keyword} {tk : TA} {g : List Value → List Value → List Value} {gV : List V → List V → List V}
/-- f(k = v, ..) -/
theorem pe_callN0 (F : FnOk X.prog X.w X.K X.mg X.base CX k f fd ps sp) (hr : Room k X.A) (hg : Gl X x) (hm : X.mg x = some (.ref f)) (hk : PySem.W.keepIn X.K (.ref f) = true) (hb : KBn X.K fd ps 0 ks g gV) (hx : Passes CX X E)
    (hkw : PK X kws tk) (hall : (backToKw pos (keywordEach kws X.env)).all (·.1.isSome) = true := by rfl) (hks : (backToKw pos (keywordEach kws X.env)).filterMap (·.1) = ks := by rfl)
    (hdb : (x == ("__debug__" : Str)) = false := by decide) (hpl : ((backTo pos (starEach [] X.env)).any (·.1) || (backToKw pos (keywordEach kws X.env)).any (·.1.isNone)) = false := by rfl) :
    PE X (.Call (.Name x p) [] kws pos) (tCallN 0 ks.length sp gV E tNil tk) := by
  refine ⟨fun pins s σ H Q I h => ?_⟩
  refine wpAny_Call_Name_kw (ld_glob I hg hm ?_ hdb)
  refine PySem.W.callWith_KW0 (h₀ := X.base) I.ok.mod.kin hk hall (thn (hkw.run pos pins s σ H _ I h) fun ws s2 ⟨zs, H2, I2, rz, l1, l2, q2⟩ => ⟨I2.kIn, ?_⟩) hpl
  rw [hks]
  exact run_fnN (us := []) F hr hb hx I2 .nil rz l1 l2 q2
end
/-- a def without defaults, called by keywords alone, in the parameters' order -/
theorem fun_kb {K : PySem.W.Frag} {x qual : Str} {st : Stmt} {f : Addr} {fd : FuncData} {ps : List Str} (F : Fun K x qual st f fd)
    (h : ∀ (kV doc pm : Value) (an : Option Addr) (cdv ct : Value) (ws : List Value), ws.length = ps.length → bindArgs (PySem.W.fnOf x qual (defArgs st) (defBody st) (defScope st) .none kV doc pm an cdv ct) ⟨[], ps.zip ws⟩ = pure (ps.zip ws)) : KBn K fd ps 0 ps (fun _ ws => ws) (fun _ zs => zs) := by
  obtain ⟨oc, od, kV, doc, pm, an, cdv, ct, osl, rfl, lk, hcd⟩ := F.ex
  refine ⟨fun s us ws X l1 l2 => ?_, fun _ r => r⟩
  obtain rfl := List.eq_nil_of_length_eq_zero l1
  exact .of_eq (h kV doc pm an cdv ct ws l2)
/-- a def with defaults, called by keywords alone -/
theorem funD_kb {K : PySem.W.Frag} {x qual : Str} {params : Arguments} {body : List Stmt} {scope : Scope} {dvs : List V} {f : Addr} {fd : FuncData} {ps ks : List Str} {j : Nat} (F : FunD K x qual params body scope dvs [] f fd) (hd : dvs ≠ [])
    (h : ∀ (T : Addr) (kV doc pm : Value) (an : Option Addr) (cdv ct : Value) (its ws : List Value), its.length = dvs.length → ws.length = ks.length →
      ∃ k, bindArgs (PySem.W.fnOf x qual params body scope (.ref T) kV doc pm an cdv ct) ⟨[], ks.zip ws⟩ = seqItems? (.ref T) >>= k ∧ k (some its.toArray) = pure (ps.zip (ws ++ its.drop j))) :
    ∃ its : List Value, KBn K fd ps 0 ks (fun _ ws => ws ++ its.drop j) (fun _ zs => zs ++ dvs.drop j) := by
  obtain ⟨oc, od, dV, kV, doc, pm, an, cdv, ct, osl, rfl, lk, hcd, hD, hK⟩ := F.ex
  rcases hD with ⟨e, _⟩ | ⟨_, T, o, its, m, rfl, lT, oT, rT⟩
  · exact absurd e hd
  · refine ⟨its, fun s us ws X l1 l2 => ?_, fun _ r => r.append (rT.drop j)⟩
    obtain rfl := List.eq_nil_of_length_eq_zero l1
    obtain ⟨k, e1, e2⟩ := h T kV doc pm an cdv ct its ws rT.length.symm l2
    refine BindsTo.of_looks fun M => ?_
    rw [e1]
    exact looks_items X lT oT (.of_pure e2)
theorem call_reprB {X : Cx} : CallR X (.builtin "repr") (fun xs H Q => ∃ b : Bool, xs = [.bl b] ∧ Q (.str (if b = true then "True" else "False")) H) := fun pins s σ H xs us Q I r h => call_reprX pins s σ H xs us Q I r (.inr h)
theorem call_reprI {X : Cx} : CallR X (.builtin "repr") (fun xs H Q => ∃ i : Int, xs = [.int i] ∧ i.natAbs.log2 < 1920 ∧ Q (.str (toString i)) H) := fun pins s σ H xs us Q I r h => call_reprX pins s σ H xs us Q I r (.inl h)
def optV : Option Int → V
  | none => .non
  | some i => .int i
theorem is_int {K : PySem.W.Frag} {H : Hp} {v : V} (T : String) (h : TyN K H v T) : ((T == "int" || T == "bool") && !(T == "bool")) = (T == "int") := by
  cases h <;> decide
theorem Num.ty {K : PySem.W.Frag} {H : Hp} {v : V} {q : Int × Int} (h : Num K H v q) : ∃ T, TyN K H v T ∧ (T = "int" ∨ T = "list" ∨ T = "tuple") := by
  cases h with
  | int n => exact ⟨_, .int n, .inl rfl⟩
  | sq h c =>
    rcases h with h | h
    · exact ⟨_, .lst h, .inr (.inl rfl)⟩
    · exact ⟨_, .tup h, .inr (.inr rfl)⟩
theorem Sq.ty {K : PySem.W.Frag} {H : Hp} {p : Addr} {xs : List V} (h : Sq K H p xs) : ∃ T, TyN K H (.ref p) T ∧ (T == "list" || T == "tuple") = true := by
  rcases h with h | h
  · exact ⟨_, .lst h, by decide⟩
  · exact ⟨_, .tup h, by decide⟩
end Odd
/-! super().__init__(..) as the first statement of an __init__ -/
namespace L2
open PySem PySem.Spec PyProof.Rows
theorem super_at {X : Cx} {pins : List (Addr × Obj)} {σ : L2.St} {H : Hp} {s : Shared} {CX : CXT} {k j : Nat} {sp : Sp} {E : XK} {f cda C D f2 x dx : Addr} {fs : List (Str × V)} {oc ccl : Value} {od cdd : Option Addr} {osl ccs : Array (Option Value)} {fd : FuncData} {ar : Arg}
    {vs : Array Value} {file : Str} {tf : Tok} {cdD cdC : ClassData} {e : Expr} {es : List Expr} {ta : TA} {p0 p1 p2 p3 p4 : Pos} {body : List Stmt} {D' : Ends}
    (I : Inv X pins σ H s) (hks : X.env.kindOf "super" = some .globalImplicit) (hkc : X.env.kindOf "__class__" = some .free) (hfu : X.env.func = some f) (hco : X.env.code = .ref cda)
    (hf : X.K.lookup f = some ⟨oc, od, .func fd, osl⟩) (hp : (fd.params.posonlyargs ++ fd.params.args).head? = some ar)
    (hcode : X.K.lookup cda = some ⟨ccl, cdd, .fields vs, ccs⟩) (hvs : vs[2]? = some (.str file tf)) (hfile : ((X.prog.main.file : Str) == file) = true) (htop : (X.prog.main.scope.names.lookup ("super" : Str)).isSome = false)
    (hsm : X.mg "super" = none) (hboot : bootBuiltins "super" = some (.type "super"))
    (hN0 : X.N[0]? = some ar.arg) (hk0 : X.env.kindOf ar.arg = some .local) (hσ0 : σ[0]? = some (some (.ref x))) (hN1 : X.N[j]? = some "__class__") (hσ1 : σ[j]? = some (some (.ref D)))
    (hD : PySem.W.clsIn X.K D = some cdD) (hsub : PySem.W.mroIn X.K C (.ref D) = some true) (hC : PySem.W.clsIn X.K C = some cdC) (hi : H x = some (.ins C dx fs))
    (ho : PySem.W.nsIn X.K cStatics "thirdparty.any" = some none) (hm : PySem.W.ks_superIn X.K C D "__init__" = some (some (.ref f2))) (ht : PySem.W.typeIn X.K (.ref f2) = some (.type "function")) (hfi : PySem.W.fnIn X.K f2 = true)
    (F : FnR X.prog X.w X.K X.mg X.base CX k f2 sp) (hr : Room k X.A) (hx : Passes CX X E) (ha : PA X (e :: es) ta) (hint : interactive X.env = false)
    (q : ta σ H fun ws H1 => sp (.ref x :: ws) H1 (fun _ H2 => D'.nx σ H2) E)
    (hpl : (backTo p3 (starEach es X.env)).any (·.1) = false) (hse : starEach (e :: es) X.env = (false, eval e X.env) :: starEach es X.env)
    {pl : Sem Bool} (hev : eval (.Call (.Attribute (.Call (.Name "super" p0) [] [] p1) "__init__" p2) (e :: es) [] p3) X.env = (do
      let ov ← attributeBase (.Call (.Name "super" p0) [] [] p1) "__init__" X.env (eval (.Call (.Name "super" p0) [] [] p1) X.env)
      standAt p2.atName
      let (f, first) ← holding [ov] (getMethod ov "__init__" pl)
      callWith p3 f first (backTo p3 (starEach (e :: es) X.env)) []))
    (hsw : swapsWith (.Call (.Attribute (.Call (.Name "super" p0) [] [] p1) "__init__" p2) (e :: es) [] p3) none p4.line X.env = pure false) :
    PySem.wpAt (model X.prog X.w) X.A (.func body X.env) (exec (.Expr (.Call (.Attribute (.Call (.Name "super" p0) [] [] p1) "__init__" p2) (e :: es) [] p3) p4) X.env) (SP X pins D') X.xe s := by
  obtain ⟨m, hns, hlook⟩ := I.loc
  refine PySem.ks_wpAt_Expr_any (PySem.ks_wpAt_MethodCall (PySem.ks_wpAt_super_base hks hkc (by decide) hfu (I.kIn _ _ hf) rfl hp hco (I.kIn _ _ hcode) rfl hvs hfile htop ?_) hev) hint hsw
  have lim : PySem.W.clsIn X.K D = some cdD := hD
  obtain ⟨oD, hD1, hD2⟩ : ∃ oD, s.heap.get? D = some oD ∧ oD.data = .cls cdD := by
    unfold PySem.W.clsIn at hD
    split at hD
    · rename_i c d cd' sl ho
      cases hD
      exact ⟨_, I.kIn _ _ ho, rfl⟩
    · cases hD
  obtain ⟨u0, r0, l0⟩ := hlook 0 ar.arg _ hN0 hσ0 (.inl hk0)
  obtain rfl : u0 = Value.ref x := r0
  have m0 : m ar.arg = some (.ref x) := by
    rcases l0 with ⟨_, l0⟩ | ⟨l0 | l0, _⟩
    · exact l0
    · rw [hk0] at l0; cases l0
    · rw [hk0] at l0; cases l0
  obtain ⟨u1, r1, l1⟩ := hlook j "__class__" _ hN1 hσ1 (.inr (.inr hkc))
  obtain rfl : u1 = Value.ref D := r1
  obtain ⟨cc, hcc, hcv⟩ : ∃ c, X.env.cells.lookup ("__class__" : Str) = some c ∧ s.heap.IsCell c (some (.ref D)) := by
    rcases l1 with ⟨l1, _⟩ | ⟨_, l1⟩
    · rw [hkc] at l1; cases l1
    · exact l1
  obtain ⟨mb, b1, b2⟩ := I.mod.blt
  refine PySem.W.ks_loadName_global I.ok.kind hks (PySem.Calls.loadGlobal_builtin (by rw [I.ok.glob]; exact I.mod.glob.keeps I.bk) hsm (by rw [I.ok.blt]; exact b1.keeps I.bk) ((b2 _ (by decide)).trans hboot) ⟨rfl, ?_⟩)
  refine wpAny_loadName_free I.ok.kind hkc hcc hcv ?_
  refine wpAny_loadName_local I.ok.kind hk0 hns m0 ?_
  obtain ⟨mA, O, _⟩ := ins_get I.hok hi
  obtain ⟨odx, J, _⟩ := O.look
  obtain ⟨hh, g, d, t, os⟩ := s
  refine PySem.ks_wpAny_isType_cls hD1 hD2 ⟨rfl, ?_⟩
  refine PySem.ks_wpAny_call_super hD1 hD2 J.at_ J.cls (fun c e => ?_) (PySem.W.looks_mroIn I.kIn hsub) (fun h' e kp => ?_)
  · have := J.no
    unfold PySem.W.notCls at this
    rw [e] at this
    exact Bool.noConfusion this
  have I1 : Inv X ((hh.objs.size, PySem.W.ks_superObj D x C) :: pins) σ H ⟨h', g, d, t, os⟩ := ClX.pin_new (s := ⟨hh, g, d, t, os⟩) (t' := t) I kp (Nat.le_refl _) e (fun v z => nomatch z)
  have hm0 := hm
  unfold PySem.W.ks_superIn at hm
  rw [hC] at hm
  obtain ⟨of, hof, hofc⟩ : ∃ of, h'.get? f2 = some of ∧ of.cls = .type "function" := by
    have ht' : (X.K.lookup f2).map (·.cls) = some (.type "function") := ht
    cases z : X.K.lookup f2 with
    | none => rw [z] at ht'; cases ht'
    | some of => rw [z] at ht'; exact ⟨of, I1.kIn _ _ z, Option.some.inj ht'⟩
  refine PySem.ks_wpAny_getMethod_super (ClX.pin_at I1) (PySem.W.looks_opaque I1.kIn ho) (l₀ := cdC.mro) ?_ rfl I1.kIn hm hof hofc (PySem.W.ks_ne I.kIn J hC) (by decide) ?_
  · exact fun A Q E s k q => wpAny_bind ((PySem.W.looks_clsIn I1.kIn hC) A _ E s k (wpAny_pure q))
  have I2 : Inv X ((h'.objs.size, PySem.W.methodObj (.ref f2) (.ref x)) :: (hh.objs.size, PySem.W.ks_superObj D x C) :: pins) σ H ⟨h'.push (PySem.W.methodObj (.ref f2) (.ref x)), g, d, t + 1, os⟩ :=
    ClX.pin_new (s := ⟨h', g, d, t, os⟩) (t' := t + 1) I1 (fun _ _ z => Heap.get?_push_of_some _ z) (Nat.le_refl _) (Heap.get?_push_size h' rfl) (fun v z => nomatch z)
  have hb : X.base.get? h'.objs.size = none := ClX.base_none I1 (Nat.le_refl _)
  have hL : h'.objs.size ≠ X.env.locals := (I2.pin (h'.objs.size, PySem.W.methodObj (.ref f2) (.ref x)) (List.mem_append_right _ List.mem_cons_self)).2.2.1
  refine PySem.W.callWith_M (K := X.K) (h₀ := X.base) (first := []) I.ok.mod.kin (news_at hL hb (ClX.pin_at I2)) List.mem_cons_self hfi ?_ hse hpl
  refine thn (ha.run _ _ _ σ H _ I2 q) fun us s3 ⟨ws, H3, I3, rv, hsp⟩ => ⟨⟨ClX.pin_at I3, I3.kIn⟩, ?_⟩
  refine thn (wpAny_call (PySem.W.method_call (ClX.pin_at I3) (run_fnR (us := Value.ref x :: us) (vs := V.ref x :: ws) F hr hx I3 (.cons rfl rv) hsp))) fun u s4 h4 => ?_
  obtain ⟨v, H4, I4, _, q4⟩ := h4
  exact ⟨σ, H4, ClX.unpin (ClX.unpin I4), q4⟩

/-- a method with the cell __class__, by a run of its body at its own place -/
theorem fn_super {CX : CXT} {P : Program} {w : World} {K : PySem.W.Frag} {mg : Str → Option Value} {base : Heap} {N ps : List Str} {f cda cc D : Addr} {k : Nat} {sp : Sp} {name qual : Str} {params : Arguments} {body : List Stmt} {scope : Scope} {oc cl kV doc pm ct : Value} {od cld an : Option Addr} {osl csl : Array (Option Value)}
    (lk : K.lookup f = some ⟨oc, od, .func (PySem.W.fnX name qual params body scope [("__class__", cc)] .none kV doc pm an (.ref cda) ct), osl⟩) (hcd : PySem.W.codeIn K (.ref cda) qual = true) (hcell : K.lookup cc = some ⟨cl, cld, .cell (some (.ref D)), csl⟩)
    (S : NdefX.NScope N ps ["__class__"] scope) (len : ∀ vs H Q E, sp vs H Q E → vs.length = ps.length)
    (hbody : ∀ (A : Around) (outer : List Env) (s : Shared) (H : Hp) (vs : List V) (Q : VK) (E : XK), Room k (A.deeper (NdefX.envF ⟨name, qual, params, body, scope, [("__class__", cc)], cda⟩ f s.heap.objs.size)) → sp vs H Q E →
      ∀ s1, Inv (NdefX.ncx CX P w K mg base N ⟨name, qual, params, body, scope, [("__class__", cc)], cda⟩ f A outer s H E) [] (NdefX.startF N vs [some (.ref D)]) H s1 →
        PySem.wpAt (model P w) (A.deeper (NdefX.envF ⟨name, qual, params, body, scope, [("__class__", cc)], cda⟩ f s.heap.objs.size)) (.func body (NdefX.envF ⟨name, qual, params, body, scope, [("__class__", cc)], cda⟩ f s.heap.objs.size)) (execs body (NdefX.envF ⟨name, qual, params, body, scope, [("__class__", cc)], cda⟩ f s.heap.objs.size))
          (SP (NdefX.ncx CX P w K mg base N ⟨name, qual, params, body, scope, [("__class__", cc)], cda⟩ f A outer s H E) [] { nx := fun _ H' => Q .non H', rt := Q }) (NdefX.ncx CX P w K mg base N ⟨name, qual, params, body, scope, [("__class__", cc)], cda⟩ f A outer s H E).xe s1) :
    FnOk P w K mg base CX (k + 1) f (PySem.W.fnX name qual params body scope [("__class__", cc)] .none kV doc pm an (.ref cda) ct) ps sp := by
  refine ⟨len, fun A outer s H args us vs Q E hr e0 hbind r hsp => ?_⟩
  have hl := len _ _ _ _ hsp
  have up := fun b o (e : base.get? b = some o) => (e0.bs b o e).1
  have In := e0.mod.kin.keeps up
  have lim : s.heap.NoLimit := e0.mod.nolimit.keeps up
  refine PySem.ks_codeAny_call_defAt (body := body) (binds := ps.zip us) hr.depth (In _ _ lk) rfl lim (PySem.W.codeRec_of In hcd) rfl hbind S.nocell (fun ⟨n, _⟩ hy => S.par n (List.of_mem_zip hy).1) (fun h₁ hns kp => ?_) S.co S.gen S.kind
  have C : NdefX.CellsAt [("__class__", cc)] ["__class__"] [some (.ref D)] s.heap H := by
    have one : ∀ y c, ([(("__class__" : Str), cc)] : List (Str × Addr)).lookup y = some c → y = ("__class__" : Str) ∧ c = cc := fun y c e => by
      unfold List.lookup at e
      split at e
      · rename_i hy
        exact ⟨by simpa using hy, (Option.some.inj e).symm⟩
      · cases e
    refine ⟨rfl, fun y c e => ?_, fun x y c e1 e2 => ?_, fun i y e => ?_⟩
    · obtain ⟨_, rfl⟩ := one y c e
      obtain ⟨z1, z2⟩ := e0.bs _ _ (e0.mod.kin _ _ hcell)
      exact ⟨z2, _, _, z1, rfl⟩
    · rw [(one x c e1).1, (one y c e2).1]
    · match i, e with
      | 0, e =>
        cases e
        refine ⟨cc, by simp [List.lookup], fun v ev => ?_⟩
        cases ev
        exact ⟨.ref D, rfl, _, In _ _ hcell, rfl⟩
  have I := NdefX.inv_startN (CX := CX) (mg := mg) (base := base) (E := E) (F := ⟨name, qual, params, body, scope, [("__class__", cc)], cda⟩) (f := f) (tk := s.toks + (ps.zip us).length) S hr.hd e0 hl r C hns kp
  refine PySem.ks_wpAt_mono (hbody A outer s H vs Q E (hr.deeper _) hsp _ I) (fun fl s' hs => ?_) fun e s' hs => hs
  cases fl with
  | ret u =>
    obtain ⟨v, σ', H', J, rv, q⟩ := hs
    exact ⟨v, H', J.os, J.bare, J.base, J.hok, rv, q⟩
  | next =>
    obtain ⟨σ', H', J, q⟩ := hs
    exact ⟨.non, H', J.os, J.bare, J.base, J.hok, rfl, q⟩
  | brk =>
    obtain ⟨_, _, _, q⟩ := hs
    exact False.elim q
  | cont =>
    obtain ⟨_, _, _, q⟩ := hs
    exact False.elim q
end L2
/-! truth and length by an own __bool__, __len__ -/
namespace L2
open PySem PySem.Spec PyProof.Rows
theorem odd_special {prog : Program} {w : World} {A : Around} {E : Value → Shared → Prop} {s : Shared} {K : PySem.W.Frag} {a C f : Addr} {ox : Obj} {od : Option Obj} {name : Str} {args : List Value} {Q : Option Value → Shared → Prop}
    (X : K.In s.heap) (I : PySem.W.InstAt s.heap a ox C od) (hm : PySem.W.findIn K (.ref C) name = some (some (.ref f))) (hf : PySem.W.typeIn K (.ref f) = some (.type "function"))
    (q : wpAny (model prog w) A (call (.ref f) (.ref a :: args)) (fun v s' => Q (some v) s') E s) : wpAny (model prog w) A (callSpecial? (.ref a) name args) Q E s := by
  unfold callSpecial? specialOf
  refine wpAny_bind (wpAny_bind (I.type.here ((PySem.W.looks_findIn X hm).here ?_)))
  refine wpAny_holding ?_
  refine wpAny_bind ((PySem.W.bind_fn X _ hf).here ?_)
  exact wpAny_bind (wpAny_mono q (fun v s' z => wpAny_pure z) fun _ _ z => z)
def tBoolO (C : Addr) (sp : Sp) (te : TE) : TT := fun σ H Q => te σ H fun x H1 => ∃ a dx fs, x = .ref a ∧ H1 a = some (.ins C dx fs) ∧ sp [.ref a] H1 (fun v H2 => ∃ b, v = .bl b ∧ Q b H2) E0
theorem pt_boolO {X : Cx} {C f : Addr} {k : Nat} {sp : Sp} {e : Expr} {te : TE} (hm : PySem.W.findIn X.K (.ref C) "__bool__" = some (some (.ref f))) (hf : PySem.W.typeIn X.K (.ref f) = some (.type "function"))
    (F : FnR X.prog X.w X.K X.mg X.base CX0 k f sp) (hr : Room k X.A) (he : PE X e te) (hw : ∀ whole, isTrue e X.env whole = (do let v ← whole; standAt e.pos; holding [v] (truthy v)) := by intro _; rfl) : PT X e (tBoolO C sp te) := by
  refine ⟨fun pins s σ H Q I h => ?_⟩
  refine isTrue_plain (thn (he.run pins s σ H _ I h) fun v s1 ⟨x, H1, I1, r1, a, dx, fs, ex, ea, hsp⟩ => ?_) (hw _)
  subst ex
  obtain rfl : v = Value.ref a := r1
  obtain ⟨mA, O, _⟩ := ins_get I1.hok ea
  obtain ⟨odx, J, _⟩ := O.look
  unfold truthy
  have go : wpAny (model X.prog X.w) X.A (callSpecial? (.ref a) "__bool__") (fun r s' => ∃ b, r = some (.bool b) ∧ TP X pins σ Q b s') X.xe s1 := by
    refine odd_special I1.kIn J hm hf (thn (wpAny_call (run_fnR (us := [Value.ref a]) (vs := [V.ref a]) F hr pass0 I1 (.cons rfl .nil) hsp)) fun u s2 h2 => ?_)
    obtain ⟨y, H2, I2, ry, b, ey, q⟩ := h2
    subst ey
    obtain rfl : u = Value.bool b := ry
    exact ⟨b, rfl, H2, I2, q⟩
  first
    | (refine wpAny_bind (m := callSpecial? (.ref a) (Str.ofString "__bool__")) (thn go fun r s2 h2 => ?_); obtain ⟨b, rfl, q⟩ := h2; exact wpAny_pure q)
    | (refine wpAny_bind (wpAny_pure ?_); refine wpAny_bind (m := callSpecial? (.ref a) (Str.ofString "__bool__")) (thn go fun r s2 h2 => ?_); obtain ⟨b, rfl, q⟩ := h2; exact wpAny_pure q)
def rLenO (C : Addr) (sp : Sp) : List V → Hp → VK → Prop := fun xs H Q => ∃ a dx fs, xs = [.ref a] ∧ H a = some (.ins C dx fs) ∧ sp [.ref a] H (fun v H2 => ∃ n : Int, v = .int n ∧ 0 ≤ n ∧ n < 2 ^ 63 ∧ Q (.int n) H2) E0
theorem call_lenO {X : Cx} {C f : Addr} {k : Nat} {sp : Sp} (hm : PySem.W.findIn X.K (.ref C) "__len__" = some (some (.ref f))) (hf : PySem.W.typeIn X.K (.ref f) = some (.type "function"))
    (F : FnR X.prog X.w X.K X.mg X.base CX0 k f sp) (hr : Room (k + 1) X.A) : CallR X (.builtin "len") (rLenO C sp) := by
  intro pins s σ H xs us Q I r h
  obtain ⟨a, dx, fs, rfl, ea, hsp⟩ := h
  obtain ⟨u, rfl, ru⟩ := vals1 r
  obtain rfl : u = Value.ref a := ru
  obtain ⟨mA, O, _⟩ := ins_get I.hok ea
  obtain ⟨odx, J, _⟩ := O.look
  refine PySem.Calls.call_function_entry PySem.kind_len PySem.plain_len PySem.entry_len (PySem.args_len1 _) ?_
  unfold PySem.Builtin.«len»
  refine wpAny_bind (m := PySem.oneArg "len" _) (wpAny_pure ?_)
  have go : wpAny (model X.prog X.w) X.A.in1 (call (.ref f) [.ref a]) (fun u s2 => ∃ n t, u = Value.int n t ∧ 0 ≤ n ∧ n < 2 ^ 63 ∧ EP X pins σ Q (.int n s2.toks) { s2 with toks := s2.toks + 1 }) X.xe s := by
    refine wpAny_call (codeAny_mono (F X.A.in1 X.stack s H [.ref a] [.ref a] _ E0 hr.in1 I.env0.in1 (.cons rfl .nil) hsp) fun r s' hq => ?_)
    match r, hq with
    | .error e, hq => exact hq.elim
    | .ok (.ret u), hq =>
      obtain ⟨y, H2, I2, ry, n, ey, n0, n1, q⟩ := I.after hq
      subst ey
      obtain ⟨t, rfl⟩ := ry
      exact ⟨n, t, rfl, n0, n1, .int n, H2, I2.tok _, ⟨_, rfl⟩, q⟩
  refine wpAny_bind (m := callSpecial? (.ref a) (Str.ofString "__len__")) (odd_special I.kIn J hm hf (thn go fun u s2 h2 => ?_))
  obtain ⟨n, t, rfl, h0, h1, hq⟩ := h2
  refine wpAny_bind (wpAny_holding (wpAny_pure ?_))
  refine wpAny_bind (wpAny_letGo ?_)
  show wpAny _ _ (if n < 0 then _ else _) _ _ _
  rw [if_neg (by omega)]
  show wpAny _ _ (if n ≥ 2 ^ 63 then _ else _) _ _ _
  rw [if_neg (by omega)]
  exact wpAny_bind (wpAny_mkInt (wpAny_pure ⟨_, rfl, hq⟩))
/-- what is never reached -/
theorem pe_never {X : Cx} {e : Expr} : PE X e (fun _ _ _ => False) := ⟨fun _ _ _ _ _ _ h => h.elim⟩
/-- a method's text -/
structure MDef (K : PySem.W.Frag) (m qual : Str) (st : Stmt) (f : Addr) (fd : FuncData) (ps : List Str) : Prop where
  F : Fun K m qual st f fd
  b : Binds K fd ps []
/-- an __init__ whose class is C, its code at cda, the cell __class__ at cc; above it the __init__ at f2 -/
structure SupF (K : PySem.W.Frag) (qual : Str) (st : Stmt) (C f cda cc f2 : Addr) (fd : FuncData) : Prop where
  lk : ∃ (oc kV doc pm ct cl : Value) (od an cld : Option Addr) (osl csl : Array (Option Value)), fd = PySem.W.fnX "__init__" qual (defArgs st) (defBody st) (defScope st) [("__class__", cc)] .none kV doc pm an (.ref cda) ct ∧
    K.lookup f = some ⟨oc, od, .func fd, osl⟩ ∧ K.lookup cc = some ⟨cl, cld, .cell (some (.ref C)), csl⟩
  code : PySem.W.codeIn K (.ref cda) qual = true
  cod : ∃ (ccl : Value) (cdd : Option Addr) (vs : Array Value) (ccs : Array (Option Value)) (file : Str) (tf : Tok), K.lookup cda = some ⟨ccl, cdd, .fields vs, ccs⟩ ∧ vs[2]? = some (.str file tf) ∧ file = "/claim/cut.py"
  cC : ∃ cd, PySem.W.clsIn K C = some cd
  sub : PySem.W.mroIn K C (.ref C) = some true
  sup : PySem.W.ks_superIn K C C "__init__" = some (some (.ref f2))
  ty : PySem.W.typeIn K (.ref f2) = some (.type "function")
  fi : PySem.W.fnIn K f2 = true
  opq : PySem.W.nsIn K cStatics "thirdparty.any" = some none
end L2
/-! tuple(zip(t1, t2)) of two tuples -/
namespace OZ
open PySem PySem.Spec PyProof.Rows L2 RZ
theorem nolen_zip : typeLookup (.type "zip") "__len__" = pure none := by rw [typeLookup_type, builtinLookup_eq_fast]; kernel_rfl
theorem nohint_zip : typeLookup (.type "zip") "__length_hint__" = pure none := by rw [typeLookup_type, builtinLookup_eq_fast]; kernel_rfl
section
variable {prog : Program} {w : World} {A : Around} {E : Value → Shared → Prop} {s : Shared}
theorem held_item {z TI TO T i1 i2 l1 l2 : Addr} {f : Bool} {oT : Obj} {k1 k2 : Nat} {xs ys : Array Value} {x y : Value} {Q : Option Value → Shared → Prop} (D : ZipApart z TI TO i1 i2 l1 l2)
    (hz : IsZipHeld s.heap z TI TO T f) (hT : s.heap.get? T = some oT) (hTI : IsPair s.heap TI (.ref i1) (.ref i2))
    (h1 : s.heap.IsTupleIter i1 l1 k1) (h2 : s.heap.IsTupleIter i2 l2 k2) (hl1 : s.heap.IsTuple l1 xs) (hl2 : s.heap.IsTuple l2 ys) (hx : xs[k1]? = some x) (hy : ys[k2]? = some y)
    (hQ : ∀ h', IsZipHeld h' z TI TO T true → h'.IsTupleIter i1 l1 (k1 + 1) → h'.IsTupleIter i2 l2 (k2 + 1) → IsPair h' s.heap.objs.size x y → h'.objs.size = s.heap.objs.size + 1 →
      (∀ c o, c ≠ z → c ≠ i1 → c ≠ i2 → s.heap.get? c = some o → h'.get? c = some o) → Q (some (.ref s.heap.objs.size)) { s with heap := h' }) :
    wpAny (model prog w) A (pyNext (.ref z)) Q E s := by
  have hTy : s.TypeIs (.ref z) "zip" := ⟨_, hz, rfl⟩
  unfold pyNext
  refine wpAny_bind (wpAny_attempt (wpAny_callSpecial?_slot (name := Str.ofString "__next__") hTy F.slot_zip_next
    (wpAny_call_entry F.slot_zip_next hTy F.entry_zip_next ?_ (F.args_zip_next_1 _))))
  show wpAny _ _ (field (.ref z) 2 >>= _) _ _ _
  refine wpAny_bind (wpAny_field hz rfl (x := .bool false) rfl ?_)
  show wpAny _ _ (field (.ref z) 3 >>= _) _ _ _
  refine wpAny_bind (wpAny_field hz rfl (x := .ref TI) rfl ?_)
  refine wpAny_bind (wpAny_seqItems hTI rfl ?_)
  show wpAny _ _ (Builtin.SmallTypes.ownedTupleIsFree (.ref z) >>= _) _ _ _
  refine wpAny_bind (wpAny_tupleHeld_zip hz hT fun h₁ hz₁ hs₁ => ?_)
  simp only [Bool.false_eq_true, if_false]
  refine wpAny_bind ?_
  rw [← Array.forIn_toList]
  simp only [List.forIn_cons, List.forIn_nil]
  refine wpAny_bind (wpAny_bind (wpAny_holding ?_))
  show wpAny _ _ (Builtin.SmallTypes.nextOf (.ref i1) >>= _) _ _ _
  refine wpAny_bind (nextOf_tuple_item (s := { s with heap := h₁ }) (h1.extBut hs₁.extBut D.i1z) (hl1.extBut hs₁.extBut D.l1z) hx fun h₂ h1₂ hs₂ => wpAny_pure ?_)
  refine wpAny_pure ?_
  refine wpAny_bind (wpAny_bind (wpAny_holding ?_))
  show wpAny _ _ (Builtin.SmallTypes.nextOf (.ref i2) >>= _) _ _ _
  refine wpAny_bind (nextOf_tuple_item (s := { s with heap := h₂ }) ((h2.extBut hs₁.extBut D.i2z).extBut hs₂.extBut D.i12.symm) ((hl2.extBut hs₁.extBut D.l2z).extBut hs₂.extBut D.l2i1) hy fun h₃ h2₃ hs₃ => wpAny_pure ?_)
  refine wpAny_pure (wpAny_pure ?_)
  show wpAny _ _ (newTuple [x, y] >>= _) _ _ _
  refine wpAny_bind (wpAny_newTuple ?_)
  have hsz : h₃.objs.size = s.heap.objs.size := by rw [hs₃.1, hs₂.1, hs₁.1]
  have hz₃ : IsZipHeld h₃ z TI TO T true := hs₃.extBut _ _ D.i2z.symm (hs₂.extBut _ _ D.i1z.symm hz₁)
  have hk : ∀ c o, c ≠ z → c ≠ i1 → c ≠ i2 → s.heap.get? c = some o → h₃.get? c = some o := fun c o c1 c2 c3 e => hs₃.extBut _ _ c3 (hs₂.extBut _ _ c2 (hs₁.extBut _ _ c1 e))
  have h1₃ : h₃.IsTupleIter i1 l1 (k1 + 1) := h1₂.extBut hs₃.extBut D.i12
  refine wpAny_pure ⟨_, rfl, wpAny_pure ?_⟩
  show Q (some (.ref h₃.objs.size)) _
  have hp : IsPair (h₃.push { cls := .type "tuple", data := .seq #[x, y] }) h₃.objs.size x y := Heap.get?_push_size _ rfl
  have hz4 : (h₃.push { cls := .type "tuple", data := .seq #[x, y] }).objs.size = h₃.objs.size + 1 := Heap.size_push ..
  rw [hsz] at hp hz4 ⊢
  exact hQ _ (Heap.get?_push_of_some _ hz₃) (h1₃.at fun o e => Heap.get?_push_of_some _ e) (h2₃.at fun o e => Heap.get?_push_of_some _ e) hp hz4 fun c o c1 c2 c3 e => Heap.get?_push_of_some _ (hk c o c1 c2 c3 e)
theorem held_end {z TI TO T i1 i2 l1 l2 : Addr} {f : Bool} {oT : Obj} {k1 : Nat} {xs : Array Value} {Q : Option Value → Shared → Prop} (hh : A.handled = none) (D : ZipApart z TI TO i1 i2 l1 l2)
    (hz : IsZipHeld s.heap z TI TO T f) (hT : s.heap.get? T = some oT) (hTI : IsPair s.heap TI (.ref i1) (.ref i2))
    (h1 : s.heap.IsTupleIter i1 l1 k1) (hl1 : s.heap.IsTuple l1 xs) (hend : xs[k1]? = none)
    (hQ : ∀ h', (∀ c o, c ≠ z → c ≠ i1 → c ≠ i2 → s.heap.get? c = some o → h'.get? c = some o) → Q none { s with heap := h' }) :
    wpAny (model prog w) A (pyNext (.ref z)) Q E s := by
  have hTy : s.TypeIs (.ref z) "zip" := ⟨_, hz, rfl⟩
  unfold pyNext
  refine wpAny_bind (wpAny_attempt (wpAny_callSpecial?_slot (name := Str.ofString "__next__") hTy F.slot_zip_next
    (wpAny_call_entry F.slot_zip_next hTy F.entry_zip_next ?_ (F.args_zip_next_1 _))))
  show wpAny _ _ (field (.ref z) 2 >>= _) _ _ _
  refine wpAny_bind (wpAny_field hz rfl (x := .bool false) rfl ?_)
  show wpAny _ _ (field (.ref z) 3 >>= _) _ _ _
  refine wpAny_bind (wpAny_field hz rfl (x := .ref TI) rfl ?_)
  refine wpAny_bind (wpAny_seqItems hTI rfl ?_)
  show wpAny _ _ (Builtin.SmallTypes.ownedTupleIsFree (.ref z) >>= _) _ _ _
  refine wpAny_bind (wpAny_tupleHeld_zip hz hT fun h₁ hz₁ hs₁ => ?_)
  simp only [Bool.false_eq_true, if_false]
  refine wpAny_bind ?_
  rw [← Array.forIn_toList]
  simp only [List.forIn_cons, List.forIn_nil]
  refine wpAny_bind (wpAny_bind (wpAny_holding ?_))
  show wpAny _ _ (Builtin.SmallTypes.nextOf (.ref i1) >>= _) _ _ _
  refine wpAny_bind (nextOf_tuple_end (s := { s with heap := h₁ }) hh (h1.extBut hs₁.extBut D.i1z) (hl1.extBut hs₁.extBut D.l1z) hend fun h₂ e hs₂ he => ?_)
  obtain ⟨o, ho, hc⟩ := he
  refine wpAny_bind (wpAny_isInstance (T := "StopIteration") (b := true) ⟨o, ho, hc⟩ isSubtype_stop ?_)
  exact wpAny_pure (hQ _ fun c o c1 c2 _ x => hs₂ _ _ c2 (hs₁.extBut _ _ c1 x))
end
theorem sqT_keep {K : PySem.W.Frag} {H H' : Hp} {p : Addr} {xs : List V} (k : ∀ b o, H b = some o → H' b = some o) (h : SqT K H p xs) : SqT K H' p xs := by
  rcases h with (h | ⟨o, h⟩) | h
  · exact .inl (.inl (k _ _ h))
  · exact .inl (.inr ⟨o, k _ _ h⟩)
  · exact .inr h
def ZFree (h : Heap) (z TI TO : Addr) : Prop := IsZip h z TI TO .none ∧ ∃ a b, IsPair h TO a b
def ZHeld (h : Heap) (z TI TO S : Addr) : Prop := ∃ T f oT, IsZipHeld h z TI TO T f ∧ h.get? T = some oT ∧ S < T
section
variable {prog : Program} {w : World} {A : Around} {E : Value → Shared → Prop} {s : Shared}
theorem either_item {z TI TO i1 i2 l1 l2 S : Addr} {i : Nat} {xs ys : Array Value} {x y : Value} {Q : Option Value → Shared → Prop} (D : ZipApart z TI TO i1 i2 l1 l2)
    (hst : ZFree s.heap z TI TO ∨ ZHeld s.heap z TI TO S) (hTI : IsPair s.heap TI (.ref i1) (.ref i2)) (lz : z < S) (lTI : TI < S) (li1 : i1 < S) (li2 : i2 < S) (lS : S < s.heap.objs.size)
    (h1 : s.heap.IsTupleIter i1 l1 i) (h2 : s.heap.IsTupleIter i2 l2 i) (hl1 : s.heap.IsTuple l1 xs) (hl2 : s.heap.IsTuple l2 ys) (hx : xs[i]? = some x) (hy : ys[i]? = some y)
    (hQ : ∀ h', ZHeld h' z TI TO S → IsPair h' TI (.ref i1) (.ref i2) → h'.IsTupleIter i1 l1 (i + 1) → h'.IsTupleIter i2 l2 (i + 1) → IsPair h' s.heap.objs.size x y →
      (∀ c o, c ≠ z → c ≠ TO → c ≠ i1 → c ≠ i2 → s.heap.get? c = some o → h'.get? c = some o) → Q (some (.ref s.heap.objs.size)) { s with heap := h' }) :
    wpAny (model prog w) A (pyNext (.ref z)) Q E s := by
  rcases hst with ⟨hz, a, b, hTO⟩ | ⟨T, f, oT, hz, hT, lT⟩
  · exact pyNext_zipT_item D hz hTI hTO h1 h2 hl1 hl2 hx hy fun h' z' _ a1 a2 a3 _ a5 => hQ h' ⟨_, false, _, z', a3, lS⟩ (a5 _ _ D.TIz D.TITO D.TIi1 D.TIi2 hTI) a1 a2 a3 a5
  · refine held_item D hz hT hTI h1 h2 hl1 hl2 hx hy fun h' z' a1 a2 a3 _ a5 => hQ h' ⟨T, true, oT, z', a5 _ _ ?_ ?_ ?_ hT, lT⟩ (a5 _ _ D.TIz D.TIi1 D.TIi2 hTI) a1 a2 a3 (fun c o c1 _ c3 c4 e => a5 c o c1 c3 c4 e)
    · exact Nat.ne_of_gt (Nat.lt_trans lz lT)
    · exact Nat.ne_of_gt (Nat.lt_trans li1 lT)
    · exact Nat.ne_of_gt (Nat.lt_trans li2 lT)
end
/-- the tuples told so far -/
def Told (H : Hp) (xs ys : List V) (Ts : List Addr) : Prop := ∀ (j : Nat) (T : Addr), Ts[j]? = some T → ∃ x y, xs[j]? = some x ∧ ys[j]? = some y ∧ H T = some (.tup [x, y])
theorem told_snoc {H : Hp} {xs ys : List V} {Ts : List Addr} {T : Addr} {x y : V} (t : Told H xs ys Ts) (hn : H T = none) (hx : xs[Ts.length]? = some x) (hy : ys[Ts.length]? = some y) : Told (upd H T (.tup [x, y])) xs ys (Ts ++ [T]) := by
  intro j U hj
  rw [List.getElem?_append] at hj
  split at hj
  · obtain ⟨a, b, e1, e2, e3⟩ := t j U hj
    exact ⟨a, b, e1, e2, by rw [upd_ne (ne_of_none e3 hn)]; exact e3⟩
  · rename_i hlt
    have e : j = Ts.length := by
      have := (List.getElem?_eq_some_iff.mp hj).1
      simp at this
      omega
    subst e
    simp at hj
    subst hj
    exact ⟨x, y, hx, hy, upd_same⟩
theorem zip_loop {X : Cx} {pins : List (Addr × Obj)} {σ : L2.St} {A : Around} {l1 l2 z TI TO i1 i2 S : Addr} {xs ys : List V} {H1 : Hp} {R : Result → Shared → Prop} {res : Value} (hh : A.in1.handled = none) (D : ZipApart z TI TO i1 i2 l1 l2)
    (lz : z < S) (lTI : TI < S) (lTO : TO < S) (li1 : i1 < S) (li2 : i2 < S) (hlen : xs.length = ys.length) (hn : xs.length ≤ sizeLine) (hl1 : SqT X.K H1 l1 xs) (hl2 : SqT X.K H1 l2 ys) :
    ∀ (k i : Nat) (s : Shared) (H : Hp) (acc : Array Value) (c : Nat) (Ts : List Addr), xs.length - i = k → i ≤ xs.length → Inv X pins σ H s → (∀ b o, H1 b = some o → H b = some o) → (∀ b ∈ [z, TI, TO, i1, i2, S], FpOk X pins H b) →
    ((i = 0 ∧ i < xs.length ∧ ZFree s.heap z TI TO) ∨ ZHeld s.heap z TI TO S) → IsPair s.heap TI (.ref i1) (.ref i2) → s.heap.IsTupleIter i1 l1 i → s.heap.IsTupleIter i2 l2 i →
    s.heap.get? S = some { cls := .type "list", dict := none, data := .seq acc c, slots := #[] } → acc.toList = Ts.map Value.ref → Ts.length = i → Told H xs ys Ts →
    (∀ s' H' acc' c' Ts', Inv X pins σ H' s' → (∀ b o, H1 b = some o → H' b = some o) → s'.heap.get? S = some { cls := .type "list", dict := none, data := .seq acc' c', slots := #[] } → acc'.toList = Ts'.map Value.ref → Ts'.length = xs.length → Told H' xs ys Ts' → R (.ok (.ret res)) s') →
    codeAny (model X.prog X.w) A (.builtin "list.extend.loop" ⟨[.ref S, .ref z, res], []⟩) R s := by
  intro k
  induction k with
  | zero =>
    intro i s H acc c Ts hk hi I km hf hst hTI h1 h2 hS ha hl ht hR
    have hin : i = xs.length := by omega
    rcases hst with ⟨_, hlt, _⟩ | ⟨T, f, oT, hz, hT, lT⟩
    · omega
    refine codeAny_builtin F.entry_extend_loop ?_
    rw [Around.under_plainId F.plain_extend_loop _]
    show wpAny _ A.in1 (pyNext (.ref z) >>= _) _ _ s
    obtain ⟨its, rv, p1, _⟩ := I.tuple (sqT_keep km hl1)
    have q1 := rv.length
    refine wpAny_bind (held_end (l2 := l2) hh D hz hT hTI h1 (show s.heap.IsTuple l1 its.toArray from p1) (by simp; omega) fun h' hk' => ?_)
    have I1 : Inv X pins σ H { s with heap := h' } := I.turnedL (t' := s.toks) (ch := [z, TI, TO, i1, i2, S]) (fun b o hb e => hk' b o (fun q => hb (by simp [q])) (fun q => hb (by simp [q])) (fun q => hb (by simp [q])) e) hf
    exact wpAny_pure (hR _ H acc c Ts I1 km (hk' _ _ (Nat.ne_of_gt lz) (Nat.ne_of_gt li1) (Nat.ne_of_gt li2) hS) ha (hl.trans hin) ht)
  | succ k ih =>
    intro i s H acc c Ts hk hi I km hf hst hTI h1 h2 hS ha hl ht hR
    have hlt : i < xs.length := by omega
    have hlt2 : i < ys.length := by omega
    refine codeAny_builtin F.entry_extend_loop ?_
    rw [Around.under_plainId F.plain_extend_loop _]
    show wpAny _ A.in1 (pyNext (.ref z) >>= _) _ _ s
    obtain ⟨its, rv, p1, _⟩ := I.tuple (sqT_keep km hl1)
    obtain ⟨its2, rv2, p2, _⟩ := I.tuple (sqT_keep km hl2)
    obtain ⟨x, hx⟩ : ∃ x, xs[i]? = some x := ⟨_, List.getElem?_eq_getElem hlt⟩
    obtain ⟨y, hy⟩ : ∃ y, ys[i]? = some y := ⟨_, List.getElem?_eq_getElem hlt2⟩
    obtain ⟨u, hu, ru⟩ := rv.get hx
    obtain ⟨u2, hu2, ru2⟩ := rv2.get hy
    have hN : H s.heap.objs.size = none := I.hok.fresh (Nat.le_refl _)
    have lS : S < s.heap.objs.size := Heap.lt_size hS
    refine wpAny_bind (either_item (S := S) D (hst.elim (fun q => .inl q.2.2) .inr) hTI lz lTI li1 li2 lS h1 h2 (show s.heap.IsTuple l1 its.toArray from p1) (show s.heap.IsTuple l2 its2.toArray from p2) (x := u) (y := u2) (by simpa using hu) (by simpa using hu2) fun h' hz' hTI' h1' h2' hT' hk' => ?_)
    have new : ObjOk X.prog X.w (upd H s.heap.objs.size (.tup [x, y])) h' s.heap.objs.size (.tup [x, y]) :=
      ⟨by show 2 ≤ sizeLine; decide, [u, u2], .cons ru (.cons ru2 .nil), ⟨_, hT', rfl, _, rfl⟩⟩
    have I1 : Inv X pins σ (upd H s.heap.objs.size (.tup [x, y])) { s with heap := h' } :=
      I.turnedNew (t' := s.toks) (ch := [z, TI, TO, i1, i2, S]) (fun b o hb e => hk' b o (fun q => hb (by simp [q])) (fun q => hb (by simp [q])) (fun q => hb (by simp [q])) (fun q => hb (by simp [q])) e) hf (Nat.le_refl _) new
    have hS' := hk' _ _ (Nat.ne_of_gt lz) (Nat.ne_of_gt lTO) (Nat.ne_of_gt li1) (Nat.ne_of_gt li2) hS
    have hf' : ∀ b ∈ [z, TI, TO, i1, i2, S], FpOk X pins (upd H s.heap.objs.size (.tup [x, y])) b := fun b hb => by
      have hlb : b < s.heap.objs.size := by
        have e' : b = z ∨ b = TI ∨ b = TO ∨ b = i1 ∨ b = i2 ∨ b = S := by simpa using hb
        rcases e' with q | q | q | q | q | q
        · rw [q]; exact Nat.lt_trans lz lS
        · rw [q]; exact Nat.lt_trans lTI lS
        · rw [q]; exact Nat.lt_trans lTO lS
        · rw [q]; exact Nat.lt_trans li1 lS
        · rw [q]; exact Nat.lt_trans li2 lS
        · rw [q]; exact lS
      obtain ⟨f0, f1⟩ := hf b hb
      exact ⟨by rw [upd_ne (Nat.ne_of_lt hlb)]; exact f0, f1⟩
    have hal : acc.size = i := by
      have := congrArg List.length ha
      simp at this
      omega
    show wpAny _ A.in1 (updateSeq S (·.push (.ref s.heap.objs.size)) >>= _) _ _ _
    refine wpAny_bind ?_
    refine wpAny_updateSeq hS' rfl (wpAny_pure ⟨plainId_quiet F.plain_extend_loop _, ih (i + 1) _ (upd H s.heap.objs.size (.tup [x, y])) (acc.push (.ref s.heap.objs.size)) _ (Ts ++ [s.heap.objs.size]) (by omega) (by omega) ?_ ?_ hf' (.inr ?_) ?_ ?_ ?_ (Heap.get?_update_self _ hS' rfl) ?_ ?_ ?_ hR⟩)
      (by rw [hal]; omega) (by show (acc.push (.ref s.heap.objs.size)).size ≤ sizeLine + 1; rw [Array.size_push, hal]; omega)
    · exact I1.turnedL (t' := s.toks) (ch := [S]) (fun b o hb e => (Heap.get?_update_other _ _ (fun h : S = b => hb (by simp [h]))).trans e) (fun b hb => hf' b (by
        have e' : b = S := by simpa using hb
        simp [e']))
    · intro b o e
      rw [upd_ne (ne_of_none (km b o e) hN)]
      exact km b o e
    · obtain ⟨T, f, oT, hz, hT, lT⟩ := hz'
      exact ⟨T, f, oT, (Heap.get?_update_other _ _ (Nat.ne_of_gt lz)).trans hz, (Heap.get?_update_other _ _ (Nat.ne_of_lt lT)).trans hT, lT⟩
    · exact (Heap.get?_update_other _ _ (Nat.ne_of_gt lTI)).trans hTI'
    · exact h1'.at fun o e => (Heap.get?_update_other _ _ (Nat.ne_of_gt li1)).trans e
    · exact h2'.at fun o e => (Heap.get?_update_other _ _ (Nat.ne_of_gt li2)).trans e
    · simp [ha]
    · simp [hl]
    · exact told_snoc ht hN (by rw [hl]; exact hx) (by rw [hl]; exact hy)
/-- tuple(zip(a, b)) -/
def tTupZip (K : PySem.W.Frag) (ta : TA) : TE := fun σ H Q => ta σ H fun vs H1 => ∃ (a b : Addr) (xs ys : List V), vs = [.ref a, .ref b] ∧ SqT K H1 a xs ∧ SqT K H1 b ys ∧ xs.length = ys.length ∧ 0 < xs.length ∧
  ∀ H2 t Ts, (∀ c o, H1 c = some o → H2 c = some o) → H2 t = some (.tup (Ts.map V.ref)) → Ts.length = xs.length → Told H2 xs ys Ts → Q (.ref t) H2
theorem vals_refs : ∀ {Ts : List Addr}, Vals (Ts.map V.ref) (Ts.map Value.ref)
  | [] => .nil
  | _ :: _ => .cons rfl vals_refs
theorem zip_collect {X : Cx} {pins : List (Addr × Obj)} {σ : L2.St} {A : Around} {E : Value → Shared → Prop} {l1 l2 z TI TO i1 i2 : Addr} {xs ys : List V} {H1 : Hp} {s : Shared} {Q : List Value → Shared → Prop} (hh : A.handled = none) (D : ZipApart z TI TO i1 i2 l1 l2)
    (hlen : xs.length = ys.length) (h0 : 0 < xs.length) (hn : xs.length ≤ sizeLine) (hl1 : SqT X.K H1 l1 xs) (hl2 : SqT X.K H1 l2 ys) (I : Inv X pins σ H1 s) (hf : ∀ b ∈ [z, TI, TO, i1, i2], FpOk X pins H1 b ∧ b < s.heap.objs.size)
    (hz : ZFree s.heap z TI TO) (hTI : IsPair s.heap TI (.ref i1) (.ref i2)) (h1 : s.heap.IsTupleIter i1 l1 0) (h2 : s.heap.IsTupleIter i2 l2 0)
    (hQ : ∀ s' H' Ts, Inv X pins σ H' s' → (∀ b o, H1 b = some o → H' b = some o) → Ts.length = xs.length → Told H' xs ys Ts → Q (Ts.map Value.ref) s') : wpAny (model X.prog X.w) A (collect (.ref z)) Q E s := by
  have lz := (hf z (by simp)).2
  have lTI := (hf TI (by simp)).2
  have lTO := (hf TO (by simp)).2
  have li1 := (hf i1 (by simp)).2
  have li2 := (hf i2 (by simp)).2
  have hT : ∀ (h : Heap) (tk : Nat), IsZip h z TI TO .none → ({ s with heap := h, toks := tk } : Shared).TypeIs (.ref z) "zip" := fun h tk q => ⟨_, q, rfl⟩
  unfold collect
  refine wpAny_bind (wpAny_runValue (codeAny_builtin F.entry_proto_collect ?_))
  rw [Around.under_plainId F.plain_proto_collect _]
  show wpAny _ A.in1 (newList [] >>= fun l => again (.builtin "list.__iadd__" ⟨[l, .ref z], []⟩)) _ _ s
  refine wpAny_bind (wpAny_newObj_type ?_)
  refine wpAny_pure ⟨plainId_quiet F.plain_list_iadd _, codeAny_builtin F.entry_list_iadd ?_⟩
  rw [Around.under_plainId F.plain_list_iadd _]
  have hS₁ : (s.heap.push { cls := .type "list", data := .seq ([] : List Value).toArray }).get? s.heap.objs.size = some { cls := .type "list", data := .seq ([] : List Value).toArray } := Heap.get?_push_size _ rfl
  have kp : ∀ b o, s.heap.get? b = some o → (s.heap.push { cls := .type "list", data := .seq ([] : List Value).toArray }).get? b = some o := fun b o e => Heap.get?_push_of_some _ e
  have hTy := hT _ s.toks (kp _ _ hz.1)
  show wpAny _ A.in1 (Builtin.List.listExtendWith (.ref s.heap.objs.size) (.ref z) (.ref s.heap.objs.size)) _ _ _
  unfold Builtin.List.listExtendWith
  refine wpAny_bind (wpAny_typeOf hTy ?_)
  have hne : s.heap.objs.size ≠ z := Nat.ne_of_gt lz
  have h1' : Builtin.List.listSameRef (.ref s.heap.objs.size) (.ref z) = false := by simp [Builtin.List.listSameRef, hne]
  have t2 : (Value.type "zip" == Value.type "list") = false := by decide +kernel
  have t3 : (Value.type "zip" == Value.type "tuple") = false := by decide +kernel
  simp only [h1', t2, t3, Bool.or_false, Bool.false_eq_true, if_false]
  refine wpAny_bind (wpAny_pyIter_zip (s := { s with heap := s.heap.push { cls := .type "list", data := .seq ([] : List Value).toArray } }) (kp _ _ hz.1) ?_)
  refine wpAny_bind (wpAny_holding ?_)
  unfold Builtin.List.listLengthHint
  refine wpAny_bind (wpAny_specialOf hTy nolen_zip ?_)
  show wpAny _ A.in1 (specialOf (Value.ref z) (Str.ofString "__length_hint__") >>= _) _ _ _
  refine wpAny_bind (wpAny_specialOf hTy nohint_zip ?_)
  refine wpAny_pure ?_
  show wpAny _ A.in1 (rule "list.extend.makes-room" >>= fun _ => Builtin.List.listTouch (.ref s.heap.objs.size) >>= fun _ =>
    again (.builtin "list.extend.loop" ⟨[.ref s.heap.objs.size, .ref z, .ref s.heap.objs.size], []⟩)) _ _ _
  refine wpAny_bind (wpAny_rule ?_)
  refine wpAny_bind ?_
  show wpAny _ A.in1 (updateSeq s.heap.objs.size (·.push .none) >>= fun _ => updateSeq s.heap.objs.size (·.pop)) _ _ _
  refine wpAny_bind (wpAny_updateSeq hS₁ rfl ?_)
  have hS₂ := Heap.get?_update_self (Obj.mapSeq (·.push Value.none)) hS₁ rfl
  refine wpAny_updateSeq hS₂ rfl ?_
  have hS₃ := Heap.get?_update_self (Obj.mapSeq (·.pop)) hS₂ rfl
  have oth : ∀ b o, s.heap.get? b = some o →
      (((s.heap.push { cls := .type "list", data := .seq ([] : List Value).toArray }).update s.heap.objs.size (Obj.mapSeq (·.push Value.none))).update s.heap.objs.size (Obj.mapSeq (·.pop))).get? b = some o :=
    fun b o e => (Heap.get?_update_other _ _ (Nat.ne_of_gt (Heap.lt_size e))).trans ((Heap.get?_update_other _ _ (Nat.ne_of_gt (Heap.lt_size e))).trans (kp b o e))
  have I2 : Inv X pins σ H1 { s with heap := ((s.heap.push { cls := .type "list", data := .seq ([] : List Value).toArray }).update s.heap.objs.size (Obj.mapSeq (·.push Value.none))).update s.heap.objs.size (Obj.mapSeq (·.pop)) } := I.kept (t' := s.toks) oth
  have fS : FpOk X pins H1 s.heap.objs.size := I.fpOk (Nat.le_refl _) (I.hok.fresh (Nat.le_refl _))
  refine wpAny_pure ⟨plainId_quiet F.plain_extend_loop _, zip_loop (X := X) (pins := pins) (σ := σ) (H1 := H1) (A := A) (show A.in1.handled = none from hh) D lz lTI lTO li1 li2 hlen hn hl1 hl2 xs.length 0 _ H1 _ _ [] (by omega) (Nat.zero_le _) I2 (fun _ _ e => e) (fun b hb => ?_)
    (.inl ⟨rfl, h0, oth _ _ hz.1, ?_⟩) (oth _ _ hTI) (h1.at fun o e => oth _ _ e) (h2.at fun o e => oth _ _ e) hS₃ rfl rfl (fun j T q => by simp at q) fun s' H' acc' c' Ts' I' km' hS' ha' hl' ht' => ?_⟩
  · have e' : b ∈ [z, TI, TO, i1, i2] ∨ b = s.heap.objs.size := by
      simp only [List.mem_cons, List.not_mem_nil, or_false] at hb ⊢
      rcases hb with q | q | q | q | q | q <;> simp [q]
    rcases e' with q | q
    · exact (hf b q).1
    · rw [q]; exact fS
  · obtain ⟨a, b, q⟩ := hz.2
    exact ⟨a, b, oth _ _ q⟩
  · show wpAny _ A (load s.heap.objs.size >>= _) _ _ s'
    refine wpAny_bind (wpAny_load hS' ?_)
    refine wpAny_pure ?_
    rw [show acc'.toList = Ts'.map Value.ref from ha']
    exact hQ s' H' Ts' I' km' hl' ht'
section
variable {prog : Program} {w : World} {A : Around}
theorem call_tuple_zip {X : Cx} {pins : List (Addr × Obj)} {σ : L2.St} {A : Around} {E : Value → Shared → Prop} {l1 l2 z TI TO i1 i2 : Addr} {xs ys : List V} {H1 : Hp} {s : Shared} {Q : Value → Shared → Prop} (hh : A.handled = none) (D : ZipApart z TI TO i1 i2 l1 l2)
    (hlen : xs.length = ys.length) (h0 : 0 < xs.length) (hn : xs.length ≤ sizeLine) (hl1 : SqT X.K H1 l1 xs) (hl2 : SqT X.K H1 l2 ys) (I : Inv X pins σ H1 s) (hf : ∀ b ∈ [z, TI, TO, i1, i2], FpOk X pins H1 b ∧ b < s.heap.objs.size)
    (hz : ZFree s.heap z TI TO) (hTI : IsPair s.heap TI (.ref i1) (.ref i2)) (h1 : s.heap.IsTupleIter i1 l1 0) (h2 : s.heap.IsTupleIter i2 l2 0)
    (hQ : ∀ s' H' Ts, Inv X pins σ H' s' → (∀ b o, H1 b = some o → H' b = some o) → Ts.length = xs.length → Told H' xs ys Ts → Q (.ref s'.heap.objs.size) { s' with heap := s'.heap.push { cls := .type "tuple", data := .seq (Ts.map Value.ref).toArray } }) :
    wpAny (model X.prog X.w) A (call (.type "tuple") [.ref z]) Q E s := by
  refine callType_codes (Q₁ := fun obj s₁ => s₁.TypeIs obj "tuple" ∧ Q obj s₁) F.called_tuple (F.typeCall_tuple_1 _) F.entry_object_init ?_ fun obj s₁ h₁ => ⟨h₁.1, F.args_object_init_2 obj _, object_init_meets F.called_tuple.init.lookup F.called_tuple.made (by decide) X.prog X.w A.in1 _ s₁ ⟨h₁.1, rfl, h₁.2⟩⟩
  refine codeAny_of_tree ?_
  show wpAny _ A.in1.in1 (do checkBuiltinCall "tuple.__new__" ⟨[.type "tuple", .ref z], []⟩; again (.builtin "tuple.__new__" ⟨[.type "tuple", .ref z], []⟩)) _ _ s
  refine wpAny_bind (wpAny_of_eq (F.newCall_tuple_1 _) (wpAny_pure ⟨plainId_quiet F.plain_tuple_new _, codeAny_builtin F.entry_tuple_new ?_⟩))
  rw [Around.under_plainId F.plain_tuple_new _]
  have hsub := sub_tuple_self
  have hinit := init_tuple_lookup
  have hmh := madeHere_tuple
  have hTI' : s.TypeIs (.ref z) "zip" := ⟨_, hz.1, rfl⟩
  have hh1 : A.in1.in1.handled = none := hh
  wp_walk using wpAny_typeOf hTI', zip_collect (A := A.in1.in1) hh1 D hlen h0 hn hl1 hl2 I hf hz hTI h1 h2
  intro s' H' Ts I' km hl ht
  show wpAny _ _ (Builtin.Tuple.tupleExact (Ts.map Value.ref).toArray >>= fun v => ret v) _ _ _
  unfold Builtin.Tuple.tupleExact
  refine wpAny_bind (wpAny_newObj_type ?_ (by show (Ts.map Value.ref).toArray.size ≤ sizeLine; simp; omega))
  exact wpAny_pure ⟨⟨_, Heap.get?_push_size _ rfl, rfl⟩, hQ s' H' Ts I' km hl ht⟩
end
theorem pe_tupZip {X : Cx} {e e2 : Expr} {ta : TA} {p p2 pos pos2 : Pos} (hc : X.calm = true) (hg : Gl X "tuple") (hm : X.mg "tuple" = none) (hg2 : Gl X "zip") (hm2 : X.mg "zip" = none) (ha : PA X [e, e2] ta)
    (hs : starEach [e, e2] X.env = (false, eval e X.env) :: starEach [e2] X.env := by rfl) (hpl : (backTo pos2 (starEach [e2] X.env)).any (·.1) = false := by rfl)
    (hs2 : starEach [.Call (.Name "zip" p2) [e, e2] [] pos2] X.env = (false, eval (.Call (.Name "zip" p2) [e, e2] [] pos2) X.env) :: starEach [] X.env := by rfl) :
    PE X (.Call (.Name "tuple" p) [.Call (.Name "zip" p2) [e, e2] [] pos2] [] pos) (tTupZip X.K ta) := by
  refine ⟨fun pins s σ H Q I h => ?_⟩
  refine Call_ (ld_blt I hg hm boot_tuple (PyProof.Rows.callWith_type1 (args_cons (Call_ (ld_blt I hg2 hm2 PyProof.Rows.boot_zip (PyProof.Rows.callWith_type1 (thn (ha.run pos2 pins s σ H _ I h) fun us s1 ⟨vs, H1, I1, r1, q1⟩ => ?_) hs hpl))) hs2) hs2 rfl))
  obtain ⟨a, b, xs, ys, ex, hqx, hqy, hlen, h0, q⟩ := q1
  subst ex
  cases r1 with
  | cons r rr =>
    cases rr with
    | cons r' rr =>
      cases rr
      cases r
      cases r'
      have fresh5 : ∀ c, c ∈ [s1.heap.objs.size + 4, s1.heap.objs.size + 2, s1.heap.objs.size + 3, s1.heap.objs.size, s1.heap.objs.size + 1] → FpOk X pins H1 c ∧ c < s1.heap.objs.size + 5 := fun c hcm => by
        have e' : c = s1.heap.objs.size + 4 ∨ c = s1.heap.objs.size + 2 ∨ c = s1.heap.objs.size + 3 ∨ c = s1.heap.objs.size ∨ c = s1.heap.objs.size + 1 := by simpa using hcm
        have hle : s1.heap.objs.size ≤ c ∧ c < s1.heap.objs.size + 5 := by
          rcases e' with z | z | z | z | z
          · rw [z]; exact ⟨Nat.le_add_right _ _, Nat.add_lt_add_left (by decide) _⟩
          · rw [z]; exact ⟨Nat.le_add_right _ _, Nat.add_lt_add_left (by decide) _⟩
          · rw [z]; exact ⟨Nat.le_add_right _ _, Nat.add_lt_add_left (by decide) _⟩
          · rw [z]; exact ⟨Nat.le_refl _, Nat.lt_add_of_pos_right (by decide)⟩
          · rw [z]; exact ⟨Nat.le_add_right _ _, Nat.add_lt_add_left (by decide) _⟩
        exact ⟨I1.fpOk hle.1 (I1.hok.fresh hle.1), hle.2⟩
      obtain ⟨its, rv, p1, hz1⟩ := I1.tuple hqx
      obtain ⟨its2, rv2, p2', _⟩ := I1.tuple hqy
      obtain ⟨o1, ho1, _⟩ := id p1
      obtain ⟨o2, ho2, _⟩ := id p2'
      refine call_zipT (show s1.heap.IsTuple a its.toArray from p1) (show s1.heap.IsTuple b its2.toArray from p2') fun h' hz hTI hTO h1 h2 hsz hk => ?_
      have I2 : Inv X pins σ H1 { s1 with heap := h' } := I1.kept (t' := s1.toks) hk
      refine args_nil (call_tuple_zip (X := X) (I1.ok.hd hc) (PySem.W.ktu_apart s1.heap.objs.size a b (Heap.lt_size ho1) (Heap.lt_size ho2)) hlen h0 hz1 hqx hqy I2 (fun c hcm => ?_) ⟨hz, _, _, hTO⟩ hTI h1 h2 fun s' H' Ts I' km hl ht => ?_)
      · obtain ⟨f0, f1⟩ := fresh5 c hcm
        exact ⟨f0, by show c < h'.objs.size; rw [hsz]; exact f1⟩
      · have hn : H' s'.heap.objs.size = none := I'.hok.fresh (Nat.le_refl _)
        refine ⟨.ref s'.heap.objs.size, upd H' s'.heap.objs.size (.tup (Ts.map V.ref)), I'.laid (t' := s'.toks) (fun c o e => Heap.get?_push_of_some _ e) (Nat.le_refl _) (show ObjOk X.prog X.w _ _ _ (.tup (Ts.map V.ref)) from ⟨by rw [List.length_map, hl]; exact hz1, Ts.map Value.ref, vals_refs, IsTup.new _ _⟩), rfl, q _ _ Ts (fun c o e => ?_) upd_same hl fun j T hj => ?_⟩
        · rw [upd_ne (ne_of_none (km c o e) hn)]
          exact km c o e
        · obtain ⟨x, y, e1, e2, e3⟩ := ht j T hj
          exact ⟨x, y, e1, e2, by rw [upd_ne (ne_of_none e3 hn)]; exact e3⟩
end OZ
/-! enumerate(tuple) with a target of two names -/
namespace OZ
open PySem PySem.Spec PyProof.Rows L2 RZ
open AutoSeq1 (wpAny_loadPart')
theorem meets_enumerate_newT (l : Addr) (items : Array Value) (n : Nat) (dct : Option Addr) (sl : Array (Option Value)) :
    Meets (Builtin.«enumerate.__new__» ⟨[.type "enumerate", .ref l], []⟩) (fun _ R s => s.heap.get? l = some { cls := .type "tuple", dict := dct, data := .seq items n, slots := sl } ∧
      R (.ok (.ret (.ref (s.heap.push { cls := .type "tuple_iterator", data := .fields #[.ref l, .int 0 0] }).objs.size)))
        { s with heap := (s.heap.push { cls := .type "tuple_iterator", data := .fields #[.ref l, .int 0 0] }).push { cls := .type "enumerate", data := .fields #[.none, .bool false, .ref s.heap.objs.size, rawInt 0, .none, .none] } }) :=
  .of_wp fun prog w A R s h => by
    obtain ⟨hp, g, d, tk, os⟩ := s; obtain ⟨hl, h⟩ := h
    have hsub := sub_enumerate
    have hL : Heap.IsTuple (Shared.heap ⟨hp, g, d, tk, os⟩) l items := ⟨_, hl, rfl, n, rfl⟩
    wp_walk using wpAny_loadPart' hl
    refine wpAny_stack_any fun st => wpAny_pure ?_
    split
    · rename_i c _ _ _ _ _
      cases (c == Value.type "enumerate")
      · wp_walk using wpAny_loadPart' hl, wpAny_pyIter_tuple hL
        exact ⟨_, rfl, h⟩
      · wp_walk using wpAny_loadPart' hl, wpAny_pyIter_tuple hL
        exact ⟨_, rfl, h⟩
    · wp_walk using wpAny_loadPart' hl, wpAny_pyIter_tuple hL
      exact ⟨_, rfl, h⟩
section
variable {prog : Program} {w : World} {A : Around} {E : Value → Shared → Prop} {s : Shared}
theorem call_enumerate_tuple {l : Addr} {items : Array Value} {Q : Value → Shared → Prop} (hL : s.heap.IsTuple l items)
    (h : ∀ h', IsEnum h' (s.heap.objs.size + 1) s.heap.objs.size 0 .none → h'.IsTupleIter s.heap.objs.size l 0 → h'.objs.size = s.heap.objs.size + 2 →
      (∀ b o, s.heap.get? b = some o → h'.get? b = some o) → Q (.ref (s.heap.objs.size + 1)) { s with heap := h' }) :
    wpAny (model prog w) A (call (.type "enumerate") [.ref l]) Q E s := by
  obtain ⟨⟨c, dct, dt, sl⟩, hl, hc, n, hd⟩ := hL
  replace hc : c = .type "tuple" := hc
  replace hd : dt = .seq items n := hd
  subst hc hd
  refine callType_new F.called_enumerate (by decide) (F.typeCall_enumerate_1 _) (F.newCall_enumerate_1 _) (fun obj => F.args_object_init_2 obj _) F.entry_enumerate_new
    (meets_enumerate_newT l items n dct sl) ⟨hl, ?_⟩
  have hz : (s.heap.push { cls := .type "tuple_iterator", data := .fields #[.ref l, .int 0 0] }).objs.size = s.heap.objs.size + 1 := Heap.size_push ..
  show _ ∧ _
  rw [hz]
  have he : IsEnum ((s.heap.push { cls := .type "tuple_iterator", data := .fields #[.ref l, .int 0 0] }).push
      { cls := .type "enumerate", data := .fields #[.none, .bool false, .ref s.heap.objs.size, rawInt 0, .none, .none] }) (s.heap.objs.size + 1) s.heap.objs.size 0 .none := by
    have := Heap.get?_push_size (s.heap.push { cls := .type "tuple_iterator", data := .fields #[.ref l, .int 0 0] })
      (o := { cls := .type "enumerate", data := .fields #[.none, .bool false, .ref s.heap.objs.size, rawInt 0, .none, .none] }) rfl
    rw [hz] at this; exact this
  refine ⟨⟨_, he, rfl⟩, h _ he ⟨_, Heap.get?_push_of_some _ (Heap.get?_push_size _ rfl), rfl, rfl⟩ (by rw [Heap.size_push, hz]) fun b o x => Heap.get?_push_of_some _ (Heap.get?_push_of_some _ x)⟩
end
/-- the tuple at a, each item in a new pair -/
def IteT (K : PySem.W.Frag) (a : Addr) (xs : List V) : It :=
  ⟨fun i H => SqT K H a xs ∧ i < xs.length, fun i H v H' => ∃ T x, v = .ref T ∧ H T = none ∧ H' = upd H T (.tup [.int (i : Nat), x]) ∧ xs[i]? = some x, fun i H => SqT K H a xs ∧ xs.length ≤ i⟩
theorem turn_enumT {P : Program} {w : World} {K : PySem.W.Frag} {elts : List Expr} {kk : Nat} {tpos : Pos} (a e it : Addr) (xs : List V) :
    Turn P w K (.Tuple elts kk tpos) (IteT K a xs) [e, it] e (fun i h => (∃ old, IsEnum h e it ((i : Nat) : Int) old) ∧ h.IsTupleIter it a i ∧ e ≠ it ∧ a ≠ it ∧ a ≠ e) where
  mem := by simp
  obj := fun i h st b hb => by
    obtain ⟨⟨old, he⟩, ⟨o, ho, hc, hd⟩, _⟩ := st
    have e' : b = e ∨ b = it := by simpa using hb
    rcases e' with z | z
    · rw [z]; exact ⟨_, he, fun v q => nomatch q⟩
    · rw [z]; exact ⟨o, ho, fun v q => by rw [hd] at q; cases q⟩
  keep := fun i h h' st k => let ⟨⟨old, he⟩, hi, hne⟩ := st; ⟨⟨old, k e (by simp) _ he⟩, hi.at fun o q => k it (by simp) o q, hne⟩
  item := by
    intro X hP hw hK hc i pins s σ H E I hf st hg
    subst hP hw hK
    obtain ⟨⟨old, he⟩, hit, hne, hai, hae⟩ := st
    obtain ⟨hq, hlt⟩ := hg
    obtain ⟨x, hx⟩ : ∃ x, xs[i]? = some x := ⟨_, List.getElem?_eq_getElem hlt⟩
    obtain ⟨its, rv, p, hz⟩ := I.tuple hq
    obtain ⟨u, hu, ru⟩ := rv.get hx
    have hel : e < s.heap.objs.size := Heap.lt_size he
    have hil : it < s.heap.objs.size := by obtain ⟨_, q, _⟩ := hit; exact Heap.lt_size q
    have hl := rv.length
    refine wpAny_pyNext_enum_itemD (Draws.tuple (show X.A.in1.handled = none from I.ok.hd hc) it a hai its.toArray) he ⟨hit, p⟩ (by simp; omega) hne (by simp [hne, hae.symm]) fun v h' tk hv ho hit' hT hsz hk => ?_
    have ev : v = u := by
      have z : its.toArray[i]? = some u := by simpa using hu
      rw [z] at hv
      exact (Option.some.inj hv).symm
    subst ev
    refine ⟨_, rfl, wpAny_letOwnedTupleGo_enum (s := { s with heap := h', toks := tk + 1 }) ho fun h'' he' sb => ?_⟩
    have hT2 : h''.get? s.heap.objs.size = some { cls := .type "tuple", data := .seq #[.int i tk, v] } := (sb.2 _ (Nat.ne_of_gt hel)).trans hT
    have new : ObjOk X.prog X.w (upd H s.heap.objs.size (.tup [.int (i : Nat), x])) h'' s.heap.objs.size (.tup [.int (i : Nat), x]) :=
      ⟨by show 2 ≤ sizeLine; decide, [.int i tk, v], .cons ⟨_, rfl⟩ (.cons ru .nil), ⟨_, hT2, rfl, _, rfl⟩⟩
    have I1 : Inv X pins σ (upd H s.heap.objs.size (.tup [.int (i : Nat), x])) { s with heap := h'', toks := tk + 1 } :=
      I.turnedNew (ch := [e, it]) (fun b ob hb q => (sb.2 b (fun z => hb (by simp [z]))).trans (hk b ob (fun z => hb (by simp [z])) (fun z => hb (by simp [z])) q)) hf (Nat.le_refl _) new
    refine ⟨.ref s.heap.objs.size, _, I1, rfl, ⟨_, x, rfl, I.hok.fresh (Nat.le_refl _), rfl, hx⟩, ⟨⟨v, ?_⟩, hit'.1.at fun o q => (sb.2 it (Ne.symm hne)).trans q, hne, hai, hae⟩, fun b hb => ?_⟩
    · have e1 : ((i + 1 : Nat) : Int) = (i : Int) + 1 := by omega
      rw [e1]; exact he'
    · have hb' : b < s.heap.objs.size := by
        have e' : b = e ∨ b = it := by simpa using hb
        rcases e' with z | z
        · rw [z]; exact hel
        · rw [z]; exact hil
      rw [upd_ne (Nat.ne_of_lt hb')]
      exact (hf b hb).1
  done := by
    intro X hP hw hK hc i pins s σ H E I hf st hg
    subst hP hw hK
    obtain ⟨⟨old, he⟩, hit, hne, hai, hae⟩ := st
    obtain ⟨hq, hx⟩ := hg
    obtain ⟨its, rv, p, hz⟩ := I.tuple hq
    obtain ⟨f0, f1, f2, f3, f4, f5⟩ := hf it (by simp)
    have hl := rv.length
    have hT : s.TypeIs (.ref e) "enumerate" := ⟨_, he, rfl⟩
    unfold pyNext
    refine wpAny_bind (wpAny_attempt (wpAny_callSpecial?_slot (name := Str.ofString "__next__") hT F.slot_enumerate_next
      (wpAny_call_entry F.slot_enumerate_next hT F.entry_enumerate_next ?_ (F.args_enumerate_next_1 _))))
    show wpAny _ _ (field (.ref e) 2 >>= _) _ _ _
    refine wpAny_bind (wpAny_field he rfl (x := .ref it) rfl ?_)
    refine wpAny_bind (RZ.nextOf_tuple_end (show X.A.in1.handled = none from I.ok.hd hc) hit (show s.heap.IsTuple a its.toArray from p) (by simp; omega) fun h' y he' hx' => ?_)
    obtain ⟨o, ho, hc'⟩ := hx'
    refine wpAny_bind (wpAny_isInstance (T := "StopIteration") (b := true) ⟨o, ho, hc'⟩ isSubtype_stop ?_)
    exact wpAny_pure ⟨rfl, I.turned (t' := s.toks) (fun b o hb q => he' b o hb q) f0 f1 f3 f4 f5⟩
  self := fun A i s Q E st h => let ⟨⟨_, he⟩, _⟩ := st; wpAny_pyIter_enum he h
def iEnumT (K : PySem.W.Frag) (ta : TA) : TI := fun σ H R => ta σ H fun vs H1 => ∃ a xs, vs = [.ref a] ∧ SqT K H1 a xs ∧ R (IteT K a xs) H1
theorem pi_enumT {X : Cx} {e : Expr} {ta : TA} {p pos tpos : Pos} {elts : List Expr} {kk : Nat} (hg : Gl X "enumerate") (hm : X.mg "enumerate" = none) (ha : PA X [e] ta) (hs : starEach [e] X.env = [(false, eval e X.env)] := by rfl) :
    PI X (.Tuple elts kk tpos) (.Call (.Name "enumerate" p) [e] [] pos) (iEnumT X.K ta) := by
  refine ⟨fun pins s σ H R I h => ?_⟩
  refine Call_ (ld_blt I hg hm boot_enumerate (PyProof.Rows.callWith_type1 (thn (ha.run pos pins s σ H _ I h) fun us s1 ⟨vs, H1, I1, r1, q1⟩ => ?_) hs rfl))
  obtain ⟨a, xs, ex, hq, q⟩ := q1
  subst ex
  cases r1 with
  | cons r rr =>
    cases rr
    cases r
    obtain ⟨its, rv, p', hz⟩ := I1.tuple hq
    obtain ⟨o1, ho1, _⟩ := id p'
    have hal : a < s1.heap.objs.size := Heap.lt_size ho1
    refine call_enumerate_tuple (show s1.heap.IsTuple a its.toArray from p') fun h' he hit hsz hk => wpAny_pyIter_enum he ?_
    have I2 : Inv X pins σ H1 { s1 with heap := h' } := I1.kept (t' := s1.toks) hk
    refine ⟨s1.heap.objs.size + 1, [s1.heap.objs.size + 1, s1.heap.objs.size], _, _, H1, rfl, I2, turn_enumT a (s1.heap.objs.size + 1) s1.heap.objs.size xs, ⟨⟨.none, he⟩, hit, Nat.succ_ne_self _, Nat.ne_of_lt hal, Nat.ne_of_lt (Nat.lt_succ_of_lt hal)⟩, fun b hb => ?_, q⟩
    have e' : b = s1.heap.objs.size + 1 ∨ b = s1.heap.objs.size := by simpa using hb
    have hle : s1.heap.objs.size ≤ b := by
      rcases e' with z | z
      · rw [z]; exact Nat.le_add_right _ _
      · rw [z]; exact Nat.le_refl _
    exact I1.fpOk hle (I1.hok.fresh hle)
/-- a loop over enumerate(tuple) -/
theorem for_enumT {K : PySem.W.Frag} {a : Addr} {xs : List V} {g : TG} {tb : TS} {D : Ends} {σ : L2.St} {H : Hp} (Pv : Nat → L2.St → Hp → Prop) (h0 : Pv 0 σ H) (hq : ∀ i σ H, Pv i σ H → SqT K H a xs)
    (hs : ∀ (i : Nat) (x : V) (T : Addr) (σ : L2.St) (H : Hp), xs[i]? = some x → Pv i σ H → H T = none → g (.ref T) σ (upd H T (.tup [.int (i : Nat), x])) fun σ2 H2 => tb { D with nx := Pv (i + 1), ct := Pv (i + 1), bk := D.nx } σ2 H2) (hd : ∀ σ H, Pv xs.length σ H → D.nx σ H) :
    ∃ W : Nat → Nat → L2.St → Hp → Prop, (∃ m, W 0 m σ H) ∧ ∀ i m σ H, W i m σ H →
      ((IteT K a xs).stop i H ∧ D.nx σ H) ∨ ((IteT K a xs).go i H ∧ ∃ N : L2.St → Hp → Prop, (∀ σ' H', N σ' H' → ∃ m', m' < m ∧ W (i + 1) m' σ' H') ∧ ∀ v H', (IteT K a xs).yld i H v H' → g v σ H' fun σ2 H2 => tb { D with nx := N, ct := N, bk := D.nx } σ2 H2) := by
  refine ⟨fun i m σ H => m = xs.length - i ∧ i ≤ xs.length ∧ Pv i σ H, ⟨xs.length, rfl, Nat.zero_le _, h0⟩, ?_⟩
  rintro i m σ H ⟨rfl, hi, p⟩
  by_cases hlt : i < xs.length
  · refine .inr ⟨⟨hq _ _ _ p, hlt⟩, Pv (i + 1), fun σ' H' p' => ⟨xs.length - (i + 1), by omega, rfl, by omega, p'⟩, ?_⟩
    rintro v H' ⟨T, x, rfl, hn, rfl, hx⟩
    exact hs i x T σ H hx p hn
  · have e : i = xs.length := by omega
    subst e
    exact .inl ⟨⟨hq _ _ _ p, Nat.le_refl _⟩, hd _ _ p⟩
/-- a dict of the module whose keys are ints -/
def KInt (K : PySem.W.Frag) (a : Addr) (k : Int) (v : V) : Prop :=
  ∃ es n u, K.lookup a = some ⟨.type "dict", none, .dict es n, #[]⟩ ∧ (∀ e ∈ es, ∃ k t, e.key = Value.int k t ∧ e.hash = hashInt k) ∧ findBy Value.isInt es k = some u ∧ RelV v u
def rIxI (K : PySem.W.Frag) : R2 := fun x y H Q => ∃ p k v, x = .ref p ∧ y = .int k ∧ KInt K p k v ∧ Q v H
theorem ix_kdictI {X : Cx} : IxR X (rIxI X.K) := by
  intro value slice pins s σ H x y v u Q I rx ry h hs
  obtain ⟨p, k, r, rfl, rfl, ⟨es, n, u0, hl, hk, e, ru⟩, q⟩ := h
  obtain rfl : v = Value.ref p := rx
  obtain ⟨t, rfl⟩ := ry
  have hm : s.heap.MapOf (intKind X.prog X.w) p (fun k => findBy Value.isInt es k) := ⟨_, es, n, I.kIn _ _ hl, ⟨rfl, rfl, rfl⟩, rfl, fun e he => by
    obtain ⟨k, t, e1, e2⟩ := hk e he
    exact ⟨k, by rw [e1]; simp [intKind, Value.isInt], e2⟩, fun _ => rfl⟩
  exact tail_any hm.typeIs slot_dict_getitem.lookup (wpAny_getItem_of (show (intKind X.prog X.w).is k (.int k t) = true by simp [intKind, Value.isInt]) hm e ⟨r, H, I.tok _, ru, q⟩) hs
theorem walk_enumT {K : PySem.W.Frag} {a : Addr} {xs : List V} : Walk (IteT K a xs) xs.length (fun H => SqT K H a xs) (fun i H v H' => ∃ T x, v = .ref T ∧ H T = none ∧ H' = upd H T (.tup [.int (i : Nat), x]) ∧ xs[i]? = some x) :=
  ⟨fun i _ hi q => ⟨q, hi⟩, fun _ q => ⟨q, Nat.le_refl _⟩, fun _ _ _ _ _ q y => y⟩
theorem ix_tupK {X : Cx} {K : PySem.W.Frag} (e : X.K = K) : IxR X (rIxT K) := by subst e; exact ix_tup
theorem ix_listK {X : Cx} {K : PySem.W.Frag} (e : X.K = K) : IxR X (rIxL K) := by subst e; exact ix_list
theorem ix_kdictIK {X : Cx} {K : PySem.W.Frag} (e : X.K = K) : IxR X (rIxI K) := by subst e; exact ix_kdictI
theorem pg_tupK {X : Cx} {K : PySem.W.Frag} {es : List Expr} {k : Nat} {t : TGs} {n : Nat} {pos : Pos} (e : X.K = K) (hc : X.calm = true) (h : PGs X es t)
    (hn : (assignEach es X.env).length = n := by rfl) (hst : (assignEach es X.env).findIdx? (·.1) = none := by rfl) : PG X (.Tuple es k pos) (gTup K n t) := by subst e; exact pg_tup hc h hn hst
/-- the turns of a comprehension, whatever its body -/
theorem wf_it {J : It} {n : Nat} {G : Hp → Prop} {Y : Nat → Hp → V → Hp → Prop} (w : Walk J n G Y) {body : V → Hp → (Hp → Prop) → Prop} {H0 : Hp} {Qd : Hp → Prop} (Pv : Nat → Hp → Prop) (h0 : Pv 0 H0) (hG : ∀ i H, i ≤ n → Pv i H → G H)
    (hs : ∀ i x H H', i < n → Pv i H → Y i H x H' → body x H' (Pv (i + 1))) (hd : ∀ H, Pv n H → Qd H) :
    ∃ W : Nat → Nat → Hp → Prop, (∃ m, W 0 m H0) ∧ ∀ i m H, W i m H → (J.stop i H ∧ Qd H) ∨ (J.go i H ∧ ∃ Nx : Hp → Prop, (∀ H', Nx H' → ∃ m', m' < m ∧ W (i + 1) m' H') ∧ ∀ x H', J.yld i H x H' → body x H' Nx) := by
  refine ⟨fun i m H => m = n - i ∧ i ≤ n ∧ Pv i H, ⟨n, by simp, Nat.zero_le _, h0⟩, ?_⟩
  rintro i m H ⟨rfl, hi, p⟩
  have q := hG i H hi p
  by_cases hlt : i < n
  · refine .inr ⟨w.goes i H hlt q, Pv (i + 1), fun H' p' => ⟨n - (i + 1), by omega, rfl, hlt, p'⟩, fun x H' y => hs i x H H' hlt p (w.yields i H x H' hlt q y)⟩
  · have e : i = n := by omega
    subst e
    exact .inl ⟨w.stops H q, hd H p⟩
end OZ
namespace Odd
open PySem PySem.Spec PyProof.Rows L2
def topS (i : Nat) : Stmt := PySem.Challenge.pw_oddsquares_k14_determinants_of_four_side.main.body.getD i (.Pass ⟨0, 0, 0, 0⟩)
abbrev s_lowest : Stmt := topS 4
theorem sc_lowest : FnScope ["top", "under", "part"] ["top", "under"] (defScope s_lowest) := ⟨rfl, rfl, rfl, by decide +kernel, rfl, by decide +kernel, by decide +kernel⟩
abbrev s_pair_of : Stmt := topS 5
theorem sc_pair_of : FnScope ["value"] ["value"] (defScope s_pair_of) := ⟨rfl, rfl, rfl, by decide +kernel, rfl, by decide +kernel, by decide +kernel⟩
abbrev s_negative : Stmt := topS 6
theorem sc_negative : FnScope ["value"] ["value"] (defScope s_negative) := ⟨rfl, rfl, rfl, by decide +kernel, rfl, by decide +kernel, by decide +kernel⟩
abbrev s_sum_of : Stmt := topS 7
theorem sc_sum_of : FnScope ["one", "other"] ["one", "other"] (defScope s_sum_of) := ⟨rfl, rfl, rfl, by decide +kernel, rfl, by decide +kernel, by decide +kernel⟩
abbrev s_difference : Stmt := topS 8
theorem sc_difference : FnScope ["one", "other"] ["one", "other"] (defScope s_difference) := ⟨rfl, rfl, rfl, by decide +kernel, rfl, by decide +kernel, by decide +kernel⟩
abbrev s_product_of : Stmt := topS 9
theorem sc_product_of : FnScope ["one", "other"] ["one", "other"] (defScope s_product_of) := ⟨rfl, rfl, rfl, by decide +kernel, rfl, by decide +kernel, by decide +kernel⟩
abbrev s_is_below : Stmt := topS 11
theorem sc_is_below : FnScope ["one", "other"] ["one", "other"] (defScope s_is_below) := ⟨rfl, rfl, rfl, by decide +kernel, rfl, by decide +kernel, by decide +kernel⟩
abbrev s_sign : Stmt := topS 12
theorem sc_sign : FnScope ["top"] ["top"] (defScope s_sign) := ⟨rfl, rfl, rfl, by decide +kernel, rfl, by decide +kernel, by decide +kernel⟩
abbrev s_is_integer : Stmt := topS 14
theorem sc_is_integer : FnScope ["value"] ["value"] (defScope s_is_integer) := ⟨rfl, rfl, rfl, by decide +kernel, rfl, by decide +kernel, by decide +kernel⟩
abbrev s_is_within : Stmt := topS 15
theorem sc_is_within : FnScope ["value", "least", "most"] ["value", "least", "most"] (defScope s_is_within) := ⟨rfl, rfl, rfl, by decide +kernel, rfl, by decide +kernel, by decide +kernel⟩
abbrev s_is_row : Stmt := topS 16
theorem sc_is_row : FnScope ["value"] ["value"] (defScope s_is_row) := ⟨rfl, rfl, rfl, by decide +kernel, rfl, by decide +kernel, by decide +kernel⟩
abbrev s_is_pair : Stmt := topS 17
theorem sc_is_pair : FnScope ["value"] ["value"] (defScope s_is_pair) := ⟨rfl, rfl, rfl, by decide +kernel, rfl, by decide +kernel, by decide +kernel⟩
abbrev s_is_number : Stmt := topS 18
theorem sc_is_number : FnScope ["value", "top", "under"] ["value"] (defScope s_is_number) := ⟨rfl, rfl, rfl, by decide +kernel, rfl, by decide +kernel, by decide +kernel⟩
abbrev s_is_point : Stmt := topS 19
theorem sc_is_point : FnScope ["value"] ["value"] (defScope s_is_point) := ⟨rfl, rfl, rfl, by decide +kernel, rfl, by decide +kernel, by decide +kernel⟩
abbrev s_are_points : Stmt := topS 20
theorem sc_are_points : FnScope ["value", "least", "most", "item"] ["value", "least", "most"] (defScope s_are_points) := ⟨rfl, rfl, rfl, by decide +kernel, rfl, by decide +kernel, by decide +kernel⟩
abbrev s_point_of : Stmt := topS 32
theorem sc_point_of : FnScope ["value"] ["value"] (defScope s_point_of) := ⟨rfl, rfl, rfl, by decide +kernel, rfl, by decide +kernel, by decide +kernel⟩
abbrev s_way_between : Stmt := topS 34
theorem sc_way_between : FnScope ["start", "end"] ["start", "end"] (defScope s_way_between) := ⟨rfl, rfl, rfl, by decide +kernel, rfl, by decide +kernel, by decide +kernel⟩
abbrev s_cross_of : Stmt := topS 36
theorem sc_cross_of : FnScope ["one", "other"] ["one", "other"] (defScope s_cross_of) := ⟨rfl, rfl, rfl, by decide +kernel, rfl, by decide +kernel, by decide +kernel⟩
abbrev s_dot_of : Stmt := topS 37
theorem sc_dot_of : FnScope ["one", "other"] ["one", "other"] (defScope s_dot_of) := ⟨rfl, rfl, rfl, by decide +kernel, rfl, by decide +kernel, by decide +kernel⟩
abbrev s_comes_before : Stmt := topS 39
theorem sc_comes_before : FnScope ["one", "other"] ["one", "other"] (defScope s_comes_before) := ⟨rfl, rfl, rfl, by decide +kernel, rfl, by decide +kernel, by decide +kernel⟩
abbrev s_ratio_in : Stmt := topS 41
theorem sc_ratio_in : FnScope ["value"] ["value"] (defScope s_ratio_in) := ⟨rfl, rfl, rfl, by decide +kernel, rfl, by decide +kernel, by decide +kernel⟩
abbrev s_determinant_of : Stmt := topS 44
theorem sc_determinant_of : FnScope ["vectors", "ratio", "a", "b", "c", "d", "first", "second"] ["vectors", "ratio"] (defScope s_determinant_of) := ⟨rfl, rfl, rfl, by decide +kernel, rfl, by decide +kernel, by decide +kernel⟩
abbrev s_fixed : Stmt := topS 46
theorem sc_fixed : FnScope ["value", "item"] ["value"] (defScope s_fixed) := ⟨rfl, rfl, rfl, by decide +kernel, rfl, by decide +kernel, by decide +kernel⟩
abbrev s_sides_of : Stmt := topS 51
theorem sc_sides_of : FnScope ["corners"] ["corners"] (defScope s_sides_of) := ⟨rfl, rfl, rfl, by decide +kernel, rfl, by decide +kernel, by decide +kernel⟩
abbrev s__loose : Stmt := topS 52
theorem sc__loose : FnScope ["one", "other"] ["one", "other"] (defScope s__loose) := ⟨rfl, rfl, rfl, by decide +kernel, rfl, by decide +kernel, by decide +kernel⟩
abbrev s_bend : Stmt := topS 53
theorem sc_bend : FnScope ["start", "middle", "end", "across", "across_under", "rise", "rise_under", "along", "along_under", "up", "up_under"] ["start", "middle", "end"] (defScope s_bend) := ⟨rfl, rfl, rfl, by decide +kernel, rfl, by decide +kernel, by decide +kernel⟩
abbrev s__ordered : Stmt := topS 54
theorem sc__ordered : FnScope ["side"] ["side"] (defScope s__ordered) := ⟨rfl, rfl, rfl, by decide +kernel, rfl, by decide +kernel, by decide +kernel⟩
abbrev s__shared_stretch : Stmt := topS 56
theorem sc__shared_stretch : FnScope ["one", "other", "low", "high", "first", "last"] ["one", "other"] (defScope s__shared_stretch) := ⟨rfl, rfl, rfl, by decide +kernel, rfl, by decide +kernel, by decide +kernel⟩
abbrev s_common_point : Stmt := topS 57
theorem sc_common_point : FnScope ["one", "other", "start", "end", "way", "other_way", "over"] ["one", "other"] (defScope s_common_point) := ⟨rfl, rfl, rfl, by decide +kernel, rfl, by decide +kernel, by decide +kernel⟩
abbrev s__corners_in : Stmt := topS 67
theorem sc__corners_in : FnScope ["corners", "corner"] ["corners"] (defScope s__corners_in) := ⟨rfl, rfl, rfl, by decide +kernel, rfl, by decide +kernel, by decide +kernel⟩
abbrev s__goes_back : Stmt := topS 68
theorem sc__goes_back : FnScope ["coming", "leaving", "way", "other"] ["coming", "leaving"] (defScope s__goes_back) := ⟨rfl, rfl, rfl, by decide +kernel, rfl, by decide +kernel, by decide +kernel⟩
abbrev s_are_next : Stmt := topS 69
theorem sc_are_next : FnScope ["one", "other", "many"] ["one", "other", "many"] (defScope s_are_next) := ⟨rfl, rfl, rfl, by decide +kernel, rfl, by decide +kernel, by decide +kernel⟩
abbrev s__meeting : Stmt := topS 70
theorem sc__meeting : FnScope ["sides", "many", "one", "other", "point"] ["sides"] (defScope s__meeting) := ⟨rfl, rfl, rfl, by decide +kernel, rfl, by decide +kernel, by decide +kernel⟩
abbrev s__doubled_area : Stmt := topS 71
theorem sc__doubled_area : FnScope ["corners", "total", "start", "end"] ["corners"] (defScope s__doubled_area) := ⟨rfl, rfl, rfl, by decide +kernel, rfl, by decide +kernel, by decide +kernel⟩
abbrev s__judged : Stmt := topS 72
theorem sc__judged : FnScope ["corners", "sides", "number", "side", "meeting"] ["corners"] (defScope s__judged) := ⟨rfl, rfl, rfl, by decide +kernel, rfl, by decide +kernel, by decide +kernel⟩
abbrev s__bends_of : Stmt := topS 73
theorem sc__bends_of : FnScope ["corners", "number", "start", "end"] ["corners"] (defScope s__bends_of) := ⟨rfl, rfl, rfl, by decide +kernel, rfl, by decide +kernel, by decide +kernel⟩
abbrev s__fences_in : Stmt := topS 80
theorem sc__fences_in : FnScope ["fences", "fence"] ["fences"] (defScope s__fences_in) := ⟨rfl, rfl, rfl, by decide +kernel, rfl, by decide +kernel, by decide +kernel⟩
abbrev s__numbered_sides : Stmt := topS 81
theorem sc__numbered_sides : FnScope ["fences", "number", "fence", "side"] ["fences"] (defScope s__numbered_sides) := ⟨rfl, rfl, rfl, by decide +kernel, rfl, by decide +kernel, by decide +kernel⟩
abbrev s_judged_fences : Stmt := topS 82
theorem sc_judged_fences : FnScope ["fences", "told", "numbered", "one", "side", "other", "point"] ["fences"] (defScope s_judged_fences) := ⟨rfl, rfl, rfl, by decide +kernel, rfl, by decide +kernel, by decide +kernel⟩
abbrev s_is_side : Stmt := topS 84
theorem sc_is_side : FnScope ["lot", "at"] ["lot", "at"] (defScope s_is_side) := ⟨rfl, rfl, rfl, by decide +kernel, rfl, by decide +kernel, by decide +kernel⟩
abbrev s_check_lot : Stmt := topS 86
theorem sc_check_lot : FnScope ["lot"] ["lot"] (defScope s_check_lot) := ⟨rfl, rfl, rfl, by decide +kernel, rfl, by decide +kernel, by decide +kernel⟩
abbrev s_four_in : Stmt := topS 87
theorem sc_four_in : FnScope ["lot", "four", "at"] ["lot", "four"] (defScope s_four_in) := ⟨rfl, rfl, rfl, by decide +kernel, rfl, by decide +kernel, by decide +kernel⟩
abbrev s_determinant : Stmt := topS 89
theorem sc_determinant : FnScope ["lot", "four", "ratio", "at", "start", "end", "sides"] ["lot", "four", "ratio"] (defScope s_determinant) := ⟨rfl, rfl, rfl, by decide +kernel, rfl, by decide +kernel, by decide +kernel⟩
abbrev s__law_store : Stmt := topS 91
theorem sc__law_store : FnScope ["script", "cell"] ["script"] (defScope s__law_store) := ⟨rfl, rfl, rfl, by decide +kernel, rfl, by decide +kernel, by decide +kernel⟩
abbrev s__law_draw : Stmt := topS 92
theorem sc__law_draw : FnScope ["store", "many", "rest", "turn", "cell", "mixed"] ["store", "many"] (defScope s__law_draw) := ⟨rfl, rfl, rfl, by decide +kernel, rfl, by decide +kernel, by decide +kernel⟩
abbrev s__law_pick : Stmt := topS 93
theorem sc__law_pick : FnScope ["store", "some"] ["store", "some"] (defScope s__law_pick) := ⟨rfl, rfl, rfl, by decide +kernel, rfl, by decide +kernel, by decide +kernel⟩
abbrev s__law_gcd : Stmt := topS 94
theorem sc__law_gcd : FnScope ["one", "two"] ["one", "two"] (defScope s__law_gcd) := ⟨rfl, rfl, rfl, by decide +kernel, rfl, by decide +kernel, by decide +kernel⟩
abbrev s__law_low : Stmt := topS 95
theorem sc__law_low : FnScope ["top", "under", "shared"] ["top", "under"] (defScope s__law_low) := ⟨rfl, rfl, rfl, by decide +kernel, rfl, by decide +kernel, by decide +kernel⟩
abbrev s__law_pt : Stmt := topS 96
theorem sc__law_pt : FnScope ["point", "under"] ["point", "under"] (defScope s__law_pt) := ⟨rfl, rfl, rfl, by decide +kernel, rfl, by decide +kernel, by decide +kernel⟩
abbrev s__law_is_number : Stmt := topS 97
theorem sc__law_is_number : FnScope ["value", "part"] ["value"] (defScope s__law_is_number) := ⟨rfl, rfl, rfl, by decide +kernel, rfl, by decide +kernel, by decide +kernel⟩
abbrev s__law_star : Stmt := topS 98
theorem sc__law_star : FnScope ["store", "many", "heart", "least", "span", "ways", "start", "corners", "k", "way", "far"] ["store", "many", "heart", "least", "span"] (defScope s__law_star) := ⟨rfl, rfl, rfl, by decide +kernel, rfl, by decide +kernel, by decide +kernel⟩
abbrev s__law_lot : Stmt := topS 99
theorem sc__law_lot : FnScope ["rows", "under", "corner", "row"] ["rows", "under"] (defScope s__law_lot) := ⟨rfl, rfl, rfl, by decide +kernel, rfl, by decide +kernel, by decide +kernel⟩
abbrev s__law_sides : Stmt := topS 100
theorem sc__law_sides : FnScope ["rows", "sides", "fence", "row", "k", "x", "y", "z", "w"] ["rows"] (defScope s__law_sides) := ⟨rfl, rfl, rfl, by decide +kernel, rfl, by decide +kernel, by decide +kernel⟩
abbrev s__law_sign : Stmt := topS 101
theorem sc__law_sign : FnScope ["vectors", "ratio", "a", "b", "c", "d", "top", "under", "ac", "bd", "bc", "ad", "over", "other"] ["vectors", "ratio"] (defScope s__law_sign) := ⟨rfl, rfl, rfl, by decide +kernel, rfl, by decide +kernel, by decide +kernel⟩
abbrev s__law_ratio : Stmt := topS 102
theorem sc__law_ratio : FnScope ["store"] ["store"] (defScope s__law_ratio) := ⟨rfl, rfl, rfl, by decide +kernel, rfl, by decide +kernel, by decide +kernel⟩
abbrev s__law_rows : Stmt := topS 103
theorem sc__law_rows : FnScope ["store", "rows", "k", "least", "span"] ["store"] (defScope s__law_rows) := ⟨rfl, rfl, rfl, by decide +kernel, rfl, by decide +kernel, by decide +kernel⟩
abbrev s__law_mirrored : Stmt := topS 104
theorem sc__law_mirrored : FnScope ["rows", "k", "row"] ["rows"] (defScope s__law_mirrored) := ⟨rfl, rfl, rfl, by decide +kernel, rfl, by decide +kernel, by decide +kernel⟩
abbrev s__law_mirror_side : Stmt := topS 105
theorem sc__law_mirror_side : FnScope ["rows", "at", "many"] ["rows", "at"] (defScope s__law_mirror_side) := ⟨rfl, rfl, rfl, by decide +kernel, rfl, by decide +kernel, by decide +kernel⟩
abbrev s__law_refused : Stmt := topS 106
theorem sc__law_refused : FnScope ["lot", "four", "ratio", "told", "e"] ["lot", "four", "ratio"] (defScope s__law_refused) := ⟨rfl, rfl, rfl, by decide +kernel, rfl, by decide +kernel, by decide +kernel⟩
abbrev s_law : Stmt := topS 107
theorem sc_law : FnScope ["script", "k", "side", "store", "turn", "rows", "ratio", "under", "lot", "other", "sides", "each", "drawn", "four", "sign_v", "due", "told", "turned", "back", "bad", "wrong"] ["script"] (defScope s_law) := ⟨rfl, rfl, rfl, by decide +kernel, rfl, by decide +kernel, by decide +kernel⟩
abbrev s_Paper_init : Stmt := inClass (topS 48) 0
theorem sc_Paper_init : FnScope ["self", "word", "parts"] ["self", "word", "parts"] (defScope s_Paper_init) := ⟨rfl, rfl, rfl, by decide +kernel, rfl, by decide +kernel, by decide +kernel⟩
abbrev s_Paper_bool : Stmt := inClass (topS 48) 1
theorem sc_Paper_bool : FnScope ["self"] ["self"] (defScope s_Paper_bool) := ⟨rfl, rfl, rfl, by decide +kernel, rfl, by decide +kernel, by decide +kernel⟩
abbrev s_Fence_init : Stmt := inClass (topS 74) 0
theorem sc_Fence_init : FnScope ["self", "corners", "points", "why"] ["self", "corners"] (defScope s_Fence_init) := ⟨rfl, rfl, rfl, by decide +kernel, rfl, by decide +kernel, by decide +kernel⟩
abbrev s_Fence_len : Stmt := inClass (topS 74) 3
theorem sc_Fence_len : FnScope ["self"] ["self"] (defScope s_Fence_len) := ⟨rfl, rfl, rfl, by decide +kernel, rfl, by decide +kernel, by decide +kernel⟩
abbrev s_Lot_init : Stmt := inClass (topS 83) 0
theorem sc_Lot_init : FnScope ["self", "fences", "why"] ["self", "fences"] (defScope s_Lot_init) := ⟨rfl, rfl, rfl, by decide +kernel, rfl, by decide +kernel, by decide +kernel⟩
abbrev s_Lot_side : Stmt := inClass (topS 83) 1
theorem sc_Lot_side : FnScope ["self", "at"] ["self", "at"] (defScope s_Lot_side) := ⟨rfl, rfl, rfl, by decide +kernel, rfl, by decide +kernel, by decide +kernel⟩
abbrev s_Closed_init : Stmt := inClass (topS 63) 0
theorem sc_Closed_init : NdefX.NScope ["self", "is_left", "__class__"] ["self", "is_left"] ["__class__"] (defScope s_Closed_init) := NdefX.nscope_by (by decide +kernel)
abbrev s_Apart_init : Stmt := inClass (topS 78) 0
theorem sc_Apart_init : NdefX.NScope ["self", "__class__"] ["self"] ["__class__"] (defScope s_Apart_init) := NdefX.nscope_by (by decide +kernel)
structure Ads where
  (f_lowest : Addr) (d_lowest : FuncData)
  (f_pair_of : Addr) (d_pair_of : FuncData)
  (f_negative : Addr) (d_negative : FuncData)
  (f_sum_of : Addr) (d_sum_of : FuncData)
  (f_difference : Addr) (d_difference : FuncData)
  (f_product_of : Addr) (d_product_of : FuncData)
  (f_is_below : Addr) (d_is_below : FuncData)
  (f_sign : Addr) (d_sign : FuncData)
  (f_is_integer : Addr) (d_is_integer : FuncData)
  (f_is_within : Addr) (d_is_within : FuncData)
  (f_is_row : Addr) (d_is_row : FuncData)
  (f_is_pair : Addr) (d_is_pair : FuncData)
  (f_is_number : Addr) (d_is_number : FuncData)
  (f_is_point : Addr) (d_is_point : FuncData)
  (f_are_points : Addr) (d_are_points : FuncData)
  (f_point_of : Addr) (d_point_of : FuncData)
  (f_way_between : Addr) (d_way_between : FuncData)
  (f_cross_of : Addr) (d_cross_of : FuncData)
  (f_dot_of : Addr) (d_dot_of : FuncData)
  (f_comes_before : Addr) (d_comes_before : FuncData)
  (f_ratio_in : Addr) (d_ratio_in : FuncData)
  (f_determinant_of : Addr) (d_determinant_of : FuncData)
  (f_fixed : Addr) (d_fixed : FuncData)
  (f_sides_of : Addr) (d_sides_of : FuncData)
  (f__loose : Addr) (d__loose : FuncData)
  (f_bend : Addr) (d_bend : FuncData)
  (f__ordered : Addr) (d__ordered : FuncData)
  (f__shared_stretch : Addr) (d__shared_stretch : FuncData)
  (f_common_point : Addr) (d_common_point : FuncData)
  (f__corners_in : Addr) (d__corners_in : FuncData)
  (f__goes_back : Addr) (d__goes_back : FuncData)
  (f_are_next : Addr) (d_are_next : FuncData)
  (f__meeting : Addr) (d__meeting : FuncData)
  (f__doubled_area : Addr) (d__doubled_area : FuncData)
  (f__judged : Addr) (d__judged : FuncData)
  (f__bends_of : Addr) (d__bends_of : FuncData)
  (f__fences_in : Addr) (d__fences_in : FuncData)
  (f__numbered_sides : Addr) (d__numbered_sides : FuncData)
  (f_judged_fences : Addr) (d_judged_fences : FuncData)
  (f_is_side : Addr) (d_is_side : FuncData)
  (f_check_lot : Addr) (d_check_lot : FuncData)
  (f_four_in : Addr) (d_four_in : FuncData)
  (f_determinant : Addr) (d_determinant : FuncData)
  (f__law_store : Addr) (d__law_store : FuncData)
  (f__law_draw : Addr) (d__law_draw : FuncData)
  (f__law_pick : Addr) (d__law_pick : FuncData)
  (f__law_gcd : Addr) (d__law_gcd : FuncData)
  (f__law_low : Addr) (d__law_low : FuncData)
  (f__law_pt : Addr) (d__law_pt : FuncData)
  (f__law_is_number : Addr) (d__law_is_number : FuncData)
  (f__law_star : Addr) (d__law_star : FuncData)
  (f__law_lot : Addr) (d__law_lot : FuncData)
  (f__law_sides : Addr) (d__law_sides : FuncData)
  (f__law_sign : Addr) (d__law_sign : FuncData)
  (f__law_ratio : Addr) (d__law_ratio : FuncData)
  (f__law_rows : Addr) (d__law_rows : FuncData)
  (f__law_mirrored : Addr) (d__law_mirrored : FuncData)
  (f__law_mirror_side : Addr) (d__law_mirror_side : FuncData)
  (f__law_refused : Addr) (d__law_refused : FuncData)
  (f_law : Addr) (d_law : FuncData)
  (c_BadLot i_BadLot : Addr)
  (c_BadSides i_BadSides : Addr)
  (c_BadRatio i_BadRatio : Addr)
  (a_ZERO a_BENDS : Addr)
  (C_Paper C_Closed C_Fence C_Lot C_Apart : Addr)
  (f_Paper_init : Addr) (d_Paper_init : FuncData)
  (f_Paper_bool : Addr) (d_Paper_bool : FuncData)
  (f_Fence_init : Addr) (d_Fence_init : FuncData)
  (f_Fence_len : Addr) (d_Fence_len : FuncData)
  (f_Lot_init : Addr) (d_Lot_init : FuncData)
  (f_Lot_side : Addr) (d_Lot_side : FuncData)
  (f_Closed_init : Addr) (d_Closed_init : FuncData)
  (f_Apart_init : Addr) (d_Apart_init : FuncData)
  (cda_Closed cc_Closed cda_Apart cc_Apart : Addr)
structure DefOk (K : PySem.W.Frag) (mg : Str → Option Value) (x : Str) (st : Stmt) (f : Addr) (fd : FuncData) (ps : List Str) : Prop where
  g : mg x = some (.ref f)
  F : Fun K x x st f fd
  b : Binds K fd ps []
structure Txt (K : PySem.W.Frag) (mg : Str → Option Value) (A : Ads) : Prop where
  lowest : DefOk K mg "lowest" s_lowest A.f_lowest A.d_lowest ["top", "under"]
  pair_of : DefOk K mg "pair_of" s_pair_of A.f_pair_of A.d_pair_of ["value"]
  negative : DefOk K mg "negative" s_negative A.f_negative A.d_negative ["value"]
  sum_of : DefOk K mg "sum_of" s_sum_of A.f_sum_of A.d_sum_of ["one", "other"]
  difference : DefOk K mg "difference" s_difference A.f_difference A.d_difference ["one", "other"]
  product_of : DefOk K mg "product_of" s_product_of A.f_product_of A.d_product_of ["one", "other"]
  is_below : DefOk K mg "is_below" s_is_below A.f_is_below A.d_is_below ["one", "other"]
  sign : DefOk K mg "sign" s_sign A.f_sign A.d_sign ["top"]
  is_integer : DefOk K mg "is_integer" s_is_integer A.f_is_integer A.d_is_integer ["value"]
  is_within : DefOk K mg "is_within" s_is_within A.f_is_within A.d_is_within ["value", "least", "most"]
  is_row : DefOk K mg "is_row" s_is_row A.f_is_row A.d_is_row ["value"]
  is_pair : DefOk K mg "is_pair" s_is_pair A.f_is_pair A.d_is_pair ["value"]
  is_number : DefOk K mg "is_number" s_is_number A.f_is_number A.d_is_number ["value"]
  is_point : DefOk K mg "is_point" s_is_point A.f_is_point A.d_is_point ["value"]
  are_points : DefOk K mg "are_points" s_are_points A.f_are_points A.d_are_points ["value", "least", "most"]
  point_of : DefOk K mg "point_of" s_point_of A.f_point_of A.d_point_of ["value"]
  way_between : DefOk K mg "way_between" s_way_between A.f_way_between A.d_way_between ["start", "end"]
  cross_of : DefOk K mg "cross_of" s_cross_of A.f_cross_of A.d_cross_of ["one", "other"]
  dot_of : DefOk K mg "dot_of" s_dot_of A.f_dot_of A.d_dot_of ["one", "other"]
  comes_before : DefOk K mg "comes_before" s_comes_before A.f_comes_before A.d_comes_before ["one", "other"]
  ratio_in : DefOk K mg "ratio_in" s_ratio_in A.f_ratio_in A.d_ratio_in ["value"]
  determinant_of : DefOk K mg "determinant_of" s_determinant_of A.f_determinant_of A.d_determinant_of ["vectors", "ratio"]
  fixed : DefOk K mg "fixed" s_fixed A.f_fixed A.d_fixed ["value"]
  sides_of : DefOk K mg "sides_of" s_sides_of A.f_sides_of A.d_sides_of ["corners"]
  _loose : DefOk K mg "_loose" s__loose A.f__loose A.d__loose ["one", "other"]
  bend : DefOk K mg "bend" s_bend A.f_bend A.d_bend ["start", "middle", "end"]
  _ordered : DefOk K mg "_ordered" s__ordered A.f__ordered A.d__ordered ["side"]
  _shared_stretch : DefOk K mg "_shared_stretch" s__shared_stretch A.f__shared_stretch A.d__shared_stretch ["one", "other"]
  common_point : DefOk K mg "common_point" s_common_point A.f_common_point A.d_common_point ["one", "other"]
  _corners_in : DefOk K mg "_corners_in" s__corners_in A.f__corners_in A.d__corners_in ["corners"]
  _goes_back : DefOk K mg "_goes_back" s__goes_back A.f__goes_back A.d__goes_back ["coming", "leaving"]
  are_next : DefOk K mg "are_next" s_are_next A.f_are_next A.d_are_next ["one", "other", "many"]
  _meeting : DefOk K mg "_meeting" s__meeting A.f__meeting A.d__meeting ["sides"]
  _doubled_area : DefOk K mg "_doubled_area" s__doubled_area A.f__doubled_area A.d__doubled_area ["corners"]
  _judged : DefOk K mg "_judged" s__judged A.f__judged A.d__judged ["corners"]
  _bends_of : DefOk K mg "_bends_of" s__bends_of A.f__bends_of A.d__bends_of ["corners"]
  _fences_in : DefOk K mg "_fences_in" s__fences_in A.f__fences_in A.d__fences_in ["fences"]
  _numbered_sides : DefOk K mg "_numbered_sides" s__numbered_sides A.f__numbered_sides A.d__numbered_sides ["fences"]
  judged_fences : DefOk K mg "judged_fences" s_judged_fences A.f_judged_fences A.d_judged_fences ["fences"]
  is_side : DefOk K mg "is_side" s_is_side A.f_is_side A.d_is_side ["lot", "at"]
  check_lot : DefOk K mg "check_lot" s_check_lot A.f_check_lot A.d_check_lot ["lot"]
  four_in : DefOk K mg "four_in" s_four_in A.f_four_in A.d_four_in ["lot", "four"]
  determinant : DefOk K mg "determinant" s_determinant A.f_determinant A.d_determinant ["lot", "four", "ratio"]
  _law_store : DefOk K mg "_law_store" s__law_store A.f__law_store A.d__law_store ["script"]
  _law_draw : DefOk K mg "_law_draw" s__law_draw A.f__law_draw A.d__law_draw ["store", "many"]
  _law_pick : DefOk K mg "_law_pick" s__law_pick A.f__law_pick A.d__law_pick ["store", "some"]
  _law_gcd : DefOk K mg "_law_gcd" s__law_gcd A.f__law_gcd A.d__law_gcd ["one", "two"]
  _law_low : DefOk K mg "_law_low" s__law_low A.f__law_low A.d__law_low ["top", "under"]
  _law_pt : DefOk K mg "_law_pt" s__law_pt A.f__law_pt A.d__law_pt ["point", "under"]
  _law_is_number : DefOk K mg "_law_is_number" s__law_is_number A.f__law_is_number A.d__law_is_number ["value"]
  _law_star : DefOk K mg "_law_star" s__law_star A.f__law_star A.d__law_star ["store", "many", "heart", "least", "span"]
  _law_lot : DefOk K mg "_law_lot" s__law_lot A.f__law_lot A.d__law_lot ["rows", "under"]
  _law_sides : DefOk K mg "_law_sides" s__law_sides A.f__law_sides A.d__law_sides ["rows"]
  _law_sign : DefOk K mg "_law_sign" s__law_sign A.f__law_sign A.d__law_sign ["vectors", "ratio"]
  _law_ratio : DefOk K mg "_law_ratio" s__law_ratio A.f__law_ratio A.d__law_ratio ["store"]
  _law_rows : DefOk K mg "_law_rows" s__law_rows A.f__law_rows A.d__law_rows ["store"]
  _law_mirrored : DefOk K mg "_law_mirrored" s__law_mirrored A.f__law_mirrored A.d__law_mirrored ["rows"]
  _law_mirror_side : DefOk K mg "_law_mirror_side" s__law_mirror_side A.f__law_mirror_side A.d__law_mirror_side ["rows", "at"]
  _law_refused : DefOk K mg "_law_refused" s__law_refused A.f__law_refused A.d__law_refused ["lot", "four", "ratio"]
  law : DefOk K mg "law" s_law A.f_law A.d_law ["script"]
  low_BadLot : PySem.LowX.LowTxt "BadLot" "BadLot.__init__" K mg A.c_BadLot A.i_BadLot
  low_BadSides : PySem.LowX.LowTxt "BadSides" "BadSides.__init__" K mg A.c_BadSides A.i_BadSides
  low_BadRatio : PySem.LowX.LowTxt "BadRatio" "BadRatio.__init__" K mg A.c_BadRatio A.i_BadRatio
  n_len : mg "len" = none
  n_abs : mg "abs" = none
  n_isinstance : mg "isinstance" = none
  n_int : mg "int" = none
  n_bool : mg "bool" = none
  n_list : mg "list" = none
  n_tuple : mg "tuple" = none
  n_range : mg "range" = none
  n_all : mg "all" = none
  n_zip : mg "zip" = none
  n_enumerate : mg "enumerate" = none
  n_super : mg "super" = none
  n_type : mg "type" = none
  g_gcd : mg "gcd" = some (.builtin "math.gcd")
  g_ZERO : mg "ZERO" = some (.ref A.a_ZERO)
  v_ZERO : ∀ H, SqT K H A.a_ZERO [.int 0, .int 1]
  g_BENDS : mg "BENDS" = some (.ref A.a_BENDS)
  v_BENDS : ∀ k : Int, (k = -1 ∨ k = 0 ∨ k = 1) → ∃ z, OZ.KInt K A.a_BENDS k (.str z)
  g_FEWEST_CORNERS : ∃ t, mg "FEWEST_CORNERS" = some (.int 3 t)
  g_MOST_CORNERS : ∃ t, mg "MOST_CORNERS" = some (.int 40 t)
  g_MOST_FENCES : ∃ t, mg "MOST_FENCES" = some (.int 6 t)
  g_MOST_SIDES : ∃ t, mg "MOST_SIDES" = some (.int 60 t)
  Paper_bool : MDef K "__bool__" "Paper.__bool__" s_Paper_bool A.f_Paper_bool A.d_Paper_bool ["self"]
  Fence_init : MDef K "__init__" "Fence.__init__" s_Fence_init A.f_Fence_init A.d_Fence_init ["self", "corners"]
  Fence_len : MDef K "__len__" "Fence.__len__" s_Fence_len A.f_Fence_len A.d_Fence_len ["self"]
  Lot_init : MDef K "__init__" "Lot.__init__" s_Lot_init A.f_Lot_init A.d_Lot_init ["self", "fences"]
  Lot_side : MDef K "side" "Lot.side" s_Lot_side A.f_Lot_side A.d_Lot_side ["self", "at"]
  Paper_init : Fun K "__init__" "Paper.__init__" s_Paper_init A.f_Paper_init A.d_Paper_init
  sup_Closed : SupF K "Closed.__init__" s_Closed_init A.C_Closed A.f_Closed_init A.cda_Closed A.cc_Closed A.f_Paper_init A.d_Closed_init
  sup_Apart : SupF K "Apart.__init__" s_Apart_init A.C_Apart A.f_Apart_init A.cda_Apart A.cc_Apart A.f_Paper_init A.d_Apart_init
  kn_Lot : ∀ T : String, (T = "NoneType" ∨ T = "list" ∨ T = "int") → PySem.W.kitOne K (.type T) (.ref A.C_Lot) = some false
  b_Closed : Binds K A.d_Closed_init ["self", "is_left"] []
  b_Apart : Binds K A.d_Apart_init ["self"] []
  cl_Closed : Cls K A.C_Closed
  cl_Fence : Cls K A.C_Fence
  cl_Lot : Cls K A.C_Lot
  cl_Apart : Cls K A.C_Apart
  no_Closed_word : NoAttr K A.C_Closed "word"
  no_Closed_parts : NoAttr K A.C_Closed "parts"
  no_Closed_is_left : NoAttr K A.C_Closed "is_left"
  no_Apart_word : NoAttr K A.C_Apart "word"
  no_Apart_parts : NoAttr K A.C_Apart "parts"
  no_Fence_corners : NoAttr K A.C_Fence "corners"
  no_Fence_sides : NoAttr K A.C_Fence "sides"
  no_Fence_area : NoAttr K A.C_Fence "area"
  no_Fence_bends : NoAttr K A.C_Fence "bends"
  no_Lot_fences : NoAttr K A.C_Lot "fences"
  no_Lot_sides : NoAttr K A.C_Lot "sides"
  mk_Closed : Mk K A.C_Closed A.f_Closed_init
  mk_Fence : Mk K A.C_Fence A.f_Fence_init
  mk_Lot : Mk K A.C_Lot A.f_Lot_init
  mk_Apart : Mk K A.C_Apart A.f_Apart_init
  m_Closed : mg "Closed" = some (.ref A.C_Closed)
  m_Fence : mg "Fence" = some (.ref A.C_Fence)
  m_Lot : mg "Lot" = some (.ref A.C_Lot)
  m_Apart : mg "Apart" = some (.ref A.C_Apart)
  bool_Closed : PySem.W.findIn K (.ref A.C_Closed) "__bool__" = some (some (.ref A.f_Paper_bool))
  bool_Apart : PySem.W.findIn K (.ref A.C_Apart) "__bool__" = some (some (.ref A.f_Paper_bool))
  boolT : PySem.W.typeIn K (.ref A.f_Paper_bool) = some (.type "function")
  len_Fence : PySem.W.findIn K (.ref A.C_Fence) "__len__" = some (some (.ref A.f_Fence_len))
  lenT : PySem.W.typeIn K (.ref A.f_Fence_len) = some (.type "function")
  me_side : Meth K A.C_Lot "side" A.f_Lot_side
  is_Fence : C8.InsC K A.C_Fence
  is_Lot : C8.InsC K A.C_Lot
  ki_Fence_Fence : PySem.W.kitOne K (.ref A.C_Fence) (.ref A.C_Fence) = some true
  ki_Lot_Lot : PySem.W.kitOne K (.ref A.C_Lot) (.ref A.C_Lot) = some true
  te_SL : PySem.W.exmOne K (.ref A.c_BadSides) (.ref A.c_BadLot) = some false
  te_RL : PySem.W.exmOne K (.ref A.c_BadRatio) (.ref A.c_BadLot) = some false
  te_RS : PySem.W.exmOne K (.ref A.c_BadRatio) (.ref A.c_BadSides) = some false
end Odd
/-! the facts of a top, read by a Hook: errors, classes, functions with a cell -/
namespace Oh
open PySem PySem.Spec PyProof.Rows L2 He
theorem fun_of {K : PySem.W.Frag} {x q : Str} {st : Stmt} {f : Addr} {fd : FuncData} (F : FunD K x q (defArgs st) (defBody st) (defScope st) [] [] f fd) : Fun K x q st f fd := by
  obtain ⟨⟨oc, od, dV, kV, doc, pm, an, cdv, ct, osl, e, l, c, d, k⟩, kp⟩ := F
  rcases d with ⟨_, rfl⟩ | ⟨h, _⟩
  · exact ⟨⟨oc, od, kV, doc, pm, an, cdv, ct, osl, e, l, c⟩, kp⟩
  · exact absurd rfl h
/-! ### an error class -/
def excOwnB (K : PySem.W.Frag) (C : Addr) : Bool := match K.lookup C with
  | some ⟨.type c, _, .cls cd, sl⟩ => decide (c = "type") && (match cd.mro, sl.toList with
    | .ref C' :: bm, [_, _, _, _, some (.builtin n), _] => C' == C && (n == "ValueError.__new__" && (!cd.hasDel && (cd.hasDict && PySem.HandSPX.refsVE bm)))
    | _, _ => false)
  | _ => false
theorem excOwnB_ok {K : PySem.W.Frag} {C : Addr} (h : excOwnB K C = true) : ∃ nm q N bs bm sn sub ab col dd k0 k1 k2 k3 k5, K.lookup C = some (excClassObj nm q C N bs bm true sn sub ab col dd k0 k1 k2 k3 k5 "ValueError.__new__") ∧ PySem.HandSPX.refsVE bm = true := by
  unfold excOwnB at h
  split at h
  · rename_i c dd cd sl ho
    obtain ⟨hc, h9⟩ := ba h
    clear h
    obtain rfl := of_decide_eq_true hc
    clear hc
    split at h9
    · rename_i C' bm k0 k1 k2 k3 n k5 hm hs
      simp only [Bool.and_eq_true, beq_iff_eq, Bool.not_eq_true'] at h9
      obtain ⟨rfl, rfl, hdel, hd, ht⟩ := h9
      obtain ⟨nm, bs, mro, ns, qn, hdd, sn, sub, ab, col, del⟩ := cd
      dsimp only at hm hdel hd
      subst hm hdel hd
      have hsl : sl = #[k0, k1, k2, k3, some (.builtin "ValueError.__new__"), k5] := by
        obtain ⟨l⟩ := sl
        simp only at hs
        rw [hs]
      subst hsl
      exact ⟨nm, qn, ns, bs, bm, sn, sub, ab, col, dd, k0, k1, k2, k3, k5, ho, ht⟩
    · cases h9
  · cases h
def noKwB (K : PySem.W.Frag) (f : Addr) : Bool := match K.lookup f with
  | some ⟨_, _, .func fd, _⟩ => decide (fd.kwdefaults = .none)
  | _ => false
def lowL (K : PySem.W.Frag) (C fI : Addr) : List Bool := [excOwnB K C, eqO (PySem.W.findIn K (.ref C) "__setattr__") (some (some (.builtin "object.__setattr__"))), eqO (PySem.W.findIn K (.ref C) "__getattribute__") (some (some (.builtin "BaseException.__getattribute__"))),
  eqO (PySem.W.findIn K (.ref C) "__getattr__") (some none), eqO (PySem.W.findIn K (.ref C) "part") (some none), eqO (PySem.W.findIn K (.ref C) "__init__") (some (some (.ref fI))), decide (PySem.W.typeIn K (.ref fI) = some (.type "function")),
  PySem.W.keepIn K (.ref C), decide (PySem.W.subIn K (.ref C) (.type "BaseException") = some true), decide (PySem.W.typeIn K (.ref C) = some (.type "type")), PySem.W.hasDictIn K C, decide (PySem.W.exmOne K (.ref C) (.ref C) = some true), noKwB K fI]
def lowB (K : PySem.W.Frag) (x : Str) : Bool := (lowL K (ga K x) (ma K (ga K x) "__init__")).all id
theorem all_at {l : List Bool} (h : l.all id = true) (i : Nat) {b : Bool} (e : l[i]? = some b) : b = true := List.all_eq_true.mp h b (List.mem_of_getElem? e)
theorem low_ok {K : PySem.W.Frag} {h : Heap} {mg : Str → Option Value} {x qn : Str} {fd : FuncData} {p1 p2 q1 q2 q3 q4 : Pos} (X : K.In h) (G : h.Ns mainGlobals mg) (c0 : (Fa.glo x).ok K = true) (c : lowB K x = true)
    (F : FunD K "__init__" qn (PySem.LowX.iA p1 p2) (PySem.LowX.iB q1 q2 q3 q4) PySem.LowX.iS [] [] (ma K (ga K x) "__init__") fd) : PySem.LowX.LowTxt x qn K mg (ga K x) (ma K (ga K x) "__init__") := by
  have a := fun i b e => all_at (b := b) c i e
  obtain ⟨⟨oc, od, dV, kV, doc, pm, an, cdv, ct, osl, e, l, cc, d, k⟩, kp⟩ := F
  subst e
  refine ⟨glo_ok X G c0, excOwnB_ok (a 0 _ rfl), eqO_ok (a 1 _ rfl), eqO_ok (a 2 _ rfl), eqO_ok (a 3 _ rfl), eqO_ok (a 4 _ rfl), eqO_ok (a 5 _ rfl), of_decide_eq_true (a 6 _ rfl), a 7 _ rfl, of_decide_eq_true (a 8 _ rfl), of_decide_eq_true (a 9 _ rfl), a 10 _ rfl, of_decide_eq_true (a 11 _ rfl), ?_⟩
  have kw : kV = .none := by
    have q : noKwB K (ma K (ga K x) "__init__") = true := a 12 _ rfl
    unfold noKwB at q
    rw [l] at q
    exact of_decide_eq_true q
  subst kw
  rcases d with ⟨_, rfl⟩ | ⟨h, _⟩
  · exact ⟨oc, od, doc, pm, an, cdv, ct, osl, p1, p2, q1, q2, q3, q4, l, cc⟩
  · exact absurd rfl h
/-! ### a class for isinstance -/
def insB (K : PySem.W.Frag) (x : Str) : Bool := (Fa.cls x).ok K && (eqO (PySem.W.findIn K (.ref (ga K x)) "__class__") (some (some (.builtin "object.__class__"))) && (eqO (PySem.W.specialIn K (.builtin "object.__class__") "__get__") (some (some (.builtin "getset_descriptor.__get__"))) &&
  (decide (PySem.W.takesIn K (.builtin "object.__class__") = some true) && (decide (PySem.W.mroIn K (ga K x) (.type "object") = some true) && decide (PySem.W.kitOne K (.ref (ga K x)) (.ref (ga K x)) = some true)))))
theorem ins_ok {K : PySem.W.Frag} {x : Str} (c : insB K x = true) : C8.InsC K (ga K x) := by
  obtain ⟨c1, c⟩ := ba c
  obtain ⟨c2, c⟩ := ba c
  obtain ⟨c3, c⟩ := ba c
  obtain ⟨c4, c⟩ := ba c
  obtain ⟨c5, c6⟩ := ba c
  exact ⟨cls_ok c1, eqO_ok c2, eqO_ok c3, of_decide_eq_true c4, of_decide_eq_true c5, of_decide_eq_true c6⟩
/-! ### a dict with int keys and texts -/
def kintB (K : PySem.W.Frag) (a : Addr) (k : Int) : Bool := match K.lookup a with
  | some ⟨.type c, none, .dict es _, sl⟩ => decide (c = "dict") && (sl.isEmpty && (es.all (fun e => match e.key with
    | .int k _ => e.hash == hashInt k
    | _ => false) && (match findBy Value.isInt es k with
    | some (.str _ _) => true
    | _ => false)))
  | _ => false
theorem kint_ok {K : PySem.W.Frag} {a : Addr} {k : Int} (h : kintB K a k = true) : ∃ z, OZ.KInt K a k (.str z) := by
  unfold kintB at h
  split at h
  · rename_i c es n sl ho
    obtain ⟨h1, h⟩ := ba h
    obtain ⟨h2, h⟩ := ba h
    obtain ⟨h3, h4⟩ := ba h
    obtain rfl := of_decide_eq_true h1
    have e2 : sl = #[] := Array.isEmpty_iff.mp h2
    subst e2
    split at h4
    · rename_i z t hf
      refine ⟨z, es, n, _, ho, fun e he => ?_, hf, ⟨t, rfl⟩⟩
      have := Array.all_eq_true'.mp h3 e he
      split at this
      · rename_i k t hk
        exact ⟨k, t, hk, by simpa using this⟩
      · cases this
    · cases h4
  · cases h
/-! ### an __init__ with the cell __class__ -/
abbrev FnZ : Type := Option (Str × Str × Arguments × FuncBody × Scope × Addr × Addr)
def fnZ (K : PySem.W.Frag) (x : Str) : FnZ := match K.lookup (ma K (ga K x) "__init__") with
  | some ⟨_, _, .func fd, _⟩ => some (fd.name, fd.qualname, fd.params, fd.body, fd.scope, fd.globals, fd.builtins)
  | _ => none
/-- such a class's __init__: the class's name, the function's qualified name, its statement -/
structure SupD where
  x : Str
  qual : Str
  st : Stmt
def SupD.val (d : SupD) : FnZ := some ("__init__", d.qual, defArgs d.st, .stmts (defBody d.st), defScope d.st, mainGlobals, builtinsNs)
def supB (K : PySem.W.Frag) (x qual px : Str) : Bool := match K.lookup (ma K (ga K x) "__init__") with
  | some ⟨_, _, .func fd, _⟩ => (match fd.closure, fd.code, fd.defaults with
    | [(n, cc)], .ref cda, .none => decide (n = "__class__") && ((match K.lookup cc with
      | some ⟨_, _, .cell (some (.ref C')), _⟩ => C' == ga K x
      | _ => false) && (PySem.W.codeIn K (.ref cda) qual && ((match K.lookup cda with
      | some ⟨_, _, .fields vs, _⟩ => (match vs[2]? with
        | some (Value.str file _) => decide (file = "/claim/cut.py")
        | _ => false)
      | _ => false) && ([(PySem.W.clsIn K (ga K x)).isSome, decide (PySem.W.mroIn K (ga K x) (.ref (ga K x)) = some true), eqO (PySem.W.ks_superIn K (ga K x) (ga K x) "__init__") (some (some (.ref (ma K (ga K px) "__init__")))),
        decide (PySem.W.typeIn K (.ref (ma K (ga K px) "__init__")) = some (.type "function")), PySem.W.fnIn K (ma K (ga K px) "__init__"), eqO (PySem.W.nsIn K cStatics "thirdparty.any") (some none)].all id))))
    | _, _, _ => false)
  | _ => false
theorem sup_ok {K : PySem.W.Frag} {d : SupD} {px : Str} (e : fnZ K d.x = d.val) (h : supB K d.x d.qual px = true) {ps : List Str}
    (hb : ∀ (cl : List (Str × Addr)) (kV doc pm : Value) (an : Option Addr) (cdv ct : Value) (us : List Value), us.length = ps.length → bindArgs (PySem.W.fnX "__init__" d.qual (defArgs d.st) (defBody d.st) (defScope d.st) cl .none kV doc pm an cdv ct) ⟨us, []⟩ = pure (ps.zip us)) :
    ∃ cda cc fd, SupF K d.qual d.st (ga K d.x) (ma K (ga K d.x) "__init__") cda cc (ma K (ga K px) "__init__") fd ∧ Binds K fd ps [] := by
  unfold supB at h
  split at h
  · rename_i oc od fd osl lk
    split at h
    · rename_i n cc cda hcl hcd hdf
      obtain ⟨h1, h⟩ := ba h
      obtain ⟨h2, h⟩ := ba h
      obtain ⟨h3, h⟩ := ba h
      obtain ⟨h4, h5⟩ := ba h
      obtain rfl := of_decide_eq_true h1
      have a := fun i b e => all_at (b := b) h5 i e
      unfold fnZ at e
      rw [lk] at e
      obtain ⟨n1, n2, n3, n4, n5, n6, n7, n8, n9, n10, n11, n12, n13, n14, n15⟩ := fd
      dsimp only at hcl hcd hdf
      subst hcl hcd hdf
      have e2 : (some (n1, n2, n3, n4, n5, n6, n15) : FnZ) = some (("__init__" : Str), d.qual, defArgs d.st, FuncBody.stmts (defBody d.st), defScope d.st, mainGlobals, builtinsNs) := e
      simp only [Option.some.injEq, Prod.mk.injEq] at e2
      obtain ⟨rfl, rfl, rfl, rfl, rfl, rfl, rfl⟩ := e2
      refine ⟨cda, cc, _, ⟨?_, h3, ?_, Option.isSome_iff_exists.mp (a 0 _ rfl), of_decide_eq_true (a 1 _ rfl), eqO_ok (a 2 _ rfl), of_decide_eq_true (a 3 _ rfl), a 4 _ rfl, eqO_ok (a 5 _ rfl)⟩, .all (hb [("__class__", cc)] n9 n10 n11 n12 (.ref cda) n14)⟩
      · split at h2
        · rename_i cl cld C' csl lc
          obtain rfl := (beq_iff_eq.mp h2 : C' = ga K d.x)
          exact ⟨oc, n9, n10, n11, n14, cl, od, n12, cld, osl, csl, rfl, lk, lc⟩
        · cases h2
      · split at h4
        · rename_i ccl cdd vs ccs lv
          split at h4
          · rename_i file tf hv
            exact ⟨ccl, cdd, vs, ccs, file, tf, lv, hv, of_decide_eq_true h4⟩
          · cases h4
        · cases h4
    · cases h
  · cases h
/-! ### the Hook -/
abbrev AlZ : Type := AlD × Bool × List FnZ
def obsZ (fa : List Fa) (fn : List DefD) (ez : PySem.W.Frag → Bool) (su : List SupD) (K : PySem.W.Frag) : AlZ := (obsD fa fn K, ez K, su.map fun d => fnZ K d.x)
def valZ (fn : List DefD) (su : List SupD) : AlZ := (valD fn, true, su.map SupD.val)
/-- what is looked at: the module's names' objects, their code, the classes' namespaces and orders, the methods, their code and cells -/
def dictRefs (o : Obj) : List Addr := match o.data with
  | .dict es _ => es.toList.flatMap fun e => refV e.val
  | _ => []
def partRefs (o : Obj) : List Addr := match o.data with
  | .func fd => refV fd.code ++ fd.closure.map (·.2)
  | .cls cd => cd.ns :: cd.mro.flatMap refV
  | _ => []
def overG (g : Addr → Option Obj) (f : Obj → List Addr) (as : List Addr) : List Addr := as.flatMap fun a => match g a with
  | some o => f o
  | none => []
def asZ (g : Addr → Option Obj) (n : Nat) : List Addr :=
  (fun l1 => (fun l2 => (fun l3 => mainGlobals :: cStatics :: (l1 ++ (l2 ++ (l3 ++ overG g partRefs l3)))) (overG g dictRefs l2)) (overG g partRefs l1)) (overG g dictRefs [mainGlobals])
def obsZG (n : Nat) (fa : List Fa) (fn : List DefD) (ez : PySem.W.Frag → Bool) (su : List SupD) (g : Addr → Option Obj) : AlZ := obsZ fa fn ez su (frG g (asZ g n))
def SaysZ (fa : List Fa) (fn : List DefD) (ez : PySem.W.Frag → Bool) (su : List SupD) (K : PySem.W.Frag) : Prop := obsZ fa fn ez su K = valZ fn su
def hookZ (n : Nat) (fa : List Fa) (fn : List DefD) (ez : PySem.W.Frag → Bool) (su : List SupD) : PySem.W.Hook where
  α := AlZ
  obs := fun s => obsZG n fa fn ez su s.heap.get?
  val := fun _ => valZ fn su
  says := fun _ h => ∃ K : PySem.W.Frag, K.In h ∧ SaysZ fa fn ez su K
  of := fun _ _ e => ⟨_, frG_in, e⟩
  keeps := fun _ _ _ ⟨K, hK, c⟩ k => ⟨K, PySem.W.Frag.In.keeps hK k, c⟩
theorem obsZG_eq {n : Nat} {fa : List Fa} {fn : List DefD} {ez : PySem.W.Frag → Bool} {su : List SupD} {g : Addr → Option Obj} {s : Shared} (h : ∀ a, g a = s.heap.get? a) : obsZG n fa fn ez su g = (hookZ n fa fn ez su).obs s := by
  have e : g = s.heap.get? := funext h
  rw [e] <;> rfl
section
variable {fa : List Fa} {fn : List DefD} {ez : PySem.W.Frag → Bool} {su : List SupD} {K : PySem.W.Frag}
theorem SaysZ.d (c : SaysZ fa fn ez su K) : SaysD fa fn K := congrArg (fun z : AlZ => z.1) c
theorem SaysZ.more (c : SaysZ fa fn ez su K) : ez K = true := congrArg (fun z : AlZ => z.2.1) c
theorem SaysZ.sup (c : SaysZ fa fn ez su K) (i : Nat) {d : SupD} (h : su[i]? = some d := by rfl) : fnZ K d.x = d.val := by
  have e : su.map (fun d => fnZ K d.x) = su.map SupD.val := congrArg (fun z : AlZ => z.2.2) c
  have e2 : (su.map fun d => fnZ K d.x)[i]? = (su.map SupD.val)[i]? := by rw [e]
  rw [List.getElem?_map, List.getElem?_map, h] at e2
  exact Option.some.inj e2
end
theorem gcd_ok {K : PySem.W.Frag} {h : Heap} {mg : Str → Option Value} {x : Str} {v : Value} (X : K.In h) (G : h.Ns mainGlobals mg) (c : eqO (PySem.W.nsIn K mainGlobals x) (some (some v)) = true) : mg x = some v := PySem.W.mg_of X G (eqO_ok c)
end Oh
namespace Odd
open PySem PySem.Spec PyProof.Rows L2 He Oh
abbrev s_BadLot_init : Stmt := inClass (topS 25) 0
abbrev s_BadSides_init : Stmt := inClass (topS 27) 0
abbrev s_BadRatio_init : Stmt := inClass (topS 26) 0
def dG (x : Str) (st : Stmt) : DefD := ⟨(x, none), x, x, defArgs st, defBody st, defScope st, [], []⟩
def dM (c m qn : Str) (st : Stmt) : DefD := ⟨(c, some m), m, qn, defArgs st, defBody st, defScope st, [], []⟩
def fnL0 : List DefD := [dG "lowest" s_lowest, dG "pair_of" s_pair_of, dG "negative" s_negative, dG "sum_of" s_sum_of, dG "difference" s_difference, dG "product_of" s_product_of, dG "is_below" s_is_below, dG "sign" s_sign, dG "is_integer" s_is_integer, dG "is_within" s_is_within, dG "is_row" s_is_row, dG "is_pair" s_is_pair, dG "is_number" s_is_number, dG "is_point" s_is_point, dG "are_points" s_are_points, dG "point_of" s_point_of, dG "way_between" s_way_between, dG "cross_of" s_cross_of, dG "dot_of" s_dot_of, dG "comes_before" s_comes_before]
def fnL1 : List DefD := [dG "ratio_in" s_ratio_in, dG "determinant_of" s_determinant_of, dG "fixed" s_fixed, dG "sides_of" s_sides_of, dG "_loose" s__loose, dG "bend" s_bend, dG "_ordered" s__ordered, dG "_shared_stretch" s__shared_stretch, dG "common_point" s_common_point, dG "_corners_in" s__corners_in, dG "_goes_back" s__goes_back, dG "are_next" s_are_next, dG "_meeting" s__meeting, dG "_doubled_area" s__doubled_area, dG "_judged" s__judged, dG "_bends_of" s__bends_of, dG "_fences_in" s__fences_in, dG "_numbered_sides" s__numbered_sides, dG "judged_fences" s_judged_fences, dG "is_side" s_is_side]
def fnL2 : List DefD := [dG "check_lot" s_check_lot, dG "four_in" s_four_in, dG "determinant" s_determinant, dG "_law_store" s__law_store, dG "_law_draw" s__law_draw, dG "_law_pick" s__law_pick, dG "_law_gcd" s__law_gcd, dG "_law_low" s__law_low, dG "_law_pt" s__law_pt, dG "_law_is_number" s__law_is_number, dG "_law_star" s__law_star, dG "_law_lot" s__law_lot, dG "_law_sides" s__law_sides, dG "_law_sign" s__law_sign, dG "_law_ratio" s__law_ratio, dG "_law_rows" s__law_rows, dG "_law_mirrored" s__law_mirrored, dG "_law_mirror_side" s__law_mirror_side, dG "_law_refused" s__law_refused, dG "law" s_law]
def fnL3 : List DefD := [dM "Paper" "__init__" "Paper.__init__" s_Paper_init, dM "Paper" "__bool__" "Paper.__bool__" s_Paper_bool, dM "Fence" "__init__" "Fence.__init__" s_Fence_init, dM "Fence" "__len__" "Fence.__len__" s_Fence_len, dM "Lot" "__init__" "Lot.__init__" s_Lot_init, dM "Lot" "side" "Lot.side" s_Lot_side, dM "BadLot" "__init__" "BadLot.__init__" s_BadLot_init, dM "BadSides" "__init__" "BadSides.__init__" s_BadSides_init, dM "BadRatio" "__init__" "BadRatio.__init__" s_BadRatio_init]
def fnL : List DefD := fnL0 ++ fnL1 ++ fnL2 ++ fnL3
def faL0 : List Fa := [.glo "lowest", .glo "pair_of", .glo "negative", .glo "sum_of", .glo "difference", .glo "product_of", .glo "is_below", .glo "sign", .glo "is_integer", .glo "is_within", .glo "is_row", .glo "is_pair", .glo "is_number", .glo "is_point", .glo "are_points", .glo "point_of", .glo "way_between", .glo "cross_of", .glo "dot_of", .glo "comes_before"]
def faL1 : List Fa := [.glo "ratio_in", .glo "determinant_of", .glo "fixed", .glo "sides_of", .glo "_loose", .glo "bend", .glo "_ordered", .glo "_shared_stretch", .glo "common_point", .glo "_corners_in", .glo "_goes_back", .glo "are_next", .glo "_meeting", .glo "_doubled_area", .glo "_judged", .glo "_bends_of", .glo "_fences_in", .glo "_numbered_sides", .glo "judged_fences", .glo "is_side"]
def faL2 : List Fa := [.glo "check_lot", .glo "four_in", .glo "determinant", .glo "_law_store", .glo "_law_draw", .glo "_law_pick", .glo "_law_gcd", .glo "_law_low", .glo "_law_pt", .glo "_law_is_number", .glo "_law_star", .glo "_law_lot", .glo "_law_sides", .glo "_law_sign", .glo "_law_ratio", .glo "_law_rows", .glo "_law_mirrored", .glo "_law_mirror_side", .glo "_law_refused", .glo "law"]
def faL3 : List Fa := [.glo "BadLot", .glo "BadSides", .glo "BadRatio", .glo "ZERO", .glo "BENDS", .glo "Closed", .glo "Fence", .glo "Lot", .glo "Apart", .free "len", .free "abs", .free "isinstance", .free "int", .free "bool", .free "list", .free "tuple", .free "range", .free "all", .free "zip", .free "enumerate"]
def faL4 : List Fa := [.free "super", .free "type", .int "FEWEST_CORNERS" 3, .int "MOST_CORNERS" 40, .int "MOST_FENCES" 6, .int "MOST_SIDES" 60, .cls "Closed", .mkr "Closed", .cls "Fence", .mkr "Fence", .cls "Lot", .mkr "Lot", .cls "Apart", .mkr "Apart", .noat "Closed" "word", .noat "Closed" "parts", .noat "Closed" "is_left", .noat "Apart" "word", .noat "Apart" "parts", .noat "Fence" "corners"]
def faL5 : List Fa := [.noat "Fence" "sides", .noat "Fence" "area", .noat "Fence" "bends", .noat "Lot" "fences", .noat "Lot" "sides", .meth "Lot" "side", .exm "BadSides" "BadLot" false, .exm "BadRatio" "BadLot" false, .exm "BadRatio" "BadSides" false]
def faL : List Fa := faL0 ++ faL1 ++ faL2 ++ faL3 ++ faL4 ++ faL5
def ezL (K : PySem.W.Frag) : List Bool := [lowB K "BadLot",
  lowB K "BadSides",
  lowB K "BadRatio",
  eqO (PySem.W.nsIn K mainGlobals "gcd") (some (some (.builtin "math.gcd"))),
  tupB K "ZERO" [.int 0, .int 1],
  kintB K (ga K "BENDS") (-1),
  kintB K (ga K "BENDS") (0),
  kintB K (ga K "BENDS") (1),
  insB K "Fence",
  insB K "Lot",
  decide (PySem.W.kitOne K (.type "NoneType") (.ref (ga K "Lot")) = some false),
  decide (PySem.W.kitOne K (.type "list") (.ref (ga K "Lot")) = some false),
  decide (PySem.W.kitOne K (.type "int") (.ref (ga K "Lot")) = some false),
  eqO (PySem.W.findIn K (.ref (ga K "Closed")) "__bool__") (some (some (.ref (ma K (ga K "Paper") "__bool__")))),
  eqO (PySem.W.findIn K (.ref (ga K "Apart")) "__bool__") (some (some (.ref (ma K (ga K "Paper") "__bool__")))),
  decide (PySem.W.typeIn K (.ref (ma K (ga K "Paper") "__bool__")) = some (.type "function")),
  eqO (PySem.W.findIn K (.ref (ga K "Fence")) "__len__") (some (some (.ref (ma K (ga K "Fence") "__len__")))),
  decide (PySem.W.typeIn K (.ref (ma K (ga K "Fence") "__len__")) = some (.type "function")),
  decide (PySem.W.kitOne K (.ref (ga K "Fence")) (.ref (ga K "Fence")) = some true),
  decide (PySem.W.kitOne K (.ref (ga K "Lot")) (.ref (ga K "Lot")) = some true),
  supB K "Closed" "Closed.__init__" "Paper",
  supB K "Apart" "Apart.__init__" "Paper"]
def ez (K : PySem.W.Frag) : Bool := (ezL K).all id
def suL : List SupD := [⟨"Closed", "Closed.__init__", s_Closed_init⟩, ⟨"Apart", "Apart.__init__", s_Apart_init⟩]
def names0 : List Str := ["_wall", "ZERO", "lowest", "pair_of", "negative", "sum_of", "difference", "product_of", "quotient", "is_below", "sign", "is_integer", "is_within", "is_row", "is_pair", "is_number", "is_point", "are_points", "OddError", "BadPoint", "BadFence", "BadLot", "BadRatio", "BadSides", "NoFence"]
def names1 : List Str := ["NoLot", "TooMany", "point_of", "joined", "way_between", "stretched", "cross_of", "dot_of", "moved", "comes_before", "ratio_in", "point_in", "determinant_of", "fixed", "_are_equal", "Paper", "Denial", "sides_of", "_loose", "bend", "_ordered", "lies_on", "_shared_stretch", "common_point", "is_around"]
def names2 : List Str := ["FEWEST_CORNERS", "MOST_CORNERS", "BENDS", "Closed", "Short", "Back", "Meets", "_corners_in", "_goes_back", "are_next", "_meeting", "_doubled_area", "_judged", "_bends_of", "Fence", "MOST_FENCES", "MOST_SIDES", "Apart", "Cross", "_fences_in", "_numbered_sides", "judged_fences", "Lot", "is_side", "check_lot"]
def names3 : List Str := ["four_in", "determinant", "_law_store", "_law_draw", "_law_pick", "_law_gcd", "_law_low", "_law_pt", "_law_is_number", "_law_star", "_law_lot", "_law_sides", "_law_sign", "_law_ratio", "_law_rows", "_law_mirrored", "_law_mirror_side", "_law_refused"]
def names : List Str := names0 ++ names1 ++ names2 ++ names3
abbrev RR : PySem.W.OpenRow := PySem.W.OpenLaw.row PySem.Challenge.rw_oddsquares_k14_determinants_of_four_side
abbrev hk : PySem.W.Hook := hookZ 4 faL fnL ez suL
def obH (s : PySem.W.SharedT) : AlZ := obsZG 4 faL fnL ez suL (HandSHeadRun.getT s)
theorem obH_eq (s : PySem.W.SharedT) : obH s = hk.obs s.abs := obsZG_eq (HandSHeadRun.getT_eq s)
end Odd
set_option maxHeartbeats 0
namespace Odd
open PySem PySem.Spec PyProof.Rows L2 He Oh
theorem runF (w : World) : HandSHeadRun.RunEqI RR (PySem.W.view RR.prog [0, 107]) hk obH 30000 names (w.withFollow "special-get-raises" false) := by
  show _ = _
  kernel_rfl
theorem runT (w : World) : HandSHeadRun.RunEqI RR (PySem.W.view RR.prog [0, 107]) hk obH 30000 names (w.withFollow "special-get-raises" true) := by
  show _ = _
  kernel_rfl
theorem run (w : World) : HandSHeadRun.RunEqI RR (PySem.W.view RR.prog [0, 107]) hk obH 30000 names w :=
  PySem.W.byRow2 "special-get-raises" (P := fun w => HandSHeadRun.RunEqI RR (PySem.W.view RR.prog [0, 107]) hk obH 30000 names w) runF runT w
end Odd
/-! several clauses 'except x as n' that share the name n -/
namespace L2
open PySem PySem.Spec PyProof.Rows
abbrev OddCl := Value × (Addr → Value → Option Addr → TS)
def oddEnds (i : Nat) (D : Ends) : Ends := { nx := fun τ G => D.nx (τ.set i none) G, rt := D.rt, bk := fun τ G => D.bk (τ.set i none) G, ct := fun τ G => D.ct (τ.set i none) G }
/-- what such clauses wish of an exception: the first that fits takes it -/
def oddWish (K : PySem.W.Frag) (i : Nat) (W : WX) (D : Ends) : List OddCl → WX
  | [] => W
  | cl :: more => fun cls d τ G => ∃ fits : Bool, PySem.W.exmOne K cls cl.1 = some fits ∧ (fits = true → ∀ a, G a = none → cl.2 a cls d (oddEnds i D) (τ.set i (some (.ref a))) G) ∧ (fits = false → oddWish K i W D more cls d τ G)
inductive OddCls (X : Cx) (n : Str) : List ExceptHandler → List OddCl → Prop
  | nil : OddCls X n [] []
  | cons {x : Str} {cl : OddCl} {first : Stmt} {suite : List Stmt} {p p' : Pos} {hds : List ExceptHandler} {l : List OddCl} (known : Names X x cl.1)
      (run : ∀ (a : Addr) (oe : Obj) (cls : Value) (d : Option Addr) (pn : List (Addr × Obj)), Zc cls d oe → (∃ vs, oe.data = .fields vs) → PSs (X.suite a ((a, oe) :: pn)) (first :: suite) (cl.2 a cls d)) (more : OddCls X n hds l) :
      OddCls X n (.ExceptHandler (some (.Name x p)) (some n) (first :: suite) p' :: hds) (cl :: l)
theorem OddCls.one {X : Cx} {n : Str} {c : Value} {ts : Addr → Value → Option Addr → TS} {x : Str} {first : Stmt} {suite : List Stmt} {p p' : Pos} {hds : List ExceptHandler} {l : List OddCl} (known : Names X x c)
    (run : ∀ (a : Addr) (oe : Obj) (cls : Value) (d : Option Addr) (pn : List (Addr × Obj)), Zc cls d oe → (∃ vs, oe.data = .fields vs) → PSs (X.suite a ((a, oe) :: pn)) (first :: suite) (ts a cls d)) (more : OddCls X n hds l) :
    OddCls X n (.ExceptHandler (some (.Name x p)) (some n) (first :: suite) p' :: hds) ((c, ts) :: l) := .cons (cl := (c, ts)) known run more
theorem oddTry {X : Cx} {n : Str} {i : Nat} {body : List Stmt} {h₀ : ExceptHandler} {hds : List ExceptHandler} {l : List OddCl} {pos : Pos} {tb : WX → TS} {Wout : WX}
    (hs : X.stack = X.env :: X.outer) (hf : X.env.frame = some X.env.locals) (hN : X.N.Nodup) (hi : X.N[i]? = some n) (hln : X.env.kindOf n = some .local) (tk : Takes X Wout)
    (hb : ∀ (W : WX) (pn : List (Addr × Obj)) (xe : Value → Shared → Prop), Takes (X.tr pn xe) W → PassesOwn (model X.prog X.w) X.A X.env xe → PSs (X.tr pn xe) body (tb W))
    (hh : OddCls X n (h₀ :: hds) l) : PS X (.Try body (h₀ :: hds) [] [] pos) (fun D σ H => tb (oddWish X.K i Wout D l) D σ H) := by
  refine ⟨fun held s σ H D I h => ?_⟩
  have good := I.ok
  have onTop : X.A.frames = some (X.env :: X.outer) := by rw [good.frames, hs]
  have isLoc : Loc X.env.scope n := .inl hln
  refine wpAny_Try_except ?_
  refine wpAny_mono ((hb (oddWish X.K i Wout D l) (X.pn ++ held) (fun e s₁ => wpAny (model X.prog X.w) X.A (noteFrame e X.env) (fun _ s₂ => wpAny (model X.prog X.w) X.A (setFlight e none) (fun _ s₃ =>
    wpAny (model X.prog X.w) X.A (handleBy e X.env (h₀ :: hds)) (SP X held D) X.xe s₃) X.xe s₂) X.xe s₁) (fun u s' got => ?_) PassesOwn.looking).run [] s σ H D (I.toTry _) h) (fun f s1 fin0 => ?_) (fun e s1 he => he)
  · obtain ⟨a, B, sIn, held2, τ, G, cls, d, rfl, invT, bare, rise, sk, off0, osq, gen, wish⟩ := got
    have inv : Inv X held τ G sIn := invT.ofTry good
    have air : Sky B (X.env :: X.outer) a (Zc cls d) X.env.locals s'.heap := by rw [← hs]; exact sk
    show wpAny (model X.prog X.w) X.A (noteFrame (.ref a) X.env) _ _ _
    refine Sky.land Zc.steady onTop hf air fun k3 lnd3 rise3 => ?_
    have inv3 : Inv X held τ G { s' with heap := k3 } := inv.landed bare lnd3.1 (rise.trans rise3) osq gen
    obtain ⟨ob3, fs3, at3, zc3, fd3⟩ := lnd3.there
    have off : a ∉ frs (X.env :: X.outer) := fun hm => by
      obtain ⟨_, o', e', hnf⟩ := lnd3.2.2.1.mem hm
      rw [at3] at e'; cases e'
      exact hnf _ fd3
    have notL : a ≠ X.env.locals := fun z => off (List.mem_filterMap.mpr ⟨X.env, List.mem_cons_self, by rw [hf, z]⟩)
    have notF : a ∉ X.fs := fun hm => by
      obtain ⟨e, he, q⟩ := List.mem_filterMap.mp hm
      exact off (List.mem_filterMap.mpr ⟨e, List.mem_cons_of_mem _ he, q⟩)
    have sui3 := inv3.suite at3 fd3 off0 notL notF
    have lkT : PySem.W.Looks (model X.prog X.w) k3 (typeOf (.ref a)) cls := fun A Q E s k q => wpAny_typeOf_ref (k _ _ at3) (by rw [zc3.1]; exact q)
    have go : ∀ {hds' : List ExceptHandler} {l' : List OddCl}, OddCls X n hds' l' → oddWish X.K i Wout D l' cls d τ G → wpAny (model X.prog X.w) X.A (handleBy (.ref a) X.env hds') (SP X held D) X.xe { s' with heap := k3 } := by
      intro hds' l' hk
      induction hk with
      | nil =>
        intro wish
        refine wpAny_handleBy_nil ?_
        obtain ⟨j1, j2, j3, oe, vs, tb0, tbo, tbs, he, hz, hd, h1, hr⟩ := id lnd3
        unfold PySem.passOn
        refine wpAny_bind (wpAny_field he hd h1 ?_)
        rw [if_neg (show ¬ ((Value.ref tb0 == Value.none) = true) from by simp)]
        have fin : wpAny (model X.prog X.w) X.A (setFlight (.ref a) X.env.frame) (fun _ s4 => wpAny (model X.prog X.w) X.A (throw (.ref a) : Sem Flow) (SP X held D) X.xe s4) X.xe { s' with heap := k3 } := by
          rw [hf]
          exact HandSPX.setFlight_upZ lnd3 fun k4 low4 rise4 => wpAny_throw (tk _ _ ⟨a, B, sIn, held, τ, G, cls, d, rfl, inv, bare, (rise.trans rise3).trans rise4, .inr (.inr (by rw [hs]; exact low4)), off0, osq, gen, wish⟩)
        first
          | exact wpAny_bind (wpAny_pure (wpAny_bind fin))
          | exact wpAny_bind fin
      | @cons x cl first suite p p' hds2 l2 known run more ih =>
        intro wish
        obtain ⟨fits, hb1, hyes, hno⟩ := wish
        refine wpAny_handleBy_cons (codeAny_handlers_test ?_) (by intro q; cases q)
        have lkM := PySem.W.exm_one (M := model X.prog X.w) (inv3.kIn) lkT hb1
        have test : ∀ {Q : Value → Shared → Prop} {E : Value → Shared → Prop}, Q cl.1 { s' with heap := k3 } → wpAny (model X.prog X.w) (X.A.mark (some (.ref a))) (eval (.Name x p) X.env) Q E { s' with heap := k3 } := fun {Q E} q => by
          obtain ⟨hg, hdbg, hm | ⟨hm, hv, hnn⟩⟩ := known
          · exact ld_glob (X := X.suite a ((a, ob3) :: (X.pn ++ held))) sui3 hg hm q hdbg
          · exact ld_blt (X := X.suite a ((a, ob3) :: (X.pn ++ held))) sui3 hg hm hv q hnn hdbg
        refine test (lkM.here ?_)
        cases fits with
        | false => exact ih (hno rfl)
        | true =>
          refine codeAny_handlers_suite_as ?_
          refine HandSPX.lands_againZ lnd3 fun k4 lnd4 rise4 => ?_
          have inv4 : Inv X held τ G { s' with heap := k4 } := inv.landed bare lnd4.1 ((rise.trans rise3).trans rise4) osq gen
          obtain ⟨ob4, fs4, at4, zc4, fd4⟩ := lnd4.there
          have sui4 := inv4.suite at4 fd4 off0 notL notF
          refine store_ok (X := X.suite a ((a, ob4) :: (X.pn ++ held))) (v := .ref a) sui4 hN hi isLoc rfl (fun t5 sui5 => ?_) (.inr hln)
          refine wpAny_mono ((run a ob4 cls d (X.pn ++ held) zc4 ⟨_, fd4⟩).run [] t5 _ G _ sui5 (hyes rfl a off0)) (fun f s6 fin0 => ?_) (fun _ _ z => False.elim z)
          have gone : ∀ {τ6 : St} {G6 : Hp} {Q : Shared → Prop}, Inv (X.suite a ((a, ob4) :: (X.pn ++ held))) [] τ6 G6 s6 → (∀ s7, Inv X held (τ6.set i none) G6 s7 → Q s7) →
              wpAny (model X.prog X.w) X.A (do bindName X.env n .none; unbindBehindTheSuite X.env n p') (fun _ s7 => Q s7) X.xe s6 := fun {τ6 G6 Q} sui6 hq => gone_ok (sui6.unsuite good) hN hi hln hq
          cases f with
          | next => obtain ⟨τ6, G6, sui6, q6⟩ := fin0; exact gone sui6 fun s7 inv7 => ⟨_, _, inv7, q6⟩
          | brk => obtain ⟨τ6, G6, sui6, q6⟩ := fin0; exact gone sui6 fun s7 inv7 => ⟨_, _, inv7, q6⟩
          | cont => obtain ⟨τ6, G6, sui6, q6⟩ := fin0; exact gone sui6 fun s7 inv7 => ⟨_, _, inv7, q6⟩
          | ret u => obtain ⟨v6, τ6, G6, sui6, r6, q6⟩ := fin0; exact gone sui6 fun s7 inv7 => ⟨_, _, _, inv7, r6, q6⟩
    exact go hh wish
  · cases f with
    | next => obtain ⟨τ, G, invT, q⟩ := fin0; exact wpAny_execs_nil ⟨τ, G, invT.ofTry good, q⟩
    | brk => obtain ⟨τ, G, invT, q⟩ := fin0; exact ⟨τ, G, invT.ofTry good, q⟩
    | cont => obtain ⟨τ, G, invT, q⟩ := fin0; exact ⟨τ, G, invT.ofTry good, q⟩
    | ret u => obtain ⟨v, τ, G, invT, r, q⟩ := fin0; exact ⟨v, τ, G, invT.ofTry good, r, q⟩
end L2
namespace Odd
open PySem PySem.Spec PyProof.Rows L2
local macro_rules | `(tactic| walk_at "vc") => `(tactic| simp only [tSeq, tAsg, gName, tCB, tCons, tNil, tVar, tC, tOp, tUn, rI0, rI, rU, tTup, tLst, tIfS, tTest, tB, tRet, tNext, rGcd, L2.start, List.map, List.set, List.replicate, List.cons_append, List.nil_append, List.length_cons, List.length_nil, List.getElem?_cons_succ, List.getElem?_cons_zero, Option.some.injEq, exists_eq_left', exists_eq_left, List.append_nil, List.cons.injEq, V.int.injEq, exists_and_left, and_true, true_and, and_assoc, exists_const, V.bl.injEq, V.ref.injEq, Nat.sub_self, Nat.reduceAdd, Nat.reduceSub, List.replicate_succ, List.replicate_zero, tAnd, tOr, tNot, tAndV, tOrV, tNotV, tIf, tCall, tCallK, tDrop, rEq, rNe, decide_eq_true_eq, Bool.not_eq_true', decide_eq_false_iff_not, Bool.false_eq_true, if_true, if_false, reduceIte, reduceCtorEq, tMkLow, tRaiseLow, rIsB, rNotB, tBreak, tPar, gSub, rSetL, tChain, gTup, gCons, gNil, gSeq, cx_K, cx_Kn, optV, V.str.injEq, Bool.not_true, Bool.not_false, false_and, and_false, or_false, false_or, exists_false, tCallN, tCallS, tPairs])
section
variable {P : Program} {w : World} {K : PySem.W.Frag} {mg : Str → Option Value} {base : Heap} {A : Ads}


theorem iteN {A B : Prop} (h : A) : if false = false then A else B := by
  rw [if_pos rfl]
  exact h
theorem iteF' {A B : Prop} {b : Bool} (hb : b = true) (h : B) : if b = false then A else B := by
  subst hb
  rw [if_neg (by decide)]
  exact h
def spLowest (K : PySem.W.Frag) : Sp := fun vs H Q _ => ∃ t u : Int, vs = [.int t, .int u] ∧ u ≠ 0 ∧ u.natAbs < 2 ^ 8000 ∧ RetP K H (low t u) Q
theorem ok_lowest (T : Txt K mg A) : FnOk P w K mg base CX0 1 A.f_lowest A.d_lowest ["top", "under"] (spLowest K) := by
  refine T.lowest.F.ok sc_lowest (fun vs H Q E h => ?_) (fun cdv A' outer s H vs Q E hr h => ?_)
  · obtain ⟨t, u, rfl, _⟩ := h; rfl
  · obtain ⟨t, u, rfl, hu, hb, q⟩ := h
    refine ⟨_, (pss_cons (ps_set (i := 2) sc_lowest.nd rfl (.inl rfl) (pe_callBfun cr_gcd (by rfl) T.g_gcd (pa_cons (pv 0) (pa_cons (pv 1) pa_nil))))
      (pss_cons (ps_if (pt_cmpR op_lt (pv 1) pe_int (nomark _)) (pss_one (ps_set (i := 2) sc_lowest.nd rfl (.inl rfl) (pe_un un_neg (pv 2)))) pss_nil)
      (pss_one (ps_ret (pe_tup (pa_cons (pe_op op_fdivX (pv 0) (pv 2)) (pa_cons (pe_op op_fdivX (pv 1) (pv 2)) pa_nil))))))), ?_⟩
    walk_at "vc"
    have hg : 0 < Nat.gcd t.natAbs u.natAbs := Nat.gcd_pos_of_pos_right _ (by omega)
    have hl : Nat.gcd t.natAbs u.natAbs ≤ u.natAbs := Nat.le_of_dvd (by omega) (Nat.gcd_dvd_right _ _)
    have hd : Nat.gcd t.natAbs u.natAbs < 2 ^ 8000 := Nat.lt_of_le_of_lt hl hb
    split
    · rename_i hn
      have d : ∀ x, CDivX x (-((Nat.gcd t.natAbs u.natAbs : Nat) : Int)) := fun x => divx (by omega) (b := 8000) (by rw [Int.natAbs_neg]; exact hd) (by decide) (by decide)
      refine ⟨d _, d _, by decide, fun p hp => q _ p (same_upd hp) (st_of ?_)⟩
      unfold low
      rw [if_pos hn, upd_same]
    · rename_i hn
      have d : ∀ x, CDivX x ((Nat.gcd t.natAbs u.natAbs : Nat) : Int) := fun x => divx (by omega) (b := 8000) hd (by decide) (by decide)
      refine ⟨d _, d _, by decide, fun p hp => q _ p (same_upd hp) (st_of ?_)⟩
      unfold low
      rw [if_neg hn, upd_same]
def spPairOf (K : PySem.W.Frag) : Sp := fun vs H Q _ => ∃ v a, vs = [v] ∧ Num K H v a ∧ RetP K H a Q
theorem ok_pair_of (T : Txt K mg A) : FnOk P w K mg base CX0 1 A.f_pair_of A.d_pair_of ["value"] (spPairOf K) := by
  refine T.pair_of.F.ok sc_pair_of (fun vs H Q E h => ?_) (fun cdv A' outer s H vs Q E hr h => ?_)
  · obtain ⟨t, u, rfl, _⟩ := h; rfl
  · obtain ⟨v, a, rfl, hn, q⟩ := h
    refine ⟨_, (pss_cons (ps_if (pt_val (pe_callB call_isiT (by rfl) T.n_isinstance bt_isinstance (pa_cons (pv 0) (pa_cons (pe_tup (pa_cons (pe_bltn (v := .ty "list") (by rfl) T.n_list bt_list rfl) (pa_cons (pe_bltn (v := .ty "tuple") (by rfl) T.n_tuple bt_tuple rfl) pa_nil))) pa_nil)))) (pss_one (ps_ret (pe_callTy call_tuple_of (by rfl) T.n_tuple bt_tuple (pa_cons (pv 0) pa_nil)))) pss_nil)
      (pss_one (ps_ret (pe_tup (pa_cons (pv 0) (pa_cons pe_int pa_nil)))))), ?_⟩
    walk_at "vc"
    refine ⟨by decide, fun p hp => ?_⟩
    have sp := same_upd (o := .tup [.ty "list", .ty "tuple"]) hp
    cases hn with
    | int n =>
      refine ty_row (.int n) upd_same ⟨_, rfl, iteF ⟨by decide, fun p2 hp2 => q _ _ (sp.trans (same_upd hp2)) (st_of upd_same)⟩⟩
    | sq h c =>
      obtain ⟨U, hU, e⟩ := (h.same sp).ty
      refine ty_row hU upd_same ⟨_, rfl, ?_⟩
      rw [e]
      refine iteT ⟨_, rfl, ?_⟩
      rcases h with h | h
      · exact ⟨_, .inl ⟨sp.seq h, fun l hl => q _ _ (sp.trans (same_upd hl)) (st_of upd_same)⟩⟩
      · exact ⟨_, .inr ⟨same_tup sp h, q _ _ sp (same_tup sp h)⟩⟩
def spPP (K : PySem.W.Frag) (f : Int × Int → Int × Int → Int × Int) (ok : Int × Int → Int × Int → Prop) : Sp := fun vs H Q _ => ∃ v u a b, vs = [v, u] ∧ Pr K H v a ∧ Pr K H u b ∧ Sm 4000 a ∧ Sm 4000 b ∧ ok a b ∧ RetP K H (f a b) Q
def fAdd (a b : Int × Int) : Int × Int := low (a.1 * b.2 + b.1 * a.2) (a.2 * b.2)
def fSub (a b : Int × Int) : Int × Int := low (a.1 * b.2 - b.1 * a.2) (a.2 * b.2)
def fMul (a b : Int × Int) : Int × Int := low (a.1 * b.1) (a.2 * b.2)
def fDiv (a b : Int × Int) : Int × Int := low (a.1 * b.2) (a.2 * b.1)
def okU (a b : Int × Int) : Prop := a.2 ≠ 0 ∧ b.2 ≠ 0
def okD (a b : Int × Int) : Prop := a.2 ≠ 0 ∧ b.1 ≠ 0
theorem mul4 {i j : Int} (ha : i.natAbs < 2 ^ 4000) (hb : j.natAbs < 2 ^ 4000) : CMulW i j := wide_mul ha hb (by decide) (by decide) (by decide)
theorem mul8 {i j : Int} (ha : i.natAbs < 2 ^ 4000) (hb : j.natAbs < 2 ^ 4000) : (i * j).natAbs < 2 ^ 8000 := wide_lt ha hb
theorem ok_sum_of (T : Txt K mg A) : FnOk P w K mg base CX0 2 A.f_sum_of A.d_sum_of ["one", "other"] (spPP K fAdd okU) := by
  refine T.sum_of.F.ok sc_sum_of (fun vs H Q E h => ?_) (fun cdv A' outer s H vs Q E hr h => ?_)
  · obtain ⟨t, u, _, _, rfl, _⟩ := h; rfl
  · obtain ⟨v, u, a, b, rfl, ⟨p, rfl, hp⟩, ⟨r, rfl, hq⟩, ⟨a1, a2⟩, ⟨b1, b2⟩, ⟨h3, h4⟩, q⟩ := h
    refine ⟨_, (pss_one (ps_ret (pe_call (ok_lowest T) (hr.mono (by decide)) (by rfl) T.lowest.g T.lowest.F.kp T.lowest.b .nil pass0 (pa_cons (pe_op op_add (pe_op op_mulW (pe_ix ix_tup (pv 0) pe_int (fun _ _ => rfl)) (pe_ix ix_tup (pv 1) pe_int (fun _ _ => rfl))) (pe_op op_mulW (pe_ix ix_tup (pv 1) pe_int (fun _ _ => rfl)) (pe_ix ix_tup (pv 0) pe_int (fun _ _ => rfl)))) (pa_cons (pe_op op_mulW (pe_ix ix_tup (pv 0) pe_int (fun _ _ => rfl)) (pe_ix ix_tup (pv 1) pe_int (fun _ _ => rfl))) pa_nil))))), ?_⟩
    walk_at "vc"
    refine ixT hp rfl (ixT hq rfl ⟨_, rfl, _, rfl, mul4 a1 b2, ixT hq rfl (ixT hp rfl ⟨_, rfl, _, rfl, mul4 b1 a2, ixT hp rfl (ixT hq rfl ⟨_, rfl, _, rfl, mul4 a2 b2, ?_⟩)⟩)⟩)
    exact ⟨_, _, rfl, Int.mul_ne_zero h3 h4, mul8 a2 b2, q⟩
theorem ok_difference (T : Txt K mg A) : FnOk P w K mg base CX0 2 A.f_difference A.d_difference ["one", "other"] (spPP K fSub okU) := by
  refine T.difference.F.ok sc_difference (fun vs H Q E h => ?_) (fun cdv A' outer s H vs Q E hr h => ?_)
  · obtain ⟨t, u, _, _, rfl, _⟩ := h; rfl
  · obtain ⟨v, u, a, b, rfl, ⟨p, rfl, hp⟩, ⟨r, rfl, hq⟩, ⟨a1, a2⟩, ⟨b1, b2⟩, ⟨h3, h4⟩, q⟩ := h
    refine ⟨_, (pss_one (ps_ret (pe_call (ok_lowest T) (hr.mono (by decide)) (by rfl) T.lowest.g T.lowest.F.kp T.lowest.b .nil pass0 (pa_cons (pe_op op_sub (pe_op op_mulW (pe_ix ix_tup (pv 0) pe_int (fun _ _ => rfl)) (pe_ix ix_tup (pv 1) pe_int (fun _ _ => rfl))) (pe_op op_mulW (pe_ix ix_tup (pv 1) pe_int (fun _ _ => rfl)) (pe_ix ix_tup (pv 0) pe_int (fun _ _ => rfl)))) (pa_cons (pe_op op_mulW (pe_ix ix_tup (pv 0) pe_int (fun _ _ => rfl)) (pe_ix ix_tup (pv 1) pe_int (fun _ _ => rfl))) pa_nil))))), ?_⟩
    walk_at "vc"
    refine ixT hp rfl (ixT hq rfl ⟨_, rfl, _, rfl, mul4 a1 b2, ixT hq rfl (ixT hp rfl ⟨_, rfl, _, rfl, mul4 b1 a2, ixT hp rfl (ixT hq rfl ⟨_, rfl, _, rfl, mul4 a2 b2, ?_⟩)⟩)⟩)
    exact ⟨_, _, rfl, Int.mul_ne_zero h3 h4, mul8 a2 b2, q⟩
theorem ok_product_of (T : Txt K mg A) : FnOk P w K mg base CX0 2 A.f_product_of A.d_product_of ["one", "other"] (spPP K fMul okU) := by
  refine T.product_of.F.ok sc_product_of (fun vs H Q E h => ?_) (fun cdv A' outer s H vs Q E hr h => ?_)
  · obtain ⟨t, u, _, _, rfl, _⟩ := h; rfl
  · obtain ⟨v, u, a, b, rfl, ⟨p, rfl, hp⟩, ⟨r, rfl, hq⟩, ⟨a1, a2⟩, ⟨b1, b2⟩, ⟨h3, h4⟩, q⟩ := h
    refine ⟨_, (pss_one (ps_ret (pe_call (ok_lowest T) (hr.mono (by decide)) (by rfl) T.lowest.g T.lowest.F.kp T.lowest.b .nil pass0 (pa_cons (pe_op op_mulW (pe_ix ix_tup (pv 0) pe_int (fun _ _ => rfl)) (pe_ix ix_tup (pv 1) pe_int (fun _ _ => rfl))) (pa_cons (pe_op op_mulW (pe_ix ix_tup (pv 0) pe_int (fun _ _ => rfl)) (pe_ix ix_tup (pv 1) pe_int (fun _ _ => rfl))) pa_nil))))), ?_⟩
    walk_at "vc"
    refine ixT hp rfl (ixT hq rfl ⟨_, rfl, _, rfl, mul4 a1 b1, ixT hp rfl (ixT hq rfl ⟨_, rfl, _, rfl, mul4 a2 b2, ?_⟩)⟩)
    exact ⟨_, _, rfl, Int.mul_ne_zero h3 h4, mul8 a2 b2, q⟩
def spIsInteger (K : PySem.W.Frag) : Sp := fun vs H Q _ => ∃ v U, vs = [v] ∧ TyN K H v U ∧ RetV H (.bl (U == "int")) Q
theorem ok_is_integer (T : Txt K mg A) : FnOk P w K mg base CX0 1 A.f_is_integer A.d_is_integer ["value"] (spIsInteger K) := by
  refine T.is_integer.F.ok sc_is_integer (fun vs H Q E h => ?_) (fun cdv A' outer s H vs Q E hr h => ?_)
  · obtain ⟨_, _, rfl, _⟩ := h; rfl
  · obtain ⟨v, U, rfl, hv, q⟩ := h
    refine ⟨_, (pss_one (ps_ret (pe_and (pe_callB call_isi (by rfl) T.n_isinstance bt_isinstance (pa_cons (pv 0) (pa_cons (pe_bltn (v := .ty "int") (by rfl) T.n_int bt_int rfl) pa_nil))) (pe_one (pe_not (pe_callB call_isi (by rfl) T.n_isinstance bt_isinstance (pa_cons (pv 0) (pa_cons (pe_bltn (v := .ty "bool") (by rfl) T.n_bool bt_bool rfl) pa_nil)))))))), ?_⟩
    walk_at "vc"
    have q := q H (Same.refl H)
    refine ty_int hv ⟨_, rfl, ?_⟩
    cases e : (U == "int" || U == "bool") with
    | true =>
      refine iteT (ty_bool hv ⟨_, rfl, ?_⟩)
      rw [← is_int U hv, e] at q
      exact q
    | false =>
      refine iteF ?_
      rw [← is_int U hv, e] at q
      exact q
def spWithin (K : PySem.W.Frag) : Sp := fun vs H Q _ => ∃ v lo hi, vs = [v, optV lo, optV hi] ∧ ((∃ U, TyN K H v U ∧ U ≠ "int" ∧ RetV H (.bl false) Q) ∨ ∃ n, v = .int n ∧ RetV H (.bl (lo.all (fun l => decide (l ≤ n)) && hi.all (fun m => decide (n ≤ m)))) Q)
theorem ok_is_within (T : Txt K mg A) : FnOk P w K mg base CX0 2 A.f_is_within A.d_is_within ["value", "least", "most"] (spWithin K) := by
  refine T.is_within.F.ok sc_is_within (fun vs H Q E h => ?_) (fun cdv A' outer s H vs Q E hr h => ?_)
  · obtain ⟨_, _, _, rfl, _⟩ := h; rfl
  · obtain ⟨v, lo, hi, rfl, h⟩ := h
    refine ⟨_, (pss_cons (ps_if (pt_not (pt_val (pe_call (ok_is_integer T) (hr.mono (by decide)) (by rfl) T.is_integer.g T.is_integer.F.kp T.is_integer.b .nil pass0 (pa_cons (pv 0) pa_nil)))) (pss_one (ps_ret pe_bl)) pss_nil)
      (pss_cons (ps_if (PW.pt (pw_and (pt_cmpR op_notN (pv 1) pe_non (nomark _)) (pw_and1 (pt_cmpR op_lt (pv 0) (pv 1) (nomark _))))) (pss_one (ps_ret pe_bl)) pss_nil)
      (pss_one (ps_ret (pe_or (pe_cmpR op_isN (pv 2) pe_non (nomark _)) (pe_one (pe_cmpR op_le (pv 0) (pv 2) (nomark _)))))))), ?_⟩
    walk_at "vc"
    rcases h with ⟨U, hv, hU, q⟩ | ⟨n, rfl, q⟩
    · refine ⟨v, U, rfl, hv, fun H' sH => ⟨_, rfl, ?_⟩⟩
      rw [beq_false_of_ne hU]
      exact q H' sH
    · refine ⟨_, _, rfl, .int n, fun H' sH => ⟨_, rfl, ?_⟩⟩
      have q := q H' sH
      rw [if_neg (by decide)]
      cases lo with
      | none =>
        cases hi with
        | none => walk_at "vc"; exact q
        | some m => walk_at "vc"; simpa using q
      | some l =>
        by_cases hl : l ≤ n
        · cases hi with
          | none =>
            have hl' : ¬ n < l := by omega
            simp [hl, hl'] at q ⊢
            exact q
          | some m =>
            have hl' : ¬ n < l := by omega
            simp [hl, hl'] at q ⊢
            exact q
        · have hl' : n < l := by omega
          cases hi with
          | none =>
            simp [hl, hl'] at q ⊢
            exact q
          | some m =>
            simp [hl, hl'] at q ⊢
            exact q
def spIsRow (K : PySem.W.Frag) : Sp := fun vs H Q _ => ∃ v U, vs = [v] ∧ TyN K H v U ∧ RetV H (.bl (U == "list" || U == "tuple")) Q
theorem ok_is_row (T : Txt K mg A) : FnOk P w K mg base CX0 1 A.f_is_row A.d_is_row ["value"] (spIsRow K) := by
  refine T.is_row.F.ok sc_is_row (fun vs H Q E h => ?_) (fun cdv A' outer s H vs Q E hr h => ?_)
  · obtain ⟨_, _, rfl, _⟩ := h; rfl
  · obtain ⟨v, U, rfl, hv, q⟩ := h
    refine ⟨_, (pss_one (ps_ret (pe_callB call_isiT (by rfl) T.n_isinstance bt_isinstance (pa_cons (pv 0) (pa_cons (pe_tup (pa_cons (pe_bltn (v := .ty "list") (by rfl) T.n_list bt_list rfl) (pa_cons (pe_bltn (v := .ty "tuple") (by rfl) T.n_tuple bt_tuple rfl) pa_nil))) pa_nil))))), ?_⟩
    walk_at "vc"
    refine ⟨by decide, fun p hp => ?_⟩
    have sp := same_upd (o := .tup [.ty "list", .ty "tuple"]) hp
    exact ty_row (hv.same sp) upd_same (q _ sp)
/-- is_pair: a list or tuple of two | no list, no tuple | one of another length -/
def spIsPair (K : PySem.W.Frag) : Sp := fun vs H Q _ => ∃ v, vs = [v] ∧ ((∃ U, TyN K H v U ∧ U ≠ "list" ∧ U ≠ "tuple" ∧ RetV H (.bl false) Q) ∨ (∃ p xs, v = .ref p ∧ Sq K H p xs ∧ RetV H (.bl (decide (xs.length = 2))) Q))
theorem ok_is_pair (T : Txt K mg A) : FnOk P w K mg base CX0 2 A.f_is_pair A.d_is_pair ["value"] (spIsPair K) := by
  refine T.is_pair.F.ok sc_is_pair (fun vs H Q E h => ?_) (fun cdv A' outer s H vs Q E hr h => ?_)
  · obtain ⟨_, rfl, _⟩ := h; rfl
  · obtain ⟨v, rfl, h⟩ := h
    refine ⟨_, (pss_one (ps_ret (pe_and (pe_call (ok_is_row T) (hr.mono (by decide)) (by rfl) T.is_row.g T.is_row.F.kp T.is_row.b .nil pass0 (pa_cons (pv 0) pa_nil)) (pe_one (pe_cmpR op_eq (pe_callB call_len_seq (by rfl) T.n_len bt_len (pa_cons (pv 0) pa_nil)) pe_int (nomark _)))))), ?_⟩
    walk_at "vc"
    rcases h with ⟨U, hv, h1, h2, q⟩ | ⟨p, xs, rfl, hx, q⟩
    · refine ⟨v, U, rfl, hv, fun H' sH => ⟨_, rfl, ?_⟩⟩
      rw [beq_false_of_ne h1, beq_false_of_ne h2]
      exact iteF (q H' sH)
    · obtain ⟨U, hU, e⟩ := hx.ty
      refine ⟨_, U, rfl, hU, fun H' sH => ⟨_, rfl, ?_⟩⟩
      rw [e]
      refine iteT ?_
      walk_at "vc"
      have q := q H' sH
      have e2 : decide ((xs.length : Int) = 2) = decide (xs.length = 2) := by
        by_cases z : xs.length = 2
        · rw [decide_eq_true z, decide_eq_true (by omega)]
        · rw [decide_eq_false z, decide_eq_false (by omega)]
      refine ⟨xs, hx.same sH, rfl, ?_⟩
      rw [e2]
      exact q
def spIsNumber (K : PySem.W.Frag) : Sp := fun vs H Q _ => ∃ v, vs = [v] ∧ ((∃ q, Num K H v q ∧ RetV H (.bl true) Q) ∨ (Bad K H v ∧ RetV H (.bl false) Q))
theorem ok_is_number (T : Txt K mg A) : FnOk P w K mg base CX0 3 A.f_is_number A.d_is_number ["value"] (spIsNumber K) := by
  refine T.is_number.F.ok sc_is_number (fun vs H Q E h => ?_) (fun cdv A' outer s H vs Q E hr h => ?_)
  · obtain ⟨_, rfl, _⟩ := h; rfl
  · obtain ⟨v, rfl, h⟩ := h
    refine ⟨_, (pss_cons (ps_if (pt_not (pt_val (pe_call (ok_is_pair T) (hr.mono (by decide)) (by rfl) T.is_pair.g T.is_pair.F.kp T.is_pair.b .nil pass0 (pa_cons (pv 0) pa_nil)))) (pss_one (ps_ret (pe_call (ok_is_integer T) (hr.mono (by decide)) (by rfl) T.is_integer.g T.is_integer.F.kp T.is_integer.b .nil pass0 (pa_cons (pv 0) pa_nil)))) pss_nil)
      (pss_cons (ps_asg (pv 0) (pg_seq2 rfl (pgs_cons (pg_name (i := 1) sc_is_number.nd rfl (.inl rfl)) (pgs_cons (pg_name (i := 2) sc_is_number.nd rfl (.inl rfl)) pgs_nil))))
      (pss_one (ps_ret (pe_and (pe_call (ok_is_integer T) (hr.mono (by decide)) (by rfl) T.is_integer.g T.is_integer.F.kp T.is_integer.b .nil pass0 (pa_cons (pv 1) pa_nil)) (pe_and (pe_call (ok_is_within T) (hr.mono (by decide)) (by rfl) T.is_within.g T.is_within.F.kp T.is_within.b .nil pass0 (pa_cons (pv 2) (pa_cons pe_int (pa_cons pe_non pa_nil)))) (pe_one (pe_cmpR op_eq (pe_callBfun cr_gcd (by rfl) T.g_gcd (pa_cons (pv 1) (pa_cons (pv 2) pa_nil))) pe_int (nomark _))))))))), ?_⟩
    walk_at "vc"
    have ok : ∀ (p : Addr) (a b : Int) (c : Bool), (c = true ↔ Canon (a, b)) → RetV H (.bl c) Q → ∀ a' b' : Int, V.int a = .int a' → V.int b = .int b' → RetV H (.bl (decide (1 ≤ b') && decide (((Nat.gcd a'.natAbs b'.natAbs : Nat) : Int) = 1))) Q := fun p a b c hc q a' b' e1 e2 => by
      cases e1
      cases e2
      have : (decide (1 ≤ b) && decide (((Nat.gcd a.natAbs b.natAbs : Nat) : Int) = 1)) = c := by
        rw [Bool.eq_iff_iff, hc, Bool.and_eq_true, decide_eq_true_eq, decide_eq_true_eq]
        constructor
        · rintro ⟨z1, z2⟩; exact ⟨z1, by exact_mod_cast z2⟩
        · rintro ⟨z1, z2⟩; exact ⟨z1, by exact_mod_cast z2⟩
      rw [this]
      exact q
    have all : (∃ U : String, TyN K H v U ∧ U ≠ "list" ∧ U ≠ "tuple" ∧ RetV H (.bl (U == "int")) Q) ∨ (∃ p xs, v = .ref p ∧ Sq K H p xs ∧ xs.length ≠ 2 ∧ RetV H (.bl false) Q) ∨
        (∃ (p : Addr) (x y : V) (U W : String), v = .ref p ∧ Sq K H p [x, y] ∧ TyN K H x U ∧ TyN K H y W ∧
        (U ≠ "int" → RetV H (.bl false) Q) ∧ (∀ a : Int, x = .int a → W ≠ "int" → RetV H (.bl false) Q) ∧
        (∀ a b : Int, x = .int a → y = .int b → RetV H (.bl (decide (1 ≤ b) && decide (((Nat.gcd a.natAbs b.natAbs : Nat) : Int) = 1))) Q)) := by
      rcases h with ⟨q, hn, hq⟩ | ⟨hb, hq⟩
      · cases hn with
        | int n => exact .inl ⟨_, .int n, by decide, by decide, hq⟩
        | sq h c => exact .inr (.inr ⟨_, _, _, _, _, rfl, h, .int _, .int _, fun z => absurd rfl z, fun _ _ z => absurd rfl z, ok 0 _ _ true ⟨fun _ => c, fun _ => rfl⟩ hq⟩)
      · cases hb with
        | scal h h1 h2 h3 => exact .inl ⟨_, h, h2, h3, by rw [beq_false_of_ne h1]; exact hq⟩
        | len h l => exact .inr (.inl ⟨_, _, rfl, h, l, hq⟩)
        | top h hx hT hy => exact .inr (.inr ⟨_, _, _, _, _, rfl, h, hx, hy, fun _ => hq, fun a e _ => by subst e; cases hx; exact absurd rfl hT, fun a b e _ => by subst e; cases hx; exact absurd rfl hT⟩)
        | und h hy hU => exact .inr (.inr ⟨_, _, _, _, _, rfl, h, .int _, hy, fun z => absurd rfl z, fun _ _ _ => hq, fun a b _ e => by subst e; cases hy; exact absurd rfl hU⟩)
        | low h c => exact .inr (.inr ⟨_, _, _, _, _, rfl, h, .int _, .int _, fun z => absurd rfl z, fun _ _ z => absurd rfl z, ok 0 _ _ false ⟨fun z => Bool.noConfusion z, fun z => absurd z c⟩ hq⟩)
    rcases all with ⟨U, hU, h1, h2, q⟩ | ⟨p, xs, rfl, hx, l, q⟩ | ⟨p, x, y, U, W, rfl, hs, hx, hy, q1, q2, q3⟩
    · refine ⟨v, rfl, .inl ⟨U, hU, h1, h2, fun H1 s1 => ⟨_, rfl, ?_⟩⟩⟩
      exact iteN ⟨v, U, rfl, hU.same s1, q.same s1⟩
    · obtain ⟨U, hU, e⟩ := hx.ty
      have hi : (U == "int") = false := by cases hU <;> decide
      refine ⟨_, rfl, .inr ⟨p, xs, rfl, hx, fun H1 s1 => ⟨_, rfl, ?_⟩⟩⟩
      rw [decide_eq_false l]
      refine iteN ⟨_, U, rfl, hU.same s1, ?_⟩
      rw [hi]
      exact q.same s1
    · refine ⟨_, rfl, .inr ⟨p, [x, y], rfl, hs, fun H1 s1 => ⟨_, rfl, ?_⟩⟩⟩
      refine iteF' rfl ⟨p, rfl, _, hs.same s1, rfl, _, _, rfl, _, _, rfl, rfl, x, U, rfl, hx.same s1, fun H2 s2 => ⟨_, rfl, ?_⟩⟩
      by_cases hU : U = "int"
      · obtain ⟨a, rfl⟩ := hx.intI hU
        subst hU
        refine iteT ?_
        by_cases hW : W = "int"
        · obtain ⟨b, rfl⟩ := hy.intI hW
          subst hW
          refine ⟨_, some 1, none, rfl, .inr ⟨b, rfl, fun H3 s3 => ⟨_, rfl, ?_⟩⟩⟩
          have q := q3 a b rfl rfl H3 ((s1.trans s2).trans s3)
          by_cases hb : 1 ≤ b
          · simp only [Option.all_some, Option.all_none, hb, decide_true, Bool.and_true, Bool.true_and, if_true] at q ⊢
            exact ⟨a, rfl, b, rfl, rfl, q⟩
          · simp only [Option.all_some, Option.all_none, hb, decide_false, Bool.and_true, Bool.false_and, Bool.false_eq_true, if_false] at q ⊢
            exact q
        · exact ⟨_, some 1, none, rfl, .inl ⟨W, (hy.same s1).same s2, hW, fun H3 s3 => ⟨_, rfl, by rw [if_neg Bool.false_ne_true]; exact q2 a rfl hW H3 ((s1.trans s2).trans s3)⟩⟩⟩
      · rw [beq_false_of_ne hU]
        exact iteF (q1 hU H2 (s1.trans s2))
theorem canon_ne {a : Int × Int} (h : Canon a) : a.2 ≠ 0 := by have := h.1; omega
end
end Odd
namespace Odd
open PySem PySem.Spec PyProof.Rows L2
local macro_rules | `(tactic| walk_at "vc") => `(tactic| simp only [tSeq, tAsg, gName, tCB, tCons, tNil, tVar, tC, tOp, tUn, rI0, rI, rU, tTup, tLst, tIfS, tTest, tB, tRet, tNext, rGcd, L2.start, List.map, List.set, List.replicate, List.cons_append, List.nil_append, List.length_cons, List.length_nil, List.getElem?_cons_succ, List.getElem?_cons_zero, Option.some.injEq, exists_eq_left', exists_eq_left, List.append_nil, List.cons.injEq, V.int.injEq, exists_and_left, and_true, true_and, and_assoc, exists_const, V.bl.injEq, V.ref.injEq, Nat.sub_self, Nat.reduceAdd, Nat.reduceSub, List.replicate_succ, List.replicate_zero, tAnd, tOr, tNot, tAndV, tOrV, tNotV, tIf, tCall, tCallK, tDrop, rEq, rNe, decide_eq_true_eq, Bool.not_eq_true', decide_eq_false_iff_not, Bool.false_eq_true, if_true, if_false, reduceIte, reduceCtorEq, tMkLow, tRaiseLow, rIsB, rNotB, tBreak, tPar, gSub, rSetL, tChain, gTup, gCons, gNil, gSeq, cx_K, cx_Kn, optV, V.str.injEq, Bool.not_true, Bool.not_false, false_and, and_false, or_false, false_or, exists_false, tCallN, tCallS, tPairs])
section
variable {P : Program} {w : World} {K : PySem.W.Frag} {mg : Str → Option Value} {base : Heap} {A : Ads}

/-! ### points -/
abbrev P2 := (Int × Int) × (Int × Int)
/-- a value passed for a point -/
def Pt (K : PySem.W.Frag) (H : Hp) (v : V) (p : P2) : Prop := ∃ a x y, v = .ref a ∧ Sq K H a [x, y] ∧ Num K H x p.1 ∧ Num K H y p.2
/-- a point as it is returned -/
def PP (K : PySem.W.Frag) (H : Hp) (v : V) (p : P2) : Prop := ∃ a x y, v = .ref a ∧ SqT K H a [x, y] ∧ Pr K H x p.1 ∧ Pr K H y p.2
theorem Pt.same {K : PySem.W.Frag} {H H' : Hp} {v : V} {p : P2} (s : Same H H') (h : Pt K H v p) : Pt K H' v p := by
  obtain ⟨a, x, y, e, h, hx, hy⟩ := h
  exact ⟨a, x, y, e, h.same s, hx.same s, hy.same s⟩
theorem PP.same {K : PySem.W.Frag} {H H' : Hp} {v : V} {p : P2} (s : Same H H') (h : PP K H v p) : PP K H' v p := by
  obtain ⟨a, x, y, e, h, hx, hy⟩ := h
  exact ⟨a, x, y, e, same_tup s h, hx.same s, hy.same s⟩
/-- what is no point -/
inductive BadP (K : PySem.W.Frag) (H : Hp) : V → Prop
  | scal {v : V} {T : String} (h : TyN K H v T) (h2 : T ≠ "list") (h3 : T ≠ "tuple") : BadP K H v
  | len {p : Addr} {xs : List V} (h : Sq K H p xs) (l : xs.length ≠ 2) : BadP K H (.ref p)
  | fst {p : Addr} {x y : V} (h : Sq K H p [x, y]) (hx : Bad K H x) : BadP K H (.ref p)
  | snd {p : Addr} {x y : V} {a : Int × Int} (h : Sq K H p [x, y]) (hx : Num K H x a) (hy : Bad K H y) : BadP K H (.ref p)
theorem BadP.same {K : PySem.W.Frag} {H H' : Hp} {v : V} (s : Same H H') (h : BadP K H v) : BadP K H' v := by
  cases h with
  | scal h h2 h3 => exact .scal (h.same s) h2 h3
  | len h l => exact .len (h.same s) l
  | fst h hx => exact .fst (h.same s) (hx.same s)
  | snd h hx hy => exact .snd (h.same s) (hx.same s) (hy.same s)
def RetPP (K : PySem.W.Frag) (H : Hp) (p : P2) (Q : VK) : Prop := ∀ H' v, Same H H' → PP K H' v p → Q v H'
theorem RetPP.same {K : PySem.W.Frag} {H H' : Hp} {p : P2} {Q : VK} (s : Same H H') (h : RetPP K H p Q) : RetPP K H' p Q := fun H2 v s2 e => h H2 v (s.trans s2) e
/-- an item of a list or of a tuple -/
def rIxA (K : PySem.W.Frag) : R2 := fun x y H Q => ∃ p xs i v, x = .ref p ∧ y = .int i ∧ Sq K H p xs ∧ atI xs i = some v ∧ Q v H
theorem ix_any {X : Cx} : IxR X (rIxA X.K) := by
  intro vl sl pins s σ H x y v u Q I rx ry h hs
  obtain ⟨p, xs, i, z, e1, e2, hq, ha, q⟩ := h
  rcases hq with hq | hq
  · exact ix_list vl sl pins s σ H x y v u Q I rx ry ⟨p, xs, i, z, e1, e2, hq, ha, q⟩ hs
  · exact ix_tup vl sl pins s σ H x y v u Q I rx ry ⟨p, xs, i, z, e1, e2, hq, ha, q⟩ hs
theorem ixA {K : PySem.W.Frag} {H : Hp} {Q : VK} {p : Addr} {xs : List V} {v : V} {i : Int} (h : Sq K H p xs) (e : atI xs i = some v) (q : Q v H) : rIxA K (.ref p) (.int i) H Q := ⟨p, xs, i, v, rfl, rfl, h, e, q⟩
def CanonP (p : P2) : Prop := Canon p.1 ∧ Canon p.2
def SmP (N : Nat) (p : P2) : Prop := Sm N p.1 ∧ Sm N p.2
theorem Pt.canon {K : PySem.W.Frag} {H : Hp} {v : V} {p : P2} (h : Pt K H v p) : CanonP p := by
  obtain ⟨a, x, y, e, h, hx, hy⟩ := h
  exact ⟨hx.canon, hy.canon⟩
def fNeg (a : Int × Int) : Int × Int := (-a.1, a.2)
def vAdd (p q : P2) : P2 := (fAdd p.1 q.1, fAdd p.2 q.2)
def vSub (p q : P2) : P2 := (fSub p.1 q.1, fSub p.2 q.2)
def vMul (p : P2) (s : Int × Int) : P2 := (fMul p.1 s, fMul p.2 s)
def vTurn (p : P2) : P2 := (fNeg p.2, p.1)
def vCross (p q : P2) : Int × Int := fSub (fMul p.1 q.2) (fMul p.2 q.1)
def vDot (p q : P2) : Int × Int := fAdd (fMul p.1 q.1) (fMul p.2 q.2)
def spNeg (K : PySem.W.Frag) : Sp := fun vs H Q _ => ∃ v a, vs = [v] ∧ Pr K H v a ∧ RetP K H (fNeg a) Q
theorem ok_negative (T : Txt K mg A) : FnOk P w K mg base CX0 1 A.f_negative A.d_negative ["value"] (spNeg K) := by
  refine T.negative.F.ok sc_negative (fun vs H Q E h => ?_) (fun cdv A' outer s H vs Q E hr h => ?_)
  · obtain ⟨_, _, rfl, _⟩ := h; rfl
  · obtain ⟨v, a, rfl, ⟨p, rfl, hp⟩, q⟩ := h
    refine ⟨_, (pss_one (ps_ret (pe_tup (pa_cons (pe_un un_neg (pe_ix ix_tup (pv 0) pe_int (fun _ _ => rfl))) (pa_cons (pe_ix ix_tup (pv 0) pe_int (fun _ _ => rfl)) pa_nil))))), ?_⟩
    walk_at "vc"
    exact ixT hp rfl ⟨_, rfl, ixT hp rfl ⟨by decide, fun r hr => q _ r (same_upd hr) (st_of upd_same)⟩⟩
def spIsPoint (K : PySem.W.Frag) : Sp := fun vs H Q _ => ∃ v, vs = [v] ∧ ((∃ p, Pt K H v p ∧ RetV H (.bl true) Q) ∨ (BadP K H v ∧ RetV H (.bl false) Q))
theorem ok_is_point (T : Txt K mg A) : FnOk P w K mg base CX0 4 A.f_is_point A.d_is_point ["value"] (spIsPoint K) := by
  refine T.is_point.F.ok sc_is_point (fun vs H Q E h => ?_) (fun cdv A' outer s H vs Q E hr h => ?_)
  · obtain ⟨_, rfl, _⟩ := h; rfl
  · obtain ⟨v, rfl, h⟩ := h
    refine ⟨_, (pss_one (ps_ret (pe_and (pe_call (ok_is_pair T) (hr.mono (by decide)) (by rfl) T.is_pair.g T.is_pair.F.kp T.is_pair.b .nil pass0 (pa_cons (pv 0) pa_nil)) (pe_and (pe_call (ok_is_number T) (hr.mono (by decide)) (by rfl) T.is_number.g T.is_number.F.kp T.is_number.b .nil pass0 (pa_cons (pe_ix ix_any (pv 0) pe_int (fun _ _ => rfl)) pa_nil)) (pe_one (pe_call (ok_is_number T) (hr.mono (by decide)) (by rfl) T.is_number.g T.is_number.F.kp T.is_number.b .nil pass0 (pa_cons (pe_ix ix_any (pv 0) pe_int (fun _ _ => rfl)) pa_nil))))))), ?_⟩
    walk_at "vc"
    have all : (∃ U : String, TyN K H v U ∧ U ≠ "list" ∧ U ≠ "tuple" ∧ RetV H (.bl false) Q) ∨ (∃ p xs, v = .ref p ∧ Sq K H p xs ∧ xs.length ≠ 2 ∧ RetV H (.bl false) Q) ∨
        (∃ (p : Addr) (x y : V), v = .ref p ∧ Sq K H p [x, y] ∧ ((Bad K H x ∧ RetV H (.bl false) Q) ∨ (∃ a, Num K H x a ∧ ((Bad K H y ∧ RetV H (.bl false) Q) ∨ (∃ b, Num K H y b ∧ RetV H (.bl true) Q))))) := by
      rcases h with ⟨p, ⟨a, x, y, e, hs, hx, hy⟩, q⟩ | ⟨hb, q⟩
      · exact .inr (.inr ⟨a, x, y, e, hs, .inr ⟨_, hx, .inr ⟨_, hy, q⟩⟩⟩)
      · cases hb with
        | scal h h2 h3 => exact .inl ⟨_, h, h2, h3, q⟩
        | len h l => exact .inr (.inl ⟨_, _, rfl, h, l, q⟩)
        | fst h hx => exact .inr (.inr ⟨_, _, _, rfl, h, .inl ⟨hx, q⟩⟩)
        | snd h hx hy => exact .inr (.inr ⟨_, _, _, rfl, h, .inr ⟨_, hx, .inl ⟨hy, q⟩⟩⟩)
    rcases all with ⟨U, hU, h1, h2, q⟩ | ⟨p, xs, rfl, hx, l, q⟩ | ⟨p, x, y, rfl, hs, h⟩
    · refine ⟨v, rfl, .inl ⟨U, hU, h1, h2, fun H1 s1 => ⟨_, rfl, ?_⟩⟩⟩
      exact iteF (q H1 s1)
    · refine ⟨_, rfl, .inr ⟨p, xs, rfl, hx, fun H1 s1 => ⟨_, rfl, ?_⟩⟩⟩
      rw [decide_eq_false l]
      exact iteF (q H1 s1)
    · refine ⟨_, rfl, .inr ⟨p, _, rfl, hs, fun H1 s1 => ⟨_, rfl, ?_⟩⟩⟩
      refine iteT (ixA (hs.same s1) rfl ?_)
      rcases h with ⟨hx, q⟩ | ⟨a, hx, h⟩
      · exact ⟨x, rfl, .inr ⟨hx.same s1, fun H2 s2 => ⟨_, rfl, iteF (q H2 (s1.trans s2))⟩⟩⟩
      · refine ⟨x, rfl, .inl ⟨a, hx.same s1, fun H2 s2 => ⟨_, rfl, iteT (ixA (hs.same (s1.trans s2)) rfl ?_)⟩⟩⟩
        rcases h with ⟨hy, q⟩ | ⟨b, hy, q⟩
        · exact ⟨y, rfl, .inr ⟨hy.same (s1.trans s2), q.same (s1.trans s2)⟩⟩
        · exact ⟨y, rfl, .inl ⟨b, hy.same (s1.trans s2), q.same (s1.trans s2)⟩⟩
def spPointOf (K : PySem.W.Frag) : Sp := fun vs H Q _ => ∃ v p, vs = [v] ∧ Pt K H v p ∧ RetPP K H p Q
theorem ok_point_of (T : Txt K mg A) : FnOk P w K mg base CX0 2 A.f_point_of A.d_point_of ["value"] (spPointOf K) := by
  refine T.point_of.F.ok sc_point_of (fun vs H Q E h => ?_) (fun cdv A' outer s H vs Q E hr h => ?_)
  · obtain ⟨_, _, rfl, _⟩ := h; rfl
  · obtain ⟨v, ⟨a, b⟩, rfl, ⟨p, x, y, rfl, hs, hx, hy⟩, q⟩ := h
    refine ⟨_, (pss_one (ps_ret (pe_tup (pa_cons (pe_call (ok_pair_of T) (hr.mono (by decide)) (by rfl) T.pair_of.g T.pair_of.F.kp T.pair_of.b .nil pass0 (pa_cons (pe_ix ix_any (pv 0) pe_int (fun _ _ => rfl)) pa_nil)) (pa_cons (pe_call (ok_pair_of T) (hr.mono (by decide)) (by rfl) T.pair_of.g T.pair_of.F.kp T.pair_of.b .nil pass0 (pa_cons (pe_ix ix_any (pv 0) pe_int (fun _ _ => rfl)) pa_nil)) pa_nil))))), ?_⟩
    walk_at "vc"
    refine ixA hs rfl ⟨x, a, rfl, hx, fun H1 r1 s1 t1 => ?_⟩
    refine ixA (hs.same s1) rfl ⟨y, b, rfl, hy.same s1, fun H2 r2 s2 t2 => ⟨by decide, fun r hr => ?_⟩⟩
    have s3 := same_upd (o := .tup [.ref r1, .ref r2]) hr
    exact q _ _ ((s1.trans s2).trans s3) ⟨r, _, _, rfl, st_of upd_same, ⟨r1, rfl, same_tup (s2.trans s3) t1⟩, ⟨r2, rfl, same_tup s3 t2⟩⟩


theorem fSub_canon {a b : Int × Int} (ca : Canon a) (cb : Canon b) : Canon (fSub a b) := (low_is (Int.mul_ne_zero (canon_ne ca) (canon_ne cb))).1.1
theorem fAdd_canon {a b : Int × Int} (ca : Canon a) (cb : Canon b) : Canon (fAdd a b) := (low_is (Int.mul_ne_zero (canon_ne ca) (canon_ne cb))).1.1
theorem fMul_canon {a b : Int × Int} (ca : Canon a) (cb : Canon b) : Canon (fMul a b) := (low_is (Int.mul_ne_zero (canon_ne ca) (canon_ne cb))).1.1
theorem fNeg_canon {a : Int × Int} (ca : Canon a) : Canon (fNeg a) := ⟨ca.1, by show Nat.gcd (-a.1).natAbs a.2.natAbs = 1; rw [Int.natAbs_neg]; exact ca.2⟩
theorem pow_le {n m : Nat} (h : n ≤ m) : (2 : Nat) ^ n ≤ 2 ^ m := Nat.pow_le_pow_right (by decide) h
theorem Sm.up {n m : Nat} {q : Int × Int} (h : n ≤ m) (s : Sm n q) : Sm m q := ⟨Nat.lt_of_lt_of_le s.1 (pow_le h), Nat.lt_of_lt_of_le s.2 (pow_le h)⟩
theorem SmP.up {n m : Nat} {q : P2} (h : n ≤ m) (s : SmP n q) : SmP m q := ⟨s.1.up h, s.2.up h⟩
theorem two_pow (n : Nat) : (2 : Nat) ^ n + 2 ^ n = 2 ^ (n + 1) := by rw [Nat.pow_succ]; omega
theorem fMul_sm {n : Nat} {a b : Int × Int} (ca : Canon a) (cb : Canon b) (sa : Sm n a) (sb : Sm n b) : Sm (n + n) (fMul a b) := by
  obtain ⟨_, h2, h3⟩ := low_is (t := a.1 * b.1) (Int.mul_ne_zero (canon_ne ca) (canon_ne cb))
  exact ⟨Nat.lt_of_le_of_lt h2 (wide_lt sa.1 sb.1), Nat.lt_of_le_of_lt h3 (wide_lt sa.2 sb.2)⟩
theorem fSub_sm {n : Nat} {a b : Int × Int} (ca : Canon a) (cb : Canon b) (sa : Sm n a) (sb : Sm n b) : Sm (n + n + 1) (fSub a b) := by
  obtain ⟨_, h2, h3⟩ := low_is (t := a.1 * b.2 - b.1 * a.2) (Int.mul_ne_zero (canon_ne ca) (canon_ne cb))
  have m1 := wide_lt sa.1 sb.2
  have m2 := wide_lt sb.1 sa.2
  have e := two_pow (n + n)
  exact ⟨Nat.lt_of_le_of_lt h2 (by omega), Nat.lt_of_le_of_lt h3 (Nat.lt_of_lt_of_le (wide_lt sa.2 sb.2) (pow_le (by omega)))⟩
theorem fAdd_sm {n : Nat} {a b : Int × Int} (ca : Canon a) (cb : Canon b) (sa : Sm n a) (sb : Sm n b) : Sm (n + n + 1) (fAdd a b) := by
  obtain ⟨_, h2, h3⟩ := low_is (t := a.1 * b.2 + b.1 * a.2) (Int.mul_ne_zero (canon_ne ca) (canon_ne cb))
  have m1 := wide_lt sa.1 sb.2
  have m2 := wide_lt sb.1 sa.2
  have e := two_pow (n + n)
  exact ⟨Nat.lt_of_le_of_lt h2 (by omega), Nat.lt_of_le_of_lt h3 (Nat.lt_of_lt_of_le (wide_lt sa.2 sb.2) (pow_le (by omega)))⟩
theorem vSub_canon {p q : P2} (cp : CanonP p) (cq : CanonP q) : CanonP (vSub p q) := ⟨fSub_canon cp.1 cq.1, fSub_canon cp.2 cq.2⟩
theorem vMul_canon {p : P2} {s : Int × Int} (cp : CanonP p) (cs : Canon s) : CanonP (vMul p s) := ⟨fMul_canon cp.1 cs, fMul_canon cp.2 cs⟩
theorem vSub_sm {n : Nat} {p q : P2} (cp : CanonP p) (cq : CanonP q) (sp : SmP n p) (sq : SmP n q) : SmP (n + n + 1) (vSub p q) := ⟨fSub_sm cp.1 cq.1 sp.1 sq.1, fSub_sm cp.2 cq.2 sp.2 sq.2⟩
theorem vMul_sm {n : Nat} {p : P2} {s : Int × Int} (cp : CanonP p) (cs : Canon s) (sp : SmP n p) (ss : Sm n s) : SmP (n + n) (vMul p s) := ⟨fMul_sm cp.1 cs sp.1 ss, fMul_sm cp.2 cs sp.2 ss⟩
/-- a new point of two numbers -/
theorem pp_new {H : Hp} {r : Addr} {x y : V} {p : P2} (hr : H r = none) (hx : Pr K H x p.1) (hy : Pr K H y p.2) : PP K (upd H r (.tup [x, y])) (.ref r) p :=
  ⟨r, x, y, rfl, st_of upd_same, hx.same (same_upd hr), hy.same (same_upd hr)⟩
def spVV (K : PySem.W.Frag) (f : P2 → P2 → P2) : Sp := fun vs H Q _ => ∃ v u p q, vs = [v, u] ∧ PP K H v p ∧ PP K H u q ∧ CanonP p ∧ CanonP q ∧ SmP 4000 p ∧ SmP 4000 q ∧ RetPP K H (f p q) Q

theorem ok_way_between (T : Txt K mg A) : FnOk P w K mg base CX0 3 A.f_way_between A.d_way_between ["start", "end"] (spVV K (fun p q => vSub q p)) := by
  refine T.way_between.F.ok sc_way_between (fun vs H Q E h => ?_) (fun cdv A' outer s H vs Q E hr h => ?_)
  · obtain ⟨_, _, _, _, rfl, _⟩ := h; rfl
  · obtain ⟨v, u, p, q, rfl, ⟨a, x, y, rfl, ha, hx, hy⟩, ⟨b, z, t, rfl, hb, hz, ht⟩, cp, cq, sp, sq, ret⟩ := h
    refine ⟨_, (pss_one (ps_ret (pe_tup (pa_cons (pe_call (ok_difference T) (hr.mono (by decide)) (by rfl) T.difference.g T.difference.F.kp T.difference.b .nil pass0 (pa_cons (pe_ix ix_tup (pv 1) pe_int (fun _ _ => rfl)) (pa_cons (pe_ix ix_tup (pv 0) pe_int (fun _ _ => rfl)) pa_nil))) (pa_cons (pe_call (ok_difference T) (hr.mono (by decide)) (by rfl) T.difference.g T.difference.F.kp T.difference.b .nil pass0 (pa_cons (pe_ix ix_tup (pv 1) pe_int (fun _ _ => rfl)) (pa_cons (pe_ix ix_tup (pv 0) pe_int (fun _ _ => rfl)) pa_nil))) pa_nil))))), ?_⟩
    walk_at "vc"
    refine ixT hb rfl (ixT ha rfl ⟨z, x, _, _, rfl, hz, hx, sq.1, sp.1, ⟨canon_ne cq.1, canon_ne cp.1⟩, fun H1 r1 s1 t1 => ?_⟩)
    refine ixT (same_tup s1 hb) rfl (ixT (same_tup s1 ha) rfl ⟨t, y, _, _, rfl, ht.same s1, hy.same s1, sq.2, sp.2, ⟨canon_ne cq.2, canon_ne cp.2⟩, fun H2 r2 s2 t2 => ⟨by decide, fun r hr => ?_⟩⟩)
    exact ret _ _ ((s1.trans s2).trans (same_upd hr)) (pp_new hr ⟨r1, rfl, same_tup s2 t1⟩ ⟨r2, rfl, t2⟩)
def spVN (K : PySem.W.Frag) (f : P2 → P2 → Int × Int) : Sp := fun vs H Q _ => ∃ v u p q, vs = [v, u] ∧ PP K H v p ∧ PP K H u q ∧ CanonP p ∧ CanonP q ∧ SmP 2000 p ∧ SmP 2000 q ∧ RetP K H (f p q) Q
theorem ok_cross_of (T : Txt K mg A) : FnOk P w K mg base CX0 3 A.f_cross_of A.d_cross_of ["one", "other"] (spVN K vCross) := by
  refine T.cross_of.F.ok sc_cross_of (fun vs H Q E h => ?_) (fun cdv A' outer s H vs Q E hr h => ?_)
  · obtain ⟨_, _, _, _, rfl, _⟩ := h; rfl
  · obtain ⟨v, u, p, q, rfl, ⟨a, x, y, rfl, ha, hx, hy⟩, ⟨b, z, t, rfl, hb, hz, ht⟩, cp, cq, sp, sq, ret⟩ := h
    have sp4 := sp.up (m := 4000) (by decide)
    have sq4 := sq.up (m := 4000) (by decide)
    refine ⟨_, (pss_one (ps_ret (pe_call (ok_difference T) (hr.mono (by decide)) (by rfl) T.difference.g T.difference.F.kp T.difference.b .nil pass0 (pa_cons (pe_call (ok_product_of T) (hr.mono (by decide)) (by rfl) T.product_of.g T.product_of.F.kp T.product_of.b .nil pass0 (pa_cons (pe_ix ix_tup (pv 0) pe_int (fun _ _ => rfl)) (pa_cons (pe_ix ix_tup (pv 1) pe_int (fun _ _ => rfl)) pa_nil))) (pa_cons (pe_call (ok_product_of T) (hr.mono (by decide)) (by rfl) T.product_of.g T.product_of.F.kp T.product_of.b .nil pass0 (pa_cons (pe_ix ix_tup (pv 0) pe_int (fun _ _ => rfl)) (pa_cons (pe_ix ix_tup (pv 1) pe_int (fun _ _ => rfl)) pa_nil))) pa_nil))))), ?_⟩
    walk_at "vc"
    refine ixT ha rfl (ixT hb rfl ⟨x, t, _, _, rfl, hx, ht, sp4.1, sq4.2, ⟨canon_ne cp.1, canon_ne cq.2⟩, fun H1 r1 s1 t1 => ?_⟩)
    refine ixT (same_tup s1 ha) rfl (ixT (same_tup s1 hb) rfl ⟨y, z, _, _, rfl, hy.same s1, hz.same s1, sp4.2, sq4.1, ⟨canon_ne cp.2, canon_ne cq.1⟩, fun H2 r2 s2 t2 => ?_⟩)
    exact ⟨_, _, _, _, rfl, ⟨r1, rfl, same_tup s2 t1⟩, ⟨r2, rfl, t2⟩, fMul_sm cp.1 cq.2 sp.1 sq.2, fMul_sm cp.2 cq.1 sp.2 sq.1, ⟨canon_ne (fMul_canon cp.1 cq.2), canon_ne (fMul_canon cp.2 cq.1)⟩, ret.same (s1.trans s2)⟩
theorem ok_dot_of (T : Txt K mg A) : FnOk P w K mg base CX0 3 A.f_dot_of A.d_dot_of ["one", "other"] (spVN K vDot) := by
  refine T.dot_of.F.ok sc_dot_of (fun vs H Q E h => ?_) (fun cdv A' outer s H vs Q E hr h => ?_)
  · obtain ⟨_, _, _, _, rfl, _⟩ := h; rfl
  · obtain ⟨v, u, p, q, rfl, ⟨a, x, y, rfl, ha, hx, hy⟩, ⟨b, z, t, rfl, hb, hz, ht⟩, cp, cq, sp, sq, ret⟩ := h
    have sp4 := sp.up (m := 4000) (by decide)
    have sq4 := sq.up (m := 4000) (by decide)
    refine ⟨_, (pss_one (ps_ret (pe_call (ok_sum_of T) (hr.mono (by decide)) (by rfl) T.sum_of.g T.sum_of.F.kp T.sum_of.b .nil pass0 (pa_cons (pe_call (ok_product_of T) (hr.mono (by decide)) (by rfl) T.product_of.g T.product_of.F.kp T.product_of.b .nil pass0 (pa_cons (pe_ix ix_tup (pv 0) pe_int (fun _ _ => rfl)) (pa_cons (pe_ix ix_tup (pv 1) pe_int (fun _ _ => rfl)) pa_nil))) (pa_cons (pe_call (ok_product_of T) (hr.mono (by decide)) (by rfl) T.product_of.g T.product_of.F.kp T.product_of.b .nil pass0 (pa_cons (pe_ix ix_tup (pv 0) pe_int (fun _ _ => rfl)) (pa_cons (pe_ix ix_tup (pv 1) pe_int (fun _ _ => rfl)) pa_nil))) pa_nil))))), ?_⟩
    walk_at "vc"
    refine ixT ha rfl (ixT hb rfl ⟨x, z, _, _, rfl, hx, hz, sp4.1, sq4.1, ⟨canon_ne cp.1, canon_ne cq.1⟩, fun H1 r1 s1 t1 => ?_⟩)
    refine ixT (same_tup s1 ha) rfl (ixT (same_tup s1 hb) rfl ⟨y, t, _, _, rfl, hy.same s1, ht.same s1, sp4.2, sq4.2, ⟨canon_ne cp.2, canon_ne cq.2⟩, fun H2 r2 s2 t2 => ?_⟩)
    exact ⟨_, _, _, _, rfl, ⟨r1, rfl, same_tup s2 t1⟩, ⟨r2, rfl, t2⟩, fMul_sm cp.1 cq.1 sp.1 sq.1, fMul_sm cp.2 cq.2 sp.2 sq.2, ⟨canon_ne (fMul_canon cp.1 cq.1), canon_ne (fMul_canon cp.2 cq.2)⟩, ret.same (s1.trans s2)⟩


/-- what is walked is a list or a tuple -/
def iAny (K : PySem.W.Frag) (tl : TE) : TI := fun σ H R => tl σ H fun x H1 => ∃ a, x = .ref a ∧ (((∃ xs, SqL K H1 a xs) ∧ R (Itl K a) H1) ∨ ((∃ xs, SqT K H1 a xs) ∧ R (Itt K a) H1))
theorem pi_any {X : Cx} {tg l : Expr} {v : Nat} (hl : PE X l (tVar v)) : PI X tg l (iAny X.K (tVar v)) := by
  refine ⟨fun pins s σ H R I h => ?_⟩
  obtain ⟨x, hx, a, rfl, h⟩ := h
  rcases h with ⟨hs, q⟩ | ⟨hs, q⟩
  · exact (pi_list (tg := tg) hl).run pins s σ H R I ⟨_, hx, a, rfl, hs, q⟩
  · exact (pi_tup (tg := tg) hl).run pins s σ H R I ⟨_, hx, a, rfl, hs, q⟩
/-- each value is a point or none, as the truths tell -/
inductive Judg (K : PySem.W.Frag) (H : Hp) : List V → List Bool → Prop
  | nil : Judg K H [] []
  | yes {v : V} {vs : List V} {bs : List Bool} {p : P2} (h : Pt K H v p) (t : Judg K H vs bs) : Judg K H (v :: vs) (true :: bs)
  | no {v : V} {vs : List V} {bs : List Bool} (h : BadP K H v) (t : Judg K H vs bs) : Judg K H (v :: vs) (false :: bs)
theorem Judg.at {K : PySem.W.Frag} {H : Hp} {vs : List V} {bs : List Bool} (j : Judg K H vs bs) : ∀ {i : Nat} {x : V}, vs[i]? = some x → ∃ b, bs[i]? = some b ∧ ((b = true ∧ ∃ p, Pt K H x p) ∨ (b = false ∧ BadP K H x)) := by
  induction j with
  | nil => intro i x h; simp at h
  | @yes v vs bs p h t ih =>
    intro i x e
    cases i with
    | zero =>
      obtain rfl := Option.some.inj e
      exact ⟨true, rfl, .inl ⟨rfl, p, h⟩⟩
    | succ i => exact ih (i := i) e
  | @no v vs bs h t ih =>
    intro i x e
    cases i with
    | zero =>
      obtain rfl := Option.some.inj e
      exact ⟨false, rfl, .inr ⟨rfl, h⟩⟩
    | succ i => exact ih (i := i) e
theorem Judg.len {K : PySem.W.Frag} {H : Hp} : ∀ {vs : List V} {bs : List Bool}, Judg K H vs bs → bs.length = vs.length
  | _, _, .nil => rfl
  | _, _, .yes h t => congrArg Nat.succ t.len
  | _, _, .no h t => congrArg Nat.succ t.len
def spArePoints (K : PySem.W.Frag) : Sp := fun vs H Q _ => ∃ v lo hi, vs = [v, .int lo, .int hi] ∧
  ((∃ U, TyN K H v U ∧ U ≠ "list" ∧ U ≠ "tuple" ∧ RetV H (.bl false) Q) ∨
   (∃ p xs, v = .ref p ∧ Sq K H p xs ∧ ¬ (lo ≤ xs.length ∧ (xs.length : Int) ≤ hi) ∧ RetV H (.bl false) Q) ∨
   (∃ p xs bs, v = .ref p ∧ Sq K H p xs ∧ (lo ≤ xs.length ∧ (xs.length : Int) ≤ hi) ∧ xs.length ≤ 1000 ∧ Judg K H xs bs ∧ RetV H (.bl (bs.all id)) Q))
theorem ok_are_points (T : Txt K mg A) : FnOk P w K mg base CX0 5 A.f_are_points A.d_are_points ["value", "least", "most"] (spArePoints K) := by
  refine T.are_points.F.ok sc_are_points (fun vs H Q E h => ?_) (fun cdv A' outer s H vs Q E hr h => ?_)
  · obtain ⟨_, _, _, rfl, _⟩ := h; rfl
  · obtain ⟨v, lo, hi, rfl, h⟩ := h
    refine ⟨_, (pss_cons (ps_if (PW.pt (pw_or (pt_not (pt_val (pe_call (ok_is_row T) (hr.mono (by decide)) (by rfl) T.is_row.g T.is_row.F.kp T.is_row.b .nil pass0 (pa_cons (pv 0) pa_nil)))) (pw_or1 (pt_not (pt_val (pe_call (ok_is_within T) (hr.mono (by decide)) (by rfl) T.is_within.g T.is_within.F.kp T.is_within.b .nil pass0 (pa_cons (pe_callB call_len_seq (by rfl) T.n_len bt_len (pa_cons (pv 0) pa_nil)) (pa_cons (pv 1) (pa_cons (pv 2) pa_nil))))))))) (pss_one (ps_ret pe_bl)) pss_nil)
      (pss_one (ps_ret (pe_callB (cr_all rfl) (by rfl) T.n_all bt_all (pa_cons (pe_lc (own := [("item", 3)]) (g := gName 3) (tt := tYes) rfl sc_are_points.nd (pi_any (pv 0)) (blkOk_by (N := ["value", "least", "most", "item"]) (sc := defScope s_are_points) (by decide +kernel)) (fun _ _ _ _ _ => pg_name (i := 3) sc_are_points.nd rfl (Or.inl rfl)) (fun _ _ _ _ _ => pts_nil) (fun _ _ _ _ _ => pe_call (ok_is_point T) (hr.mono (by decide)) (by rfl) T.is_point.g T.is_point.F.kp T.is_point.b .nil pass0 (pa_cons (pv 3) pa_nil))) pa_nil))))), ?_⟩
    refine seq_by fun N hN => ?_
    walk_at "vc"
    rcases h with ⟨U, hU, h1, h2, q⟩ | ⟨p, xs, rfl, hx, hl, q⟩ | ⟨p, xs, bs, rfl, hx, hl, hm, hj, q⟩
    · refine ⟨v, U, rfl, hU, fun H1 s1 => ⟨_, rfl, ?_⟩⟩
      rw [beq_false_of_ne h1, beq_false_of_ne h2]
      exact iteN (q H1 s1)
    · obtain ⟨U, hU, e⟩ := hx.ty
      refine ⟨_, U, rfl, hU, fun H1 s1 => ⟨_, rfl, ?_⟩⟩
      rw [e]
      refine iteF' rfl ⟨p, rfl, xs, hx.same s1, _, some lo, some hi, rfl, .inr ⟨_, rfl, fun H2 s2 => ⟨_, rfl, ?_⟩⟩⟩
      have eb : ((some lo).all (fun l => decide (l ≤ (xs.length : Int))) && (some hi).all (fun m => decide ((xs.length : Int) ≤ m))) = false := by
        rw [Option.all_some, Option.all_some, ← Bool.decide_and]
        exact decide_eq_false hl
      rw [eb]
      exact iteN (q H2 (s1.trans s2))
    · obtain ⟨U, hU, e⟩ := hx.ty
      refine ⟨_, U, rfl, hU, fun H1 s1 => ⟨_, rfl, ?_⟩⟩
      rw [e]
      refine iteF' rfl ⟨p, rfl, xs, hx.same s1, _, some lo, some hi, rfl, .inr ⟨_, rfl, fun H2 s2 => ⟨_, rfl, ?_⟩⟩⟩
      have eb : ((some lo).all (fun l => decide (l ≤ (xs.length : Int))) && (some hi).all (fun m => decide ((xs.length : Int) ≤ m))) = true := by
        rw [Option.all_some, Option.all_some, ← Bool.decide_and]
        exact decide_eq_true hl
      rw [eb]
      refine iteF' rfl ?_
      have s02 := s1.trans s2
      subst hN
      have hlen := hj.len
      -- the truths, one by one
      have key : ∀ D : Addr, H2 D = none → ∀ i x H3, xs[i]? = some x → (Same H2 H3 ∧ H3 D = some (.lst ((bs.take i).map V.bl))) →
          gName 3 x (wipe [some (.ref p), some (.int lo), some (.int hi), none] [3]) H3 fun σ2 H4 => wipe σ2 [3] = wipe [some (.ref p), some (.int lo), some (.int hi), none] [3] ∧ tYes σ2 H4 fun b H5 =>
            if b = true then tCall (spIsPoint K) [] E0 (tCons (tVar 3) tNil) σ2 H5 fun y H6 => ∃ acc, H6 D = some (.lst acc) ∧ acc.length < sizeLine ∧ (fun i H => Same H2 H ∧ H D = some (.lst ((bs.take i).map V.bl))) (i + 1) (upd H6 D (.lst (acc ++ [y]))) else (fun i H => Same H2 H ∧ H D = some (.lst ((bs.take i).map V.bl))) (i + 1) H5 := by
        rintro D hD i x H3 hx ⟨s3, e3⟩
        obtain ⟨b, hb, hbx⟩ := hj.at hx
        refine ⟨rfl, ?_⟩
        simp only [tYes, if_true]
        have st := s02.trans s3
        have fin : ∀ H6, Same H3 H6 → ∃ acc, H6 D = some (.lst acc) ∧ acc.length < sizeLine ∧ Same H2 (upd H6 D (.lst (acc ++ [.bl b]))) ∧ upd H6 D (.lst (acc ++ [.bl b])) D = some (.lst ((bs.take (i + 1)).map V.bl)) := by
          intro H6 s6
          refine ⟨_, s6 _ _ e3, ?_, fun c o ec => ?_, ?_⟩
          · rw [List.length_map, List.length_take]
            exact small1000 (by omega)
          · rw [upd_ne (ne_of_none ec hD)]
            exact s6 _ _ (s3 _ _ ec)
          · rw [upd_same, List.take_add_one, hb, List.map_append]
            rfl
        rcases hbx with ⟨rfl, pt, hp⟩ | ⟨rfl, hp⟩
        · exact ⟨x, rfl, x, rfl, .inl ⟨pt, hp.same st, fun H6 s6 => fin H6 s6⟩⟩
        · exact ⟨x, rfl, x, rfl, .inr ⟨hp.same st, fun H6 s6 => fin H6 s6⟩⟩
      have last : ∀ D H', H2 D = none → (Same H2 H' ∧ H' D = some (.lst ((bs.take xs.length).map V.bl))) → ∃ (a : Addr) (bs' : List Bool), [V.ref D] = [V.ref a] ∧ SqL K H' a (bs'.map V.bl) ∧ Q (.bl (bs'.all id)) H' := by
        rintro D H' hD ⟨s3, e3⟩
        rw [← hlen, List.take_length] at e3
        exact ⟨D, bs, rfl, sl_of e3, q H' (s02.trans s3)⟩
      refine ⟨_, rfl, p, rfl, ?_⟩
      rcases hx.same s02 with hs | hs
      · refine .inl ⟨⟨_, hs⟩, fun D hD => ?_⟩
        exact lc_list (xs := xs) (fun i H3 => Same H2 H3 ∧ H3 D = some (.lst ((bs.take i).map V.bl))) ⟨same_upd hD, upd_same⟩ (fun i H3 _ h => h.1.seq hs) (key D hD) (fun H' h => last D H' hD h)
      · refine .inr ⟨⟨_, hs⟩, fun D hD => ?_⟩
        exact lc_tup (xs := xs) (fun i H3 => Same H2 H3 ∧ H3 D = some (.lst ((bs.take i).map V.bl))) ⟨same_upd hD, upd_same⟩ (fun i H3 _ h => same_tup h.1 hs) (key D hD) (fun H' h => last D H' hD h)

end
end Odd
set_option exponentiation.threshold 10000
namespace Odd
open PySem PySem.Spec PyProof.Rows L2
local macro_rules | `(tactic| walk_at "vc") => `(tactic| simp only [tSeq, tAsg, gName, tCB, tCons, tNil, tVar, tC, tOp, tUn, rI0, rI, rU, tTup, tLst, tIfS, tTest, tB, tRet, tNext, rGcd, L2.start, List.map, List.set, List.replicate, List.cons_append, List.nil_append, List.length_cons, List.length_nil, List.getElem?_cons_succ, List.getElem?_cons_zero, Option.some.injEq, exists_eq_left', exists_eq_left, List.append_nil, List.cons.injEq, V.int.injEq, exists_and_left, and_true, true_and, and_assoc, exists_const, V.bl.injEq, V.ref.injEq, Nat.sub_self, Nat.reduceAdd, Nat.reduceSub, List.replicate_succ, List.replicate_zero, tAnd, tOr, tNot, tAndV, tOrV, tNotV, tIf, tCall, tCallK, tDrop, rEq, rNe, decide_eq_true_eq, Bool.not_eq_true', decide_eq_false_iff_not, Bool.false_eq_true, if_true, if_false, reduceIte, reduceCtorEq, tMkLow, tRaiseLow, rIsB, rNotB, tBreak, tPar, gSub, rSetL, tChain, gTup, gCons, gNil, gSeq, cx_K, cx_Kn, optV, V.str.injEq, Bool.not_true, Bool.not_false, false_and, and_false, or_false, false_or, exists_false, tCallN, tCallS, tPairs])
def dPr (q : Int × Int) : PyData := .tuple [.int q.1, .int q.2]
def dPP (p : P2) : PyData := .tuple [dPr p.1, dPr p.2]
section
variable {P : Program} {w : World} {K : PySem.W.Frag} {mg : Str → Option Value} {base : Heap} {A : Ads}
theorem dp_pr {H : Hp} {v : V} {q : Int × Int} (h : Pr K H v q) : Dp K H v (dPr q) := by
  obtain ⟨p, rfl, h⟩ := h
  exact .tup h (.cons (.int _) (.cons (.int _) .nil))
theorem dp_pp {H : Hp} {v : V} {p : P2} (h : PP K H v p) : Dp K H v (dPP p) := by
  obtain ⟨a, x, y, rfl, h, hx, hy⟩ := h
  exact .tup h (.cons (dp_pr hx) (.cons (dp_pr hy) .nil))
theorem sh_pr (q : Int × Int) : SeqAt.shaped (dPr q) = true := by
  simp [dPr, SeqAt.shaped, PyData.canLay0, PyData.canLayAll0, PyData.depth, PyData.depthAll]
theorem sh_pp (p : P2) : SeqAt.shaped (dPP p) = true := by
  simp [dPP, dPr, SeqAt.shaped, PyData.canLay0, PyData.canLayAll0, PyData.depth, PyData.depthAll]
theorem eqv_pr (p q : Int × Int) : PyData.eqv (dPr p) (dPr q) = decide (p = q) := by
  obtain ⟨a, b⟩ := p
  obtain ⟨c, d⟩ := q
  rw [Bool.eq_iff_iff]
  simp [dPr, PyData.eqv, PyData.eqvAll]
theorem eqv_pp (p q : P2) : PyData.eqv (dPP p) (dPP q) = decide (p = q) := by
  obtain ⟨a, b⟩ := p
  obtain ⟨c, d⟩ := q
  have h1 := eqv_pr a c
  have h2 := eqv_pr b d
  rw [Bool.eq_iff_iff]
  simp [dPP, PyData.eqv, PyData.eqvAll, h1, h2]
/-- below, by products across -/
def fLt (a b : Int × Int) : Bool := decide (a.1 * b.2 < b.1 * a.2)
def spBelow (K : PySem.W.Frag) : Sp := fun vs H Q _ => ∃ v u a b, vs = [v, u] ∧ Pr K H v a ∧ Pr K H u b ∧ Sm 4000 a ∧ Sm 4000 b ∧ Q (.bl (fLt a b)) H
theorem ok_is_below (T : Txt K mg A) : FnOk P w K mg base CX0 1 A.f_is_below A.d_is_below ["one", "other"] (spBelow K) := by
  refine T.is_below.F.ok sc_is_below (fun vs H Q E h => ?_) (fun cdv A' outer s H vs Q E hr h => ?_)
  · obtain ⟨_, _, _, _, rfl, _⟩ := h; rfl
  · obtain ⟨v, u, a, b, rfl, ⟨p, rfl, hp⟩, ⟨r, rfl, hr'⟩, sa, sb, q⟩ := h
    refine ⟨_, (pss_one (ps_ret (pe_cmpR op_lt (pe_op op_mulW (pe_ix ix_tup (pv 0) pe_int (fun _ _ => rfl)) (pe_ix ix_tup (pv 1) pe_int (fun _ _ => rfl))) (pe_op op_mulW (pe_ix ix_tup (pv 1) pe_int (fun _ _ => rfl)) (pe_ix ix_tup (pv 0) pe_int (fun _ _ => rfl))) (nomark _)))), ?_⟩
    walk_at "vc"
    have sm : ∀ {i j : Int}, i.natAbs < 2 ^ 4000 → j.natAbs < 2 ^ 4000 → CMulW i j := fun h1 h2 => wide_mul h1 h2 (by decide) (by decide) (by decide)
    exact ixT hp rfl (ixT hr' rfl ⟨_, rfl, _, rfl, sm sa.1 sb.2, ixT hr' rfl (ixT hp rfl ⟨_, rfl, _, rfl, sm sb.1 sa.2, q⟩)⟩)
def spSign : Sp := fun vs H Q _ => ∃ a : Int, vs = [.int a] ∧ Q (.int a.sign) H
theorem ok_sign (T : Txt K mg A) : FnOk P w K mg base CX0 1 A.f_sign A.d_sign ["top"] spSign := by
  refine T.sign.F.ok sc_sign (fun vs H Q E h => ?_) (fun cdv A' outer s H vs Q E hr h => ?_)
  · obtain ⟨_, rfl, _⟩ := h; rfl
  · obtain ⟨a, rfl, q⟩ := h
    refine ⟨_, (pss_cons (ps_if (pt_cmpR op_gt (pv 0) pe_int (nomark _)) (pss_one (ps_ret pe_int)) pss_nil)
      (pss_cons (ps_if (pt_cmpR op_lt (pv 0) pe_int (nomark _)) (pss_one (ps_ret (pe_un un_neg pe_int))) pss_nil)
      (pss_one (ps_ret pe_int)))), ?_⟩
    walk_at "vc"
    split
    · rename_i h1
      rw [Int.sign_eq_one_of_pos h1] at q
      exact q
    · split
      · rename_i h1 h2
        rw [Int.sign_eq_neg_one_of_neg h2] at q
        exact q
      · rename_i h1 h2
        have : a = 0 := by omega
        subst this
        exact q
def lsA (a b : Int × Int) : Int := a.1 * b.2 - b.1 * a.2
def spLoose (K : PySem.W.Frag) : Sp := fun vs H Q _ => ∃ v u a b, vs = [v, u] ∧ Pr K H v a ∧ Pr K H u b ∧ Sm 900 a ∧ Sm 900 b ∧ RetP K H (lsA a b, a.2 * b.2) Q
theorem ok__loose (T : Txt K mg A) : FnOk P w K mg base CX0 1 A.f__loose A.d__loose ["one", "other"] (spLoose K) := by
  refine T._loose.F.ok sc__loose (fun vs H Q E h => ?_) (fun cdv A' outer s H vs Q E hr h => ?_)
  · obtain ⟨_, _, _, _, rfl, _⟩ := h; rfl
  · obtain ⟨v, u, a, b, rfl, ⟨p, rfl, hp⟩, ⟨r, rfl, hr'⟩, sa, sb, q⟩ := h
    refine ⟨_, (pss_one (ps_ret (pe_tup (pa_cons (pe_op op_sub (pe_op op_mulW (pe_ix ix_tup (pv 0) pe_int (fun _ _ => rfl)) (pe_ix ix_tup (pv 1) pe_int (fun _ _ => rfl))) (pe_op op_mulW (pe_ix ix_tup (pv 1) pe_int (fun _ _ => rfl)) (pe_ix ix_tup (pv 0) pe_int (fun _ _ => rfl)))) (pa_cons (pe_op op_mulW (pe_ix ix_tup (pv 0) pe_int (fun _ _ => rfl)) (pe_ix ix_tup (pv 1) pe_int (fun _ _ => rfl))) pa_nil))))), ?_⟩
    walk_at "vc"
    have sm : ∀ {i j : Int}, i.natAbs < 2 ^ 900 → j.natAbs < 2 ^ 900 → CMulW i j := fun h1 h2 => wide_mul h1 h2 (by decide) (by decide) (by decide)
    refine ixT hp rfl (ixT hr' rfl ⟨_, rfl, _, rfl, sm sa.1 sb.2, ixT hr' rfl (ixT hp rfl ⟨_, rfl, _, rfl, sm sb.1 sa.2, ixT hp rfl (ixT hr' rfl ⟨_, rfl, _, rfl, sm sa.2 sb.2, by decide, fun t ht => ?_⟩)⟩)⟩)
    exact q _ _ (same_upd ht) (st_of upd_same)
theorem lsA_sm {n : Nat} {a b : Int × Int} (sa : Sm n a) (sb : Sm n b) : (lsA a b).natAbs < 2 ^ (n + n + 1) ∧ (a.2 * b.2).natAbs < 2 ^ (n + n + 1) := by
  have m1 := wide_lt sa.1 sb.2
  have m2 := wide_lt sb.1 sa.2
  have m3 := wide_lt sa.2 sb.2
  have e := two_pow (n + n)
  unfold lsA
  exact ⟨by omega, Nat.lt_of_lt_of_le m3 (pow_le (by omega))⟩
/-- which way three points bend: what is judged by its sign -/
def bdN (p q r : P2) : Int := lsA q.1 p.1 * lsA r.2 p.2 * (q.2.2 * p.2.2) * (r.1.2 * p.1.2) - lsA q.2 p.2 * lsA r.1 p.1 * (q.1.2 * p.1.2) * (r.2.2 * p.2.2)
def spBend (K : PySem.W.Frag) : Sp := fun vs H Q _ => ∃ v u t p q r, vs = [v, u, t] ∧ PP K H v p ∧ PP K H u q ∧ PP K H t r ∧ SmP 900 p ∧ SmP 900 q ∧ SmP 900 r ∧ RetV H (.int (bdN p q r).sign) Q
theorem ok_bend (T : Txt K mg A) : FnOk P w K mg base CX0 2 A.f_bend A.d_bend ["start", "middle", "end"] (spBend K) := by
  refine T.bend.F.ok sc_bend (fun vs H Q E h => ?_) (fun cdv A' outer s H vs Q E hr h => ?_)
  · obtain ⟨_, _, _, _, _, _, rfl, _⟩ := h; rfl
  · obtain ⟨v, u, t, p, q, r, rfl, ⟨a, x, y, rfl, ha, hx, hy⟩, ⟨b, z, m, rfl, hb, hz, hm⟩, ⟨c, n, o, rfl, hc, hn, ho⟩, sp, sq, sr, ret⟩ := h
    refine ⟨_, (pss_cons (ps_asg (pe_call (ok__loose T) (hr.mono (by decide)) (by rfl) T._loose.g T._loose.F.kp T._loose.b .nil pass0 (pa_cons (pe_ix ix_tup (pv 1) pe_int (fun _ _ => rfl)) (pa_cons (pe_ix ix_tup (pv 0) pe_int (fun _ _ => rfl)) pa_nil))) (pg_tup rfl (pgs_cons (pg_name (i := 3) sc_bend.nd rfl (.inl rfl)) (pgs_cons (pg_name (i := 4) sc_bend.nd rfl (.inl rfl)) pgs_nil))))
      (pss_cons (ps_asg (pe_call (ok__loose T) (hr.mono (by decide)) (by rfl) T._loose.g T._loose.F.kp T._loose.b .nil pass0 (pa_cons (pe_ix ix_tup (pv 1) pe_int (fun _ _ => rfl)) (pa_cons (pe_ix ix_tup (pv 0) pe_int (fun _ _ => rfl)) pa_nil))) (pg_tup rfl (pgs_cons (pg_name (i := 5) sc_bend.nd rfl (.inl rfl)) (pgs_cons (pg_name (i := 6) sc_bend.nd rfl (.inl rfl)) pgs_nil))))
      (pss_cons (ps_asg (pe_call (ok__loose T) (hr.mono (by decide)) (by rfl) T._loose.g T._loose.F.kp T._loose.b .nil pass0 (pa_cons (pe_ix ix_tup (pv 2) pe_int (fun _ _ => rfl)) (pa_cons (pe_ix ix_tup (pv 0) pe_int (fun _ _ => rfl)) pa_nil))) (pg_tup rfl (pgs_cons (pg_name (i := 7) sc_bend.nd rfl (.inl rfl)) (pgs_cons (pg_name (i := 8) sc_bend.nd rfl (.inl rfl)) pgs_nil))))
      (pss_cons (ps_asg (pe_call (ok__loose T) (hr.mono (by decide)) (by rfl) T._loose.g T._loose.F.kp T._loose.b .nil pass0 (pa_cons (pe_ix ix_tup (pv 2) pe_int (fun _ _ => rfl)) (pa_cons (pe_ix ix_tup (pv 0) pe_int (fun _ _ => rfl)) pa_nil))) (pg_tup rfl (pgs_cons (pg_name (i := 9) sc_bend.nd rfl (.inl rfl)) (pgs_cons (pg_name (i := 10) sc_bend.nd rfl (.inl rfl)) pgs_nil))))
      (pss_one (ps_ret (pe_call (ok_sign T) (hr.mono (by decide)) (by rfl) T.sign.g T.sign.F.kp T.sign.b .nil pass0 (pa_cons (pe_op op_sub (pe_op op_mulW (pe_op op_mulW (pe_op op_mulW (pv 3) (pv 9)) (pv 6)) (pv 8)) (pe_op op_mulW (pe_op op_mulW (pe_op op_mulW (pv 5) (pv 7)) (pv 4)) (pv 10))) pa_nil)))))))), ?_⟩
    refine seq_by fun N hN => ?_
    walk_at "vc"
    refine ixT hb rfl (ixT ha rfl ⟨_, _, _, _, rfl, hz, hx, sq.1, sp.1, fun H1 r1 s1 t1 => ?_⟩)
    refine ⟨r1, rfl, _, t1, rfl, _, _, rfl, _, _, rfl, rfl, ?_⟩
    have ha1 := same_tup s1 ha; have hb1 := same_tup s1 hb; have hc1 := same_tup s1 hc
    have hx1 := hx.same s1; have hy1 := hy.same s1; have hm1 := hm.same s1; have hn1 := hn.same s1; have ho1 := ho.same s1
    clear ha hb hc hx hy hz hm hn ho
    subst hN
    refine seq_by fun N hN => ?_
    walk_at "vc"
    refine ixT hb1 rfl (ixT ha1 rfl ⟨_, _, _, _, rfl, hm1, hy1, sq.2, sp.2, fun H2 r2 s2 t2 => ?_⟩)
    refine ⟨r2, rfl, _, t2, rfl, _, _, rfl, _, _, rfl, rfl, ?_⟩
    have ha2 := same_tup s2 ha1; have hc2 := same_tup s2 hc1
    have hx2 := hx1.same s2; have hy2 := hy1.same s2; have hn2 := hn1.same s2; have ho2 := ho1.same s2
    clear ha1 hb1 hc1 hx1 hy1 hm1 hn1 ho1
    subst hN
    refine seq_by fun N hN => ?_
    walk_at "vc"
    refine ixT hc2 rfl (ixT ha2 rfl ⟨_, _, _, _, rfl, hn2, hx2, sr.1, sp.1, fun H3 r3 s3 t3 => ?_⟩)
    refine ⟨r3, rfl, _, t3, rfl, _, _, rfl, _, _, rfl, rfl, ?_⟩
    have ha3 := same_tup s3 ha2; have hc3 := same_tup s3 hc2; have hy3 := hy2.same s3; have ho3 := ho2.same s3
    clear ha2 hc2 hx2 hy2 hn2 ho2
    subst hN
    refine seq_by fun N hN => ?_
    walk_at "vc"
    refine ixT hc3 rfl (ixT ha3 rfl ⟨_, _, _, _, rfl, ho3, hy3, sr.2, sp.2, fun H4 r4 s4 t4 => ?_⟩)
    refine ⟨r4, rfl, _, t4, rfl, _, _, rfl, _, _, rfl, rfl, ?_⟩
    clear ha3 hc3 hy3 ho3
    subst hN
    walk_at "vc"
    obtain ⟨A1, A2⟩ := lsA_sm sq.1 sp.1
    obtain ⟨B1, B2⟩ := lsA_sm sq.2 sp.2
    obtain ⟨C1, C2⟩ := lsA_sm sr.1 sp.1
    obtain ⟨D1, D2⟩ := lsA_sm sr.2 sp.2
    have w2 : ∀ {i j : Int} {n m : Nat}, i.natAbs < 2 ^ n → j.natAbs < 2 ^ m → 0 < n → 0 < m → n + m ≤ 1000000 → CMulW i j := fun h1 h2 h3 h4 h5 => wide_mul h1 h2 h3 h4 h5
    have e1 := wide_lt A1 D1
    have e2 := wide_lt e1 B2
    have f1 := wide_lt B1 C1
    have f2 := wide_lt f1 A2
    refine ⟨w2 A1 D1 (by decide) (by decide) (by decide), w2 e1 B2 (by decide) (by decide) (by decide), w2 e2 C2 (by decide) (by decide) (by decide), w2 B1 C1 (by decide) (by decide) (by decide), w2 f1 A2 (by decide) (by decide) (by decide), w2 f2 D2 (by decide) (by decide) (by decide), ?_⟩
    exact ⟨_, rfl, ret H4 (((s1.trans s2).trans s3).trans s4)⟩
/-- ahead, by x and then by y -/
def lexB (p q : P2) : Bool := fLt p.1 q.1 || (decide (p.1 = q.1) && fLt p.2 q.2)
def spBefore (K : PySem.W.Frag) : Sp := fun vs H Q _ => ∃ v u p q, vs = [v, u] ∧ PP K H v p ∧ PP K H u q ∧ SmP 4000 p ∧ SmP 4000 q ∧ Q (.bl (lexB p q)) H
theorem ok_comes_before (T : Txt K mg A) : FnOk P w K mg base CX0 2 A.f_comes_before A.d_comes_before ["one", "other"] (spBefore K) := by
  refine T.comes_before.F.ok sc_comes_before (fun vs H Q E h => ?_) (fun cdv A' outer s H vs Q E hr h => ?_)
  · obtain ⟨_, _, _, _, rfl, _⟩ := h; rfl
  · obtain ⟨v, u, p, q, rfl, ⟨a, x, y, rfl, ha, hx, hy⟩, ⟨b, z, t, rfl, hb, hz, ht⟩, sp, sq, ret⟩ := h
    refine ⟨_, (pss_one (ps_ret (pe_or (pe_call (ok_is_below T) (hr.mono (by decide)) (by rfl) T.is_below.g T.is_below.F.kp T.is_below.b .nil pass0 (pa_cons (pe_ix ix_tup (pv 0) pe_int (fun _ _ => rfl)) (pa_cons (pe_ix ix_tup (pv 1) pe_int (fun _ _ => rfl)) pa_nil))) (pe_one (pe_and (pe_cmpR (op_eqD hr.units) (pe_ix ix_tup (pv 0) pe_int (fun _ _ => rfl)) (pe_ix ix_tup (pv 1) pe_int (fun _ _ => rfl)) (nomark _)) (pe_one (pe_call (ok_is_below T) (hr.mono (by decide)) (by rfl) T.is_below.g T.is_below.F.kp T.is_below.b .nil pass0 (pa_cons (pe_ix ix_tup (pv 0) pe_int (fun _ _ => rfl)) (pa_cons (pe_ix ix_tup (pv 1) pe_int (fun _ _ => rfl)) pa_nil))))))))), ?_⟩
    walk_at "vc"
    refine ixT ha rfl (ixT hb rfl ⟨x, z, _, _, rfl, hx, hz, sp.1, sq.1, _, rfl, ?_⟩)
    unfold lexB at ret
    cases e1 : fLt p.1 q.1 with
    | true =>
      rw [e1] at ret
      exact ret
    | false =>
      rw [e1, Bool.false_or] at ret
      refine iteF ?_
      refine ixT ha rfl (ixT hb rfl ⟨_, _, dp_pr hx, dp_pr hz, sh_pr _, sh_pr _, _, rfl, ?_⟩)
      rw [eqv_pr]
      cases e2 : decide (p.1 = q.1) with
      | false =>
        rw [e2] at ret
        exact ret
      | true =>
        rw [e2, Bool.true_and] at ret
        refine iteT ?_
        exact ixT ha rfl (ixT hb rfl ⟨y, t, _, _, rfl, hy, ht, sp.2, sq.2, ret⟩)
/-- a side: a tuple of two points -/
def Sd (K : PySem.W.Frag) (H : Hp) (v : V) (s : P2 × P2) : Prop := ∃ a x y, v = .ref a ∧ SqT K H a [x, y] ∧ PP K H x s.1 ∧ PP K H y s.2
theorem Sd.same {K : PySem.W.Frag} {H H' : Hp} {v : V} {p : P2 × P2} (s : Same H H') (h : Sd K H v p) : Sd K H' v p := by
  obtain ⟨a, x, y, e, h, hx, hy⟩ := h
  exact ⟨a, x, y, e, same_tup s h, hx.same s, hy.same s⟩
def ordS (s : P2 × P2) : P2 × P2 := if lexB s.2 s.1 = true then (s.2, s.1) else s
def SmS (N : Nat) (s : P2 × P2) : Prop := SmP N s.1 ∧ SmP N s.2
theorem ordS_sm {N : Nat} {s : P2 × P2} (h : SmS N s) : SmS N (ordS s) := by
  unfold ordS
  split
  · exact ⟨h.2, h.1⟩
  · exact h
def spOrdered (K : PySem.W.Frag) : Sp := fun vs H Q _ => ∃ v s, vs = [v] ∧ Sd K H v s ∧ SmS 4000 s ∧ ∀ H' u, Same H H' → Sd K H' u (ordS s) → Q u H'
theorem ok__ordered (T : Txt K mg A) : FnOk P w K mg base CX0 3 A.f__ordered A.d__ordered ["side"] (spOrdered K) := by
  refine T._ordered.F.ok sc__ordered (fun vs H Q E h => ?_) (fun cdv A' outer s H vs Q E hr h => ?_)
  · obtain ⟨_, _, rfl, _⟩ := h; rfl
  · obtain ⟨v, s, rfl, ⟨a, x, y, rfl, ha, hx, hy⟩, sm, ret⟩ := h
    refine ⟨_, (pss_cons (ps_if (pt_val (pe_call (ok_comes_before T) (hr.mono (by decide)) (by rfl) T.comes_before.g T.comes_before.F.kp T.comes_before.b .nil pass0 (pa_cons (pe_ix ix_tup (pv 0) pe_int (fun _ _ => rfl)) (pa_cons (pe_ix ix_tup (pv 0) pe_int (fun _ _ => rfl)) pa_nil)))) (pss_one (ps_ret (pe_tup (pa_cons (pe_ix ix_tup (pv 0) pe_int (fun _ _ => rfl)) (pa_cons (pe_ix ix_tup (pv 0) pe_int (fun _ _ => rfl)) pa_nil))))) pss_nil)
      (pss_one (ps_ret (pv 0)))), ?_⟩
    walk_at "vc"
    refine ixT ha rfl (ixT ha rfl ⟨y, x, _, _, rfl, hy, hx, sm.2, sm.1, _, rfl, ?_⟩)
    unfold ordS at ret
    split
    · rename_i h1
      rw [if_pos h1] at ret
      refine ixT ha rfl (ixT ha rfl ⟨by decide, fun t ht => ?_⟩)
      have st := same_upd (o := .tup [y, x]) ht
      exact ret _ _ st ⟨t, y, x, rfl, st_of upd_same, hy.same st, hx.same st⟩
    · rename_i h1
      rw [if_neg h1] at ret
      exact ret _ _ (Same.refl _) ⟨a, x, y, rfl, ha, hx, hy⟩
/-- two sides on one line have no point in common -/
def noShare (s t : P2 × P2) : Prop := lexB (if lexB (ordS t).2 (ordS s).2 = true then (ordS t).2 else (ordS s).2) (if lexB (ordS s).1 (ordS t).1 = true then (ordS t).1 else (ordS s).1) = true
def spStretch (K : PySem.W.Frag) : Sp := fun vs H Q _ => ∃ v u s t, vs = [v, u] ∧ Sd K H v s ∧ Sd K H u t ∧ SmS 4000 s ∧ SmS 4000 t ∧ noShare s t ∧ RetV H .non Q
theorem ok__shared_stretch (T : Txt K mg A) : FnOk P w K mg base CX0 4 A.f__shared_stretch A.d__shared_stretch ["one", "other"] (spStretch K) := by
  refine T._shared_stretch.F.ok sc__shared_stretch (fun vs H Q E h => ?_) (fun cdv A' outer s H vs Q E hr h => ?_)
  · obtain ⟨_, _, _, _, rfl, _⟩ := h; rfl
  · obtain ⟨v, u, s, t, rfl, hs, ht, ms, mt, no, ret⟩ := h
    refine ⟨_, (pss_cons (ps_asg (pe_call (ok__ordered T) (hr.mono (by decide)) (by rfl) T._ordered.g T._ordered.F.kp T._ordered.b .nil pass0 (pa_cons (pv 0) pa_nil)) (pg_tup rfl (pgs_cons (pg_name (i := 2) sc__shared_stretch.nd rfl (.inl rfl)) (pgs_cons (pg_name (i := 3) sc__shared_stretch.nd rfl (.inl rfl)) pgs_nil))))
      (pss_cons (ps_asg (pe_call (ok__ordered T) (hr.mono (by decide)) (by rfl) T._ordered.g T._ordered.F.kp T._ordered.b .nil pass0 (pa_cons (pv 1) pa_nil)) (pg_tup rfl (pgs_cons (pg_name (i := 4) sc__shared_stretch.nd rfl (.inl rfl)) (pgs_cons (pg_name (i := 5) sc__shared_stretch.nd rfl (.inl rfl)) pgs_nil))))
      (pss_cons (ps_if (pt_val (pe_call (ok_comes_before T) (hr.mono (by decide)) (by rfl) T.comes_before.g T.comes_before.F.kp T.comes_before.b .nil pass0 (pa_cons (pv 2) (pa_cons (pv 4) pa_nil)))) (pss_one (ps_set (i := 2) sc__shared_stretch.nd rfl (.inl rfl) (pv 4))) pss_nil)
      (pss_cons (ps_if (pt_val (pe_call (ok_comes_before T) (hr.mono (by decide)) (by rfl) T.comes_before.g T.comes_before.F.kp T.comes_before.b .nil pass0 (pa_cons (pv 5) (pa_cons (pv 3) pa_nil)))) (pss_one (ps_set (i := 3) sc__shared_stretch.nd rfl (.inl rfl) (pv 5))) pss_nil)
      (pss_cons (ps_if (pt_val (pe_call (ok_comes_before T) (hr.mono (by decide)) (by rfl) T.comes_before.g T.comes_before.F.kp T.comes_before.b .nil pass0 (pa_cons (pv 3) (pa_cons (pv 2) pa_nil)))) (pss_one (ps_ret pe_non)) pss_nil)
      (pss_one (ps_ret (pv 2)))))))), ?_⟩
    refine seq_by fun N hN => ?_
    walk_at "vc"
    refine ⟨_, _, rfl, hs, ms, fun H1 v1 s1 h1 => ?_⟩
    have ht1 := ht.same s1
    have ms1 := ordS_sm ms
    have mt1 := ordS_sm mt
    unfold noShare at no
    obtain ⟨a, x, y, rfl, ha, hx, hy⟩ := h1
    refine ⟨a, rfl, _, ha, rfl, _, _, rfl, _, _, rfl, rfl, ?_⟩
    subst hN
    refine seq_by fun N hN => ?_
    walk_at "vc"
    refine ⟨_, _, rfl, ht1, mt, fun H2 v2 s2 h2 => ?_⟩
    have hx := hx.same s2
    have hy := hy.same s2
    obtain ⟨b, z, m, rfl, hb, hz, hm⟩ := h2
    refine ⟨b, rfl, _, hb, rfl, _, _, rfl, _, _, rfl, rfl, ?_⟩
    clear ht ht1 hs ha hb
    generalize ordS s = S at *
    generalize ordS t = R at *
    subst hN
    refine seq_by fun N hN => ?_
    walk_at "vc"
    refine ⟨_, _, _, _, rfl, hx, hz, ms1.1, mt1.1, _, rfl, ?_⟩
    have S2 := s1.trans s2
    have key : ∀ (lo : V) (L : P2), PP K H2 lo L → SmP 4000 L → L = (if lexB S.1 R.1 = true then R.1 else S.1) → N [some v, some u, some lo, some y, some z, some m] H2 := by
      intro lo L hL mL eL
      rw [← eL] at no
      clear eL hx hz
      subst hN
      refine seq_by fun N hN => ?_
      walk_at "vc"
      refine ⟨_, _, _, _, rfl, hm, hy, mt1.2, ms1.2, _, rfl, ?_⟩
      have key2 : ∀ (hi : V) (G : P2), PP K H2 hi G → SmP 4000 G → G = (if lexB R.2 S.2 = true then R.2 else S.2) → N [some v, some u, some lo, some hi, some z, some m] H2 := by
        intro hi G hG mG eG
        rw [← eG] at no
        subst hN
        walk_at "vc"
        refine ⟨_, _, _, _, rfl, hG, hL, mG, mL, _, rfl, ?_⟩
        rw [if_pos no]
        exact ret _ S2
      split
      · rename_i c
        exact key2 _ _ hm mt1.2 (by rw [if_pos c])
      · rename_i c
        exact key2 _ _ hy ms1.2 (by rw [if_neg c])
    split
    · rename_i c
      exact key _ _ hz mt1.1 (by rw [if_pos c])
    · rename_i c
      exact key _ _ hx ms1.1 (by rw [if_neg c])
/-- that two sides have no point in common is told -/
def Apart (s t : P2 × P2) : Prop :=
  if (bdN s.1 s.2 t.1).sign = 0 ∧ (bdN s.1 s.2 t.2).sign = 0 then noShare s t
  else (bdN s.1 s.2 t.1).sign = (bdN s.1 s.2 t.2).sign ∨ 0 < (bdN t.1 t.2 s.1).sign * (bdN t.1 t.2 s.2).sign
theorem sign_sm (a : Int) : -1 ≤ a.sign ∧ a.sign ≤ 1 := by
  rcases Int.lt_trichotomy a 0 with h | h | h
  · rw [Int.sign_eq_neg_one_of_neg h]; decide
  · subst h; decide
  · rw [Int.sign_eq_one_of_pos h]; decide
def spCommon (K : PySem.W.Frag) : Sp := fun vs H Q _ => ∃ v u s t, vs = [v, u] ∧ Sd K H v s ∧ Sd K H u t ∧ SmS 900 s ∧ SmS 900 t ∧ Apart s t ∧ RetV H .non Q
theorem ok_common_point (T : Txt K mg A) : FnOk P w K mg base CX0 5 A.f_common_point A.d_common_point ["one", "other"] (spCommon K) := by
  refine T.common_point.F.ok sc_common_point (fun vs H Q E h => ?_) (fun cdv A' outer s H vs Q E hr h => ?_)
  · obtain ⟨_, _, _, _, rfl, _⟩ := h; rfl
  · obtain ⟨v, u, s, t, rfl, hs, ht, ms, mt, ap, ret⟩ := h
    obtain ⟨a, x, y, rfl, ha, hx, hy⟩ := id hs
    obtain ⟨b, z, m, rfl, hb, hz, hm⟩ := id ht
    refine ⟨_, (pss_cons (ps_set (i := 2) sc_common_point.nd rfl (.inl rfl) (pe_call (ok_bend T) (hr.mono (by decide)) (by rfl) T.bend.g T.bend.F.kp T.bend.b .nil pass0 (pa_cons (pe_ix ix_tup (pv 0) pe_int (fun _ _ => rfl)) (pa_cons (pe_ix ix_tup (pv 0) pe_int (fun _ _ => rfl)) (pa_cons (pe_ix ix_tup (pv 1) pe_int (fun _ _ => rfl)) pa_nil)))))
      (pss_cons (ps_set (i := 3) sc_common_point.nd rfl (.inl rfl) (pe_call (ok_bend T) (hr.mono (by decide)) (by rfl) T.bend.g T.bend.F.kp T.bend.b .nil pass0 (pa_cons (pe_ix ix_tup (pv 0) pe_int (fun _ _ => rfl)) (pa_cons (pe_ix ix_tup (pv 0) pe_int (fun _ _ => rfl)) (pa_cons (pe_ix ix_tup (pv 1) pe_int (fun _ _ => rfl)) pa_nil)))))
      (pss_cons (ps_if (PW.pt (pw_and (pt_cmpR op_eq (pv 2) pe_int (nomark _)) (pw_and1 (pt_cmpR op_eq (pv 3) pe_int (nomark _))))) (pss_one (ps_ret (pe_call (ok__shared_stretch T) (hr.mono (by decide)) (by rfl) T._shared_stretch.g T._shared_stretch.F.kp T._shared_stretch.b .nil pass0 (pa_cons (pv 0) (pa_cons (pv 1) pa_nil))))) pss_nil)
      (pss_cons (ps_if (PW.pt (pw_or (pt_cmpR op_eq (pv 2) (pv 3) (nomark _)) (pw_or1 (pt_cmpR op_gt (pe_op op_mul (pe_call (ok_bend T) (hr.mono (by decide)) (by rfl) T.bend.g T.bend.F.kp T.bend.b .nil pass0 (pa_cons (pe_ix ix_tup (pv 1) pe_int (fun _ _ => rfl)) (pa_cons (pe_ix ix_tup (pv 1) pe_int (fun _ _ => rfl)) (pa_cons (pe_ix ix_tup (pv 0) pe_int (fun _ _ => rfl)) pa_nil)))) (pe_call (ok_bend T) (hr.mono (by decide)) (by rfl) T.bend.g T.bend.F.kp T.bend.b .nil pass0 (pa_cons (pe_ix ix_tup (pv 1) pe_int (fun _ _ => rfl)) (pa_cons (pe_ix ix_tup (pv 1) pe_int (fun _ _ => rfl)) (pa_cons (pe_ix ix_tup (pv 0) pe_int (fun _ _ => rfl)) pa_nil))))) pe_int (nomark _))))) (pss_one (ps_ret pe_non)) pss_nil)
      pss_never)))), ?_⟩
    refine seq_by fun N hN => ?_
    walk_at "vc"
    refine ixT ha rfl (ixT ha rfl (ixT hb rfl ⟨_, _, _, _, _, _, rfl, hx, hy, hz, ms.1, ms.2, mt.1, fun H1 s1 => ?_⟩))
    have ha := same_tup s1 ha; have hb := same_tup s1 hb; have hx := hx.same s1; have hy := hy.same s1; have hz := hz.same s1; have hm := hm.same s1
    have hs := hs.same s1; have ht := ht.same s1
    subst hN
    refine seq_by fun N hN => ?_
    walk_at "vc"
    refine ixT ha rfl (ixT ha rfl (ixT hb rfl ⟨_, _, _, _, _, _, rfl, hx, hy, hm, ms.1, ms.2, mt.2, fun H2 s2 => ?_⟩))
    have hb := same_tup s2 hb; have ha := same_tup s2 ha; have hx := hx.same s2; have hy := hy.same s2; have hz := hz.same s2; have hm := hm.same s2
    have hs := hs.same s2; have ht := ht.same s2
    have S2 := s1.trans s2
    unfold Apart at ap
    have up : ∀ {q : P2 × P2}, SmS 900 q → SmS 4000 q := fun h => ⟨h.1.up (by decide), h.2.up (by decide)⟩
    subst hN
    refine seq_by fun N hN => ?_
    walk_at "vc"
    have rest : ¬ ((bdN s.1 s.2 t.1).sign = 0 ∧ (bdN s.1 s.2 t.2).sign = 0) → N [some (.ref a), some (.ref b), some (.int (bdN s.1 s.2 t.1).sign), some (.int (bdN s.1 s.2 t.2).sign), none, none, none] H2 := by
      intro hno
      rw [if_neg hno] at ap
      subst hN
      refine seq_by fun N hN => ?_
      walk_at "vc"
      refine ⟨rfl, ?_⟩
      split
      · exact ret _ S2
      · rename_i hne
        have ap := ap.resolve_left hne
        refine ixT hb rfl (ixT hb rfl (ixT ha rfl ⟨_, _, _, _, _, _, rfl, hz, hm, hx, mt.1, mt.2, ms.1, fun H3 s3 => ?_⟩))
        have ha := same_tup s3 ha; have hb := same_tup s3 hb; have hy := hy.same s3; have hz := hz.same s3; have hm := hm.same s3
        refine ixT hb rfl (ixT hb rfl (ixT ha rfl ⟨_, _, _, _, _, _, rfl, hz, hm, hy, mt.1, mt.2, ms.2, fun H4 s4 => ?_⟩))
        have b1 := sign_sm (bdN t.1 t.2 s.1)
        refine ⟨_, rfl, _, rfl, .inl ⟨by omega, by omega⟩, ?_⟩
        rw [if_pos ap]
        exact ret _ ((S2.trans s3).trans s4)
    refine ⟨rfl, ?_⟩
    split
    · rename_i h1
      refine ⟨rfl, ?_⟩
      split
      · rename_i h2
        rw [if_pos ⟨h1, h2⟩] at ap
        exact ⟨_, _, _, _, rfl, hs, ht, up ms, up mt, ap, fun H3 s3 => ret _ (S2.trans s3)⟩
      · rename_i h2
        exact rest fun z => h2 z.2
    · rename_i h1
      exact rest fun z => h1 z.1
end
end Odd
namespace Odd
open PySem PySem.Spec PyProof.Rows L2
local macro_rules | `(tactic| walk_at "vc") => `(tactic| simp only [tSeq, tAsg, gName, tCB, tCons, tNil, tVar, tC, tOp, tUn, rI0, rI, rU, tTup, tLst, tIfS, tTest, tB, tRet, tNext, rGcd, L2.start, List.map, List.set, List.replicate, List.cons_append, List.nil_append, List.length_cons, List.length_nil, List.getElem?_cons_succ, List.getElem?_cons_zero, Option.some.injEq, exists_eq_left', exists_eq_left, List.append_nil, List.cons.injEq, V.int.injEq, exists_and_left, and_true, true_and, and_assoc, exists_const, V.bl.injEq, V.ref.injEq, Nat.sub_self, Nat.reduceAdd, Nat.reduceSub, List.replicate_succ, List.replicate_zero, tAnd, tOr, tNot, tAndV, tOrV, tNotV, tIf, tCall, tCallK, tDrop, rEq, rNe, decide_eq_true_eq, Bool.not_eq_true', decide_eq_false_iff_not, Bool.false_eq_true, if_true, if_false, reduceIte, reduceCtorEq, tMkLow, tRaiseLow, rIsB, rNotB, tBreak, tPar, gSub, rSetL, tChain, gTup, gCons, gNil, gSeq, cx_K, cx_Kn, optV, V.str.injEq, Bool.not_true, Bool.not_false, false_and, and_false, or_false, false_or, exists_false, tCallN, tCallS, tPairs])
abbrev PG : Program := PySem.Challenge.pw_oddsquares_k14_determinants_of_four_side
section
variable {P : Program} {w : World} {K : PySem.W.Frag} {mg : Str → Option Value} {base : Heap} {A : Ads}
/-- no list, no tuple -/
def Flat (K : PySem.W.Frag) (H : Hp) (v : V) : Prop := ∃ U, TyN K H v U ∧ U ≠ "list" ∧ U ≠ "tuple"
theorem Flat.same {H H' : Hp} {v : V} (s : Same H H') (h : Flat K H v) : Flat K H' v := by
  obtain ⟨U, hU, h⟩ := h
  exact ⟨U, hU.same s, h⟩
def spFixed0 (K : PySem.W.Frag) : Sp := fun vs H Q _ => ∃ v, vs = [v] ∧ Flat K H v ∧ RetV H v Q
theorem ok_fixed0 (T : Txt K mg A) : FnOk P w K mg base CX0 1 A.f_fixed A.d_fixed ["value"] (spFixed0 K) := by
  refine T.fixed.F.ok sc_fixed (fun vs H Q E h => ?_) (fun cdv A' outer s H vs Q E hr h => ?_)
  · obtain ⟨_, rfl, _⟩ := h; rfl
  · obtain ⟨v, rfl, ⟨U, hU, h1, h2⟩, q⟩ := h
    refine ⟨_, (pss_cons (ps_if (pt_val (pe_callB call_isiT (by rfl) T.n_isinstance bt_isinstance (pa_cons (pv 0) (pa_cons (pe_tup (pa_cons (pe_bltn (v := .ty "list") (by rfl) T.n_list bt_list rfl) (pa_cons (pe_bltn (v := .ty "tuple") (by rfl) T.n_tuple bt_tuple rfl) pa_nil))) pa_nil)))) (pss_one ps_never) pss_nil) (pss_one (ps_ret (pv 0)))), ?_⟩
    walk_at "vc"
    refine ⟨by decide, fun p hp => ty_row (hU.same (same_upd hp)) upd_same ⟨_, rfl, ?_⟩⟩
    rw [beq_false_of_ne h1, beq_false_of_ne h2]
    exact iteF (q _ (same_upd hp))
def spFixed (K : PySem.W.Frag) : Sp := fun vs H Q _ => ∃ p xs, vs = [.ref p] ∧ SqT K H p xs ∧ (∀ x ∈ xs, Flat K H x) ∧ xs.length ≤ 1000 ∧ ∀ H' p', Same H H' → SqT K H' p' xs → Q (.ref p') H'
theorem ok_fixed (T : Txt K mg A) : FnOk P w K mg base CX0 2 A.f_fixed A.d_fixed ["value"] (spFixed K) := by
  refine T.fixed.F.ok sc_fixed (fun vs H Q E h => ?_) (fun cdv A' outer s H vs Q E hr h => ?_)
  · obtain ⟨_, _, rfl, _⟩ := h; rfl
  · obtain ⟨p, xs, rfl, hx, hf, hl, q⟩ := h
    refine ⟨_, (pss_cons (ps_if (pt_val (pe_callB call_isiT (by rfl) T.n_isinstance bt_isinstance (pa_cons (pv 0) (pa_cons (pe_tup (pa_cons (pe_bltn (v := .ty "list") (by rfl) T.n_list bt_list rfl) (pa_cons (pe_bltn (v := .ty "tuple") (by rfl) T.n_tuple bt_tuple rfl) pa_nil))) pa_nil)))) (pss_one (ps_ret (pe_callTy call_tuple_of (by rfl) T.n_tuple bt_tuple (pa_cons (pe_lc (own := [("item", 1)]) (g := gName 1) (tt := tYes) rfl sc_fixed.nd (pi_tup (pv 0)) (blkOk_by (N := ["value", "item"]) (sc := defScope s_fixed) (by decide +kernel)) (fun _ _ _ _ _ => pg_name (i := 1) sc_fixed.nd rfl (Or.inl rfl)) (fun _ _ _ _ _ => pts_nil) (fun _ _ _ _ _ => (pe_call (ok_fixed0 T) (hr.mono (by decide)) (by rfl) T.fixed.g T.fixed.F.kp T.fixed.b .nil pass0 (pa_cons (pv 1) pa_nil)))) pa_nil)))) pss_nil)
      (pss_one (ps_ret (pv 0)))), ?_⟩
    walk_at "vc"
    refine ⟨by decide, fun p2 hp2 => ?_⟩
    have s2 := same_upd (o := .tup [.ty "list", .ty "tuple"]) hp2
    refine ty_row (.tup (same_tup s2 hx)) upd_same ⟨_, rfl, iteT ?_⟩
    generalize upd H p2 (.tup [.ty "list", .ty "tuple"]) = H2 at *
    have hx2 := same_tup s2 hx
    refine ⟨_, rfl, p, rfl, ⟨_, hx2⟩, fun D hD => ?_⟩
    refine lc_tup (xs := xs) (fun i H3 => Same H2 H3 ∧ H3 D = some (.lst (xs.take i))) ⟨same_upd hD, upd_same⟩ (fun i H3 _ h => same_tup h.1 hx2) ?_ ?_
    · rintro i x H3 hxi ⟨s3, e3⟩
      refine ⟨rfl, ?_⟩
      simp only [tYes, if_true]
      refine ⟨x, rfl, x, rfl, (hf x (List.mem_of_getElem? hxi)).same (s2.trans s3), fun H4 s4 => ⟨xs.take i, s4 _ _ e3, ?_, fun c o ec => ?_, ?_⟩⟩
      · rw [List.length_take]
        exact small1000 (by omega)
      · rw [upd_ne (ne_of_none ec hD)]
        exact s4 _ _ (s3 _ _ ec)
      · rw [upd_same, List.take_add_one, hxi]
        rfl
    · rintro H3 ⟨s3, e3⟩
      rw [List.take_length] at e3
      exact ⟨D, rfl, xs, .inl ⟨sl_of e3, fun l hl' => q _ _ ((s2.trans s3).trans (same_upd hl')) (st_of upd_same)⟩⟩
/-- what the __init__ of a paper leaves -/
def paperF (w : Str) (t : Addr) : List (Str × V) := [("word", .str w), ("parts", .ref t)]
theorem paperF_parts {w : Str} {t : Addr} : (paperF w t).lookup ("parts" : Str) = some (.ref t) := by
  have h : (("parts" : Str) == ("word" : Str)) = false := by decide +kernel
  simp [paperF, List.lookup, h]
def spPaperInit (K : PySem.W.Frag) (C : Addr) : Sp := fun vs H Q _ => ∃ x t dx wd xs, vs = [.ref x, .str wd, .ref t] ∧ Cls K C ∧ NoAttr K C "word" ∧ NoAttr K C "parts" ∧ H x = some (.ins C dx []) ∧ SqT K H t xs ∧ (∀ y ∈ xs, Flat K H y) ∧ xs.length ≤ 1000 ∧
  ∀ H' t', (∀ b o, b ≠ x → H b = some o → H' b = some o) → H' x = some (.ins C dx (paperF wd t')) → SqT K H' t' xs → Q .non H'
theorem ok_Paper_init (T : Txt K mg A) (C : Addr) : FnR P w K mg base CX0 4 A.f_Paper_init (fun vs H Q E => ∃ ws rest, vs = ws ++ rest ∧ ws.length = 2 ∧ rest.length ≤ sizeLine ∧ ∀ p, H p = none → spPaperInit K C (ws ++ [.ref p]) (upd H p (.tup rest)) Q E) := by
  obtain ⟨oc, od, kV, doc, pm, an, cdv, ct, osl, e, lk, hcd⟩ := T.Paper_init.ex
  rw [e] at lk
  refine StX.fn_star (ps := ["self", "word"]) lk hcd sc_Paper_init StX.cxUp_none (StX.bind_star2 (B := fun l => bindArgs (PySem.W.fnOf "__init__" "Paper.__init__" (defArgs s_Paper_init) (defBody s_Paper_init) (defScope s_Paper_init) .none kV doc pm an cdv ct) ⟨l, []⟩) (fun _ _ => rfl) (fun _ _ _ _ => rfl)) fun A' outer s H vs Q E hr h => ?_
  obtain ⟨x, t, dx, wd, xs, rfl, cl, n1, n2, hx, ht, hf, hl, q⟩ := h
  refine ⟨_, pss_cons (ps_fld (pv 0) (pe_call (ok_fixed0 T) (hr.mono (by decide)) (by rfl) T.fixed.g T.fixed.F.kp T.fixed.b .nil pass0 (pa_cons (pv 1) pa_nil)) rfl) (pss_one (ps_fld (pv 0) (pe_call (ok_fixed T) (hr.mono (by decide)) (by rfl) T.fixed.g T.fixed.F.kp T.fixed.b .nil pass0 (pa_cons (pv 2) pa_nil)) rfl)), ?_⟩
  refine ⟨_, rfl, _, rfl, ⟨_, .str wd, by decide, by decide⟩, fun H1 s1 => ⟨_, rfl, x, C, dx, [], rfl, s1 _ _ hx, cl, n1, by decide, ?_⟩⟩
  have hx1 := s1 _ _ hx
  have keep : ∀ b o, b ≠ x → H b = some o → upd H1 x (.ins C dx (putF "word" (.str wd) [])) b = some o := fun b o nb e => by
    rw [upd_ne nb]; exact s1 _ _ e
  have gx : upd H1 x (.ins C dx (putF "word" (.str wd) [])) x = some (.ins C dx (putF "word" (.str wd) [])) := upd_same
  have tt : SqT K (upd H1 x (.ins C dx (putF "word" (.str wd) []))) t xs := by
    rcases ht with (ht | ⟨o, ht⟩) | ht
    · exact .inl (.inl (keep _ _ (ne_of ht hx (by intro z; cases z)) ht))
    · exact .inl (.inr ⟨o, keep _ _ (ne_of ht hx (by intro z; cases z)) ht⟩)
    · exact .inr ht
  have ff : ∀ y ∈ xs, Flat K (upd H1 x (.ins C dx (putF "word" (.str wd) []))) y := fun y hy => by
    obtain ⟨U, hU, h1, h2⟩ := hf y hy
    refine ⟨U, ?_, h1, h2⟩
    cases hU with
    | non => exact .non
    | bl b => exact .bl b
    | int i => exact .int i
    | str x => exact .str x
    | lst h => exact absurd rfl h1
    | tup h => exact absurd rfl h2
    | dict h => exact .dict (keep _ _ (ne_of h hx (by intro z; cases z)) h)
  generalize upd H1 x (.ins C dx (putF "word" (.str wd) [])) = H2 at *
  refine ⟨_, rfl, t, xs, rfl, tt, ff, hl, fun H3 t' s3 ht' => ⟨_, rfl, x, C, dx, _, rfl, s3 _ _ gx, cl, n2, (by show 1 < 1000; decide), ?_⟩⟩
  have n3 : t' ≠ x ∨ True := .inr trivial
  refine q _ t' (fun b o nb e => ?_) ?_ ?_
  · rw [upd_ne nb]
    exact s3 _ _ (keep b o nb e)
  · exact upd_same
  · have hx3 := s3 _ _ gx
    rcases ht' with (ht | ⟨o, ht⟩) | ht
    · exact .inl (.inl (by rw [upd_ne (ne_of ht hx3 (by intro z; cases z))]; exact ht))
    · exact .inl (.inr ⟨o, by rw [upd_ne (ne_of ht hx3 (by intro z; cases z))]; exact ht⟩)
    · exact .inr ht
def spTrue : Sp := fun vs H Q _ => ∃ x, vs = [.ref x] ∧ Q (.bl true) H
theorem ok_Paper_bool (T : Txt K mg A) : FnOk P w K mg base CX0 1 A.f_Paper_bool A.d_Paper_bool ["self"] spTrue := by
  refine T.Paper_bool.F.ok sc_Paper_bool (fun vs H Q E h => ?_) (fun cdv A' outer s H vs Q E hr h => ?_)
  · obtain ⟨_, rfl, _⟩ := h; rfl
  · obtain ⟨x, rfl, q⟩ := h
    exact ⟨_, pss_one (ps_ret pe_bl), q⟩
theorem pg_file : ((PG.main.file : Str) == ("/claim/cut.py" : Str)) = true := by decide +kernel
theorem pg_top : (PG.main.scope.names.lookup ("super" : Str)).isSome = false := by decide +kernel
def spClosedInit (C : Addr) : Sp := fun vs H Q _ => ∃ x b dx, vs = [.ref x, .bl b] ∧ H x = some (.ins C dx []) ∧ ∀ H' fs, (∀ c o, c ≠ x → H c = some o → H' c = some o) → H' x = some (.ins C dx fs) → fs.lookup ("is_left" : Str) = some (V.bl b) → Q .non H'
theorem ok_Closed_init (T : Txt K mg A) : FnOk PG w K mg base CX0 5 A.f_Closed_init A.d_Closed_init ["self", "is_left"] (spClosedInit A.C_Closed) := by
  obtain ⟨⟨oc, kV, doc, pm, ct, cl, od, an, cld, osl, csl, e, lk, hcell⟩, code, ⟨ccl, cdd, vsA, ccs, file, tf, hcode, hv2, hfile⟩, ⟨cd, hC⟩, sub, sup, ty, fi, opq⟩ := T.sup_Closed
  rw [e] at lk ⊢
  refine fn_super lk code hcell sc_Closed_init (fun vs H Q E h => ?_) (fun A' outer s H vs Q E hr h s1 I => ?_)
  · obtain ⟨_, _, _, rfl, _⟩ := h; rfl
  · obtain ⟨x, b, dx, rfl, hx, q⟩ := h
    obtain ⟨t0, rest, hq0⟩ : ∃ t0 : TS, PSs (NdefX.ncx CX0 PG w K mg base ["self", "is_left", "__class__"] ⟨"__init__", "Closed.__init__", defArgs s_Closed_init, defBody s_Closed_init, defScope s_Closed_init, [("__class__", A.cc_Closed)], A.cda_Closed⟩ A.f_Closed_init A' outer s H E) ((defBody s_Closed_init).drop 1) t0 ∧
        ∀ H2 t', (∀ c o, c ≠ x → H c = some o → H2 c = some o) → H2 x = some (.ins A.C_Closed dx (paperF "closed" t')) → SqT K H2 t' [.bl b] → t0 { nx := fun _ H' => Q .non H', rt := Q } (NdefX.startF ["self", "is_left", "__class__"] [.ref x, .bl b] [some (.ref A.C_Closed)]) H2 := by
      refine ⟨_, pss_one (ps_fld (pv 0) (pe_ix ix_tup (pe_fld (pv 0) rfl) pe_int (fun _ _ => rfl)) rfl), fun H2 t' kp hx2 ht => ?_⟩
      refine ⟨_, rfl, x, A.C_Closed, dx, _, .ref t', rfl, hx2, T.cl_Closed, T.no_Closed_parts, paperF_parts, ?_⟩
      refine ⟨t', [.bl b], 0, .bl b, rfl, rfl, ht, rfl, ?_⟩
      refine ⟨_, rfl, x, A.C_Closed, dx, _, rfl, hx2, T.cl_Closed, T.no_Closed_is_left, (by show 2 < 1000; decide), ?_⟩
      refine q _ _ (fun c o nc ec => ?_) upd_same ?_
      · rw [upd_ne nc]
        exact kp c o nc ec
      · rw [lookup_putF, if_pos rfl]
    refine PySem.ks_wpAt_execs_cons (rest := (defBody s_Closed_init).drop 1) ?_
    refine PySem.ks_wpAt_mono (super_at (sp := fun vs H Q E => ∃ ws rest, vs = ws ++ rest ∧ ws.length = 2 ∧ rest.length ≤ sizeLine ∧ ∀ p, H p = none → spPaperInit K A.C_Closed (ws ++ [.ref p]) (upd H p (.tup rest)) Q E)
      (X := NdefX.ncx CX0 PG w K mg base ["self", "is_left", "__class__"] ⟨"__init__", "Closed.__init__", defArgs s_Closed_init, defBody s_Closed_init, defScope s_Closed_init, [("__class__", A.cc_Closed)], A.cda_Closed⟩ A.f_Closed_init A' outer s H E)
      (D' := { nx := fun σ H' => t0 { nx := fun _ H' => Q .non H', rt := Q } σ H', rt := Q }) (j := 2) (fs := [])
      I rfl rfl rfl rfl lk rfl hcode hv2 (by rw [hfile]; exact pg_file) pg_top T.n_super (by decide +kernel) rfl rfl rfl rfl rfl hC sub hC hx opq sup ty fi (ok_Paper_init T A.C_Closed) hr pass0 (pa_cons pe_str (pa_cons (pv 1) pa_nil)) rfl ?_ rfl rfl rfl rfl) (fun fl s' hs => ?_) (fun _ _ z => z)
    · refine ⟨_, rfl, [.ref x, .str "closed"], [.bl b], rfl, rfl, (by show 1 ≤ sizeLine; decide), fun p hp => ?_⟩
      have sp := same_upd (o := .tup [.bl b]) hp
      refine ⟨x, p, dx, "closed", [.bl b], rfl, T.cl_Closed, T.no_Closed_word, T.no_Closed_parts, sp _ _ hx, st_of upd_same, fun y hy => ?_, (by show 1 ≤ 1000; decide), fun H2 t' kp hx2 ht => ?_⟩
      · obtain rfl := List.mem_singleton.mp hy
        exact ⟨_, .bl b, by decide, by decide⟩
      · exact hq0 H2 t' (fun c o nc ec => kp c o nc (sp _ _ ec)) hx2 ht
    · cases fl with
      | next =>
        obtain ⟨σ', G', J, h0⟩ := hs
        exact PySem.wpAt_of_wpAny (rest.run [] s' σ' G' _ J h0)
      | ret u => exact hs
      | brk => exact hs
      | cont => exact hs
def spApartInit (C : Addr) : Sp := fun vs H Q _ => ∃ x dx, vs = [.ref x] ∧ H x = some (.ins C dx []) ∧ ∀ H' fs, (∀ c o, c ≠ x → H c = some o → H' c = some o) → H' x = some (.ins C dx fs) → Q .non H'
theorem ok_Apart_init (T : Txt K mg A) : FnOk PG w K mg base CX0 5 A.f_Apart_init A.d_Apart_init ["self"] (spApartInit A.C_Apart) := by
  obtain ⟨⟨oc, kV, doc, pm, ct, cl, od, an, cld, osl, csl, e, lk, hcell⟩, code, ⟨ccl, cdd, vsA, ccs, file, tf, hcode, hv2, hfile⟩, ⟨cd, hC⟩, sub, sup, ty, fi, opq⟩ := T.sup_Apart
  rw [e] at lk ⊢
  refine fn_super lk code hcell sc_Apart_init (fun vs H Q E h => ?_) (fun A' outer s H vs Q E hr h s1 I => ?_)
  · obtain ⟨_, _, rfl, _⟩ := h; rfl
  · obtain ⟨x, dx, rfl, hx, q⟩ := h
    obtain ⟨t0, rest, hq0⟩ : ∃ t0 : TS, PSs (NdefX.ncx CX0 PG w K mg base ["self", "__class__"] ⟨"__init__", "Apart.__init__", defArgs s_Apart_init, defBody s_Apart_init, defScope s_Apart_init, [("__class__", A.cc_Apart)], A.cda_Apart⟩ A.f_Apart_init A' outer s H E) ((defBody s_Apart_init).drop 1) t0 ∧
        ∀ H2 t', (∀ c o, c ≠ x → H c = some o → H2 c = some o) → H2 x = some (.ins A.C_Apart dx (paperF "apart" t')) → t0 { nx := fun _ H' => Q .non H', rt := Q } (NdefX.startF ["self", "__class__"] [.ref x] [some (.ref A.C_Apart)]) H2 :=
      ⟨_, pss_nil, fun H2 t' kp hx2 => q _ _ kp hx2⟩
    refine PySem.ks_wpAt_execs_cons (rest := (defBody s_Apart_init).drop 1) ?_
    refine PySem.ks_wpAt_mono (super_at (sp := fun vs H Q E => ∃ ws rest, vs = ws ++ rest ∧ ws.length = 2 ∧ rest.length ≤ sizeLine ∧ ∀ p, H p = none → spPaperInit K A.C_Apart (ws ++ [.ref p]) (upd H p (.tup rest)) Q E)
      (X := NdefX.ncx CX0 PG w K mg base ["self", "__class__"] ⟨"__init__", "Apart.__init__", defArgs s_Apart_init, defBody s_Apart_init, defScope s_Apart_init, [("__class__", A.cc_Apart)], A.cda_Apart⟩ A.f_Apart_init A' outer s H E)
      (D' := { nx := fun σ H' => t0 { nx := fun _ H' => Q .non H', rt := Q } σ H', rt := Q }) (j := 1) (fs := [])
      I rfl rfl rfl rfl lk rfl hcode hv2 (by rw [hfile]; exact pg_file) pg_top T.n_super (by decide +kernel) rfl rfl rfl rfl rfl hC sub hC hx opq sup ty fi (ok_Paper_init T A.C_Apart) hr pass0 (pa_cons pe_str pa_nil) rfl ?_ rfl rfl rfl rfl) (fun fl s' hs => ?_) (fun _ _ z => z)
    · refine ⟨[.ref x, .str "apart"], [], rfl, rfl, (by show 0 ≤ sizeLine; decide), fun p hp => ?_⟩
      have sp := same_upd (o := .tup []) hp
      refine ⟨x, p, dx, "apart", [], rfl, T.cl_Apart, T.no_Apart_word, T.no_Apart_parts, sp _ _ hx, st_of upd_same, fun y hy => absurd hy (by simp), (by show 0 ≤ 1000; decide), fun H2 t' kp hx2 ht => ?_⟩
      exact hq0 H2 t' (fun c o nc ec => kp c o nc (sp _ _ ec)) hx2
    · cases fl with
      | next =>
        obtain ⟨σ', G', J, h0⟩ := hs
        exact PySem.wpAt_of_wpAny (rest.run [] s' σ' G' _ J h0)
      | ret u => exact hs
      | brk => exact hs
      | cont => exact hs
end
end Odd
namespace Odd
open PySem PySem.Spec PyProof.Rows L2
local macro_rules | `(tactic| walk_at "vc") => `(tactic| simp only [tSeq, tAsg, gName, tCB, tCons, tNil, tVar, tC, tOp, tUn, rI0, rI, rU, tTup, tLst, tIfS, tTest, tB, tRet, tNext, rGcd, L2.start, List.map, List.set, List.replicate, List.cons_append, List.nil_append, List.length_cons, List.length_nil, List.getElem?_cons_succ, List.getElem?_cons_zero, Option.some.injEq, exists_eq_left', exists_eq_left, List.append_nil, List.cons.injEq, V.int.injEq, exists_and_left, and_true, true_and, and_assoc, exists_const, V.bl.injEq, V.ref.injEq, Nat.sub_self, Nat.reduceAdd, Nat.reduceSub, List.replicate_succ, List.replicate_zero, tAnd, tOr, tNot, tAndV, tOrV, tNotV, tIf, tCall, tCallK, tDrop, rEq, rNe, decide_eq_true_eq, Bool.not_eq_true', decide_eq_false_iff_not, Bool.false_eq_true, if_true, if_false, reduceIte, reduceCtorEq, tMkLow, tRaiseLow, rIsB, rNotB, tBreak, tPar, gSub, rSetL, tChain, gTup, gCons, gNil, gSeq, cx_K, cx_Kn, optV, V.str.injEq, Bool.not_true, Bool.not_false, false_and, and_false, or_false, false_or, exists_false, tCallN, tCallS, tPairs])
section
variable {P : Program} {w : World} {K : PySem.W.Frag} {mg : Str → Option Value} {base : Heap} {A : Ads}
/-- one by one -/
def Each {α : Type} (R : V → α → Prop) (vs : List V) (xs : List α) : Prop := vs.length = xs.length ∧ ∀ (i : Nat) (v : V) (x : α), vs[i]? = some v → xs[i]? = some x → R v x
theorem Each.imp {α : Type} {R R' : V → α → Prop} {vs : List V} {xs : List α} (f : ∀ v x, R v x → R' v x) (h : Each R vs xs) : Each R' vs xs := ⟨h.1, fun i v x e1 e2 => f _ _ (h.2 i v x e1 e2)⟩
theorem Each.at {α : Type} {R : V → α → Prop} {vs : List V} {xs : List α} (h : Each R vs xs) {i : Nat} {x : α} (e : xs[i]? = some x) : ∃ v, vs[i]? = some v ∧ R v x := by
  have hl : i < vs.length := by rw [h.1]; exact (List.getElem?_eq_some_iff.mp e).1
  exact ⟨vs[i], List.getElem?_eq_getElem hl, h.2 i _ x (List.getElem?_eq_getElem hl) e⟩
theorem Each.of {α : Type} {R : V → α → Prop} {vs : List V} {xs : List α} (h : Each R vs xs) {i : Nat} {v : V} (e : vs[i]? = some v) : ∃ x, xs[i]? = some x ∧ R v x := by
  have hl : i < xs.length := by rw [← h.1]; exact (List.getElem?_eq_some_iff.mp e).1
  exact ⟨xs[i], List.getElem?_eq_getElem hl, h.2 i v _ e (List.getElem?_eq_getElem hl)⟩
def sideL {α : Type} (ps : List α) : List (α × α) := ps.zip (ps.drop 1 ++ ps.take 1)
theorem sideL_len {α : Type} (ps : List α) : (sideL ps).length = ps.length := by
  unfold sideL
  rw [List.length_zip, List.length_append, List.length_drop, List.length_take]
  omega
theorem sideL_at {α : Type} {ps : List α} {i : Nat} (h : i < ps.length) : (sideL ps)[i]? = some (ps[i], ps[(i + 1) % ps.length]'(Nat.mod_lt _ (by omega))) := by
  unfold sideL
  rw [List.getElem?_zip_eq_some]
  refine ⟨List.getElem?_eq_getElem h, ?_⟩
  rw [List.getElem?_append]
  by_cases c : i + 1 < ps.length
  · rw [if_pos (by rw [List.length_drop]; omega), List.getElem?_drop, List.getElem?_eq_getElem (by omega)]
    simp [Nat.mod_eq_of_lt c, Nat.add_comm]
  · have e : i + 1 = ps.length := by omega
    rw [if_neg (by rw [List.length_drop]; omega), List.length_drop, List.getElem?_take]
    simp only [e, Nat.mod_self]
    rw [if_pos (by omega), List.getElem?_eq_getElem (by omega)]
    simp [show i - (ps.length - 1) = 0 by omega]
def spSidesOf (K : PySem.W.Frag) : Sp := fun vs H Q _ => ∃ a us ps, vs = [.ref a] ∧ SqT K H a us ∧ Each (PP K H) us ps ∧ 2 ≤ ps.length ∧ ps.length ≤ 40 ∧ ∀ H' b ws, Same H H' → SqT K H' b ws → Each (Sd K H') ws (sideL ps) → Q (.ref b) H'
theorem sl_from1 {H : Hp} {a : Addr} {us : List V} {Q : VK} (ha : SqT K H a us) (h : 2 ≤ us.length) (q : ∀ p, H p = none → Q (.ref p) (upd H p (.tup (us.drop 1)))) : rSlA K (.ref a) (some 1) none H Q := by
  have e1 : HT.sIx us.length 0 (some 1) = 1 := (HT.sIx_nat us.length 0 1).trans (by omega)
  have e2 : HT.sIx us.length us.length none = us.length := rfl
  refine ⟨a, us, rfl, ha, fun z => ?_, fun _ p hp => ?_⟩
  · rw [e1] at z
    omega
  · have e : cutV us (some 1) none = us.drop 1 := by
      unfold cutV
      rw [e1, e2, List.take_of_length_le (by rw [List.length_drop]; exact Nat.le_refl _)]
    rw [e]
    exact q p hp
theorem sl_to1 {H : Hp} {a : Addr} {us : List V} {Q : VK} (ha : SqT K H a us) (h : 2 ≤ us.length) (q : ∀ p, H p = none → Q (.ref p) (upd H p (.tup (us.take 1)))) : rSlA K (.ref a) none (some 1) H Q := by
  have e1 : HT.sIx us.length us.length (some 1) = 1 := (HT.sIx_nat us.length us.length 1).trans (by omega)
  have e2 : HT.sIx us.length 0 none = 0 := rfl
  refine ⟨a, us, rfl, ha, fun z => ?_, fun _ p hp => ?_⟩
  · rw [e1] at z
    omega
  · have e : cutV us none (some 1) = us.take 1 := by
      unfold cutV
      rw [e1, e2]
      rfl
    rw [e]
    exact q p hp
theorem ok_sides_of (T : Txt K mg A) : FnOk P w K mg base CX0 1 A.f_sides_of A.d_sides_of ["corners"] (spSidesOf K) := by
  refine T.sides_of.F.ok sc_sides_of (fun vs H Q E h => ?_) (fun cdv A' outer s H vs Q E hr h => ?_)
  · obtain ⟨_, _, _, rfl, _⟩ := h; rfl
  · obtain ⟨a, us, ps, rfl, ha, he, h2, h40, q⟩ := h
    refine ⟨_, (pss_one (ps_ret (OZ.pe_tupZip rfl (by rfl) T.n_tuple (by rfl) T.n_zip (pa_cons (pv 0) (pa_cons (pe_op op_catA (pe_slice sl_tupA (pv 0) (po_some pe_int) po_none) (pe_slice sl_tupA (pv 0) po_none (po_some pe_int))) pa_nil))))), ?_⟩
    walk_at "vc"
    simp only [OZ.tTupZip]
    walk_at "vc"
    simp only [L2.tSl, tPart, tNoPart]
    walk_at "vc"
    refine sl_from1 ha (by rw [he.1]; exact h2) fun p hp => ?_
    have s1 := same_upd (o := .tup (us.drop 1)) hp
    refine sl_to1 (same_tup s1 ha) (by rw [he.1]; exact h2) fun p2 hp2 => ?_
    have s2 := s1.trans (same_upd (o := .tup (us.take 1)) hp2)
    have hd : SqT K (upd (upd H p (.tup (us.drop 1))) p2 (.tup (us.take 1))) p (us.drop 1) := same_tup (same_upd hp2) (st_of upd_same)
    have ht : SqT K (upd (upd H p (.tup (us.drop 1))) p2 (.tup (us.take 1))) p2 (us.take 1) := st_of upd_same
    generalize upd (upd H p (.tup (us.drop 1))) p2 (.tup (us.take 1)) = H2 at *
    have l1 := he.1
    refine ⟨p, p2, _, _, rfl, rfl, hd, ht, ?_, fun z => ?_, fun _ z => ?_, fun _ _ p3 hp3 => ?_⟩
    · rw [List.length_drop, List.length_take]
      exact Nat.le_of_lt (small1000 (by omega))
    · have : us.length - 1 = 0 := by rw [← List.length_drop, z]; rfl
      omega
    · have : min 1 us.length = 0 := by rw [← List.length_take, z]; rfl
      omega
    · have s3 := s2.trans (same_upd (o := .tup (us.drop 1 ++ us.take 1)) hp3)
      have hc : SqT K (upd H2 p3 (.tup (us.drop 1 ++ us.take 1))) p3 (us.drop 1 ++ us.take 1) := st_of upd_same
      generalize upd H2 p3 (.tup (us.drop 1 ++ us.take 1)) = H3 at *
      refine ⟨p3, rfl, us, same_tup s3 ha, _, hc, ?_, by omega, fun H4 t Ts k4 ht4 hl4 told => ?_⟩
      · rw [List.length_append, List.length_drop, List.length_take]
        omega
      · refine q _ _ _ (s3.trans k4) (st_of ht4) ⟨?_, fun i v x e1 e2 => ?_⟩
        · rw [List.length_map, sideL_len, hl4, l1]
        · have hi : i < ps.length := by
            have := (List.getElem?_eq_some_iff.mp e2).1
            rw [sideL_len] at this
            exact this
          rw [sideL_at hi] at e2
          obtain rfl := Option.some.inj e2
          obtain ⟨U, hU, rfl⟩ : ∃ U, Ts[i]? = some U ∧ V.ref U = v := by simpa using e1
          obtain ⟨x, y, ex, ey, eU⟩ := told i U hU
          have hl : (us.drop 1 ++ us.take 1) = (us.drop 1 ++ us.take 1) := rfl
          have z1 := sideL_at (ps := us) (i := i) (by omega)
          unfold sideL at z1
          rw [List.getElem?_zip_eq_some] at z1
          have e5 : x = us[i] := Option.some.inj (ex.symm.trans z1.1)
          have e6 : y = us[(i + 1) % us.length]'(Nat.mod_lt _ (by omega)) := Option.some.inj (ey.symm.trans z1.2)
          refine ⟨U, x, y, rfl, st_of eU, ?_, ?_⟩
          · rw [e5]
            exact (he.2 i _ _ (List.getElem?_eq_getElem (by omega)) (List.getElem?_eq_getElem hi)).same (s3.trans k4)
          · rw [e6]
            refine (he.2 ((i + 1) % ps.length) _ _ ?_ (List.getElem?_eq_getElem (Nat.mod_lt _ (by omega)))).same (s3.trans k4)
            rw [← l1]
            exact List.getElem?_eq_getElem (Nat.mod_lt _ (by omega))
theorem judg_of : ∀ {H : Hp} {us : List V} {ps : List P2}, Each (Pt K H) us ps → Judg K H us (List.replicate us.length true)
  | H, [], ps, h => .nil
  | H, u :: us, [], h => absurd h.1 (by simp)
  | H, u :: us, p :: ps, h => .yes (h.2 0 u p rfl rfl) (judg_of ⟨Nat.succ.inj h.1, fun i v x e1 e2 => h.2 (i + 1) v x e1 e2⟩)
theorem Sq.flat2 {H : Hp} {p : Addr} {us : List V} (h : Sq K H p us) : (SqL K H p us) ∨ (SqT K H p us) := h
theorem each_snoc {α : Type} {R : V → α → Prop} {vs : List V} {xs : List α} {v : V} {x : α} (h : Each R vs xs) (r : R v x) : Each R (vs ++ [v]) (xs ++ [x]) := by
  refine ⟨by simp [h.1], fun i u y e1 e2 => ?_⟩
  by_cases c : i < vs.length
  · rw [List.getElem?_append_left c] at e1
    rw [List.getElem?_append_left (by rw [← h.1]; exact c)] at e2
    exact h.2 i u y e1 e2
  · have hi := (List.getElem?_eq_some_iff.mp e1).1
    rw [List.length_append] at hi
    simp at hi
    have e : i = vs.length := by omega
    subst e
    rw [List.getElem?_append_right (Nat.le_refl _), Nat.sub_self] at e1
    rw [List.getElem?_append_right (by rw [h.1]; exact Nat.le_refl _), h.1, Nat.sub_self] at e2
    obtain rfl := Option.some.inj e1
    obtain rfl := Option.some.inj e2
    exact r
/-- a list that is written is no part of a tuple -/
theorem keep_tup {H : Hp} {D : Addr} {acc acc' : List V} {a : Addr} {xs : List V} (hD : H D = some (.lst acc)) (h : SqT K H a xs) : SqT K (upd H D (.lst acc')) a xs := by
  have ne : ∀ {o}, H a = some o → (∀ l, o ≠ .lst l) → a ≠ D := fun e n z => n acc (by rw [z, hD] at e; exact (Option.some.inj e).symm)
  rcases h with (h | ⟨o, h⟩) | h
  · exact .inl (.inl (by rw [upd_ne (ne h (fun l z => by cases z))]; exact h))
  · exact .inl (.inr ⟨o, by rw [upd_ne (ne h (fun l z => by cases z))]; exact h⟩)
  · exact .inr h
theorem pp_keep {H : Hp} {D : Addr} {acc acc' : List V} {v : V} {p : P2} (hD : H D = some (.lst acc)) (h : PP K H v p) : PP K (upd H D (.lst acc')) v p := by
  obtain ⟨a, x, y, rfl, ha, ⟨b, rfl, hb⟩, ⟨c, rfl, hc⟩⟩ := h
  exact ⟨a, _, _, rfl, keep_tup hD ha, ⟨b, rfl, keep_tup hD hb⟩, ⟨c, rfl, keep_tup hD hc⟩⟩
def spCornersIn (K : PySem.W.Frag) : Sp := fun vs H Q _ => ∃ p us ps, vs = [.ref p] ∧ Sq K H p us ∧ Each (Pt K H) us ps ∧ 3 ≤ ps.length ∧ ps.length ≤ 40 ∧ ∀ H' b ws, Same H H' → SqT K H' b ws → Each (PP K H') ws ps → Q (.ref b) H'
theorem ok__corners_in (T : Txt K mg A) : FnOk P w K mg base CX0 6 A.f__corners_in A.d__corners_in ["corners"] (spCornersIn K) := by
  obtain ⟨tkF, hFew⟩ := T.g_FEWEST_CORNERS
  obtain ⟨tkM, hMost⟩ := T.g_MOST_CORNERS
  refine T._corners_in.F.ok sc__corners_in (fun vs H Q E h => ?_) (fun cdv A' outer s H vs Q E hr h => ?_)
  · obtain ⟨_, _, _, rfl, _⟩ := h; rfl
  · obtain ⟨p, us, ps, rfl, hu, he, h3, h40, q⟩ := h
    refine ⟨_, (pss_cons (ps_if (pt_not (pt_val (pe_call (ok_are_points T) (hr.mono (by decide)) (by rfl) T.are_points.g T.are_points.F.kp T.are_points.b .nil pass0 (pa_cons (pv 0) (pa_cons (pe_glob (v := .int 3) (by rfl) hFew ⟨tkF, rfl⟩) (pa_cons (pe_glob (v := .int 40) (by rfl) hMost ⟨tkM, rfl⟩) pa_nil)))))) (pss_one ps_never) pss_nil)
      (pss_one (ps_ret (pe_callTy call_tuple_of (by rfl) T.n_tuple bt_tuple (pa_cons (pe_lc (own := [("corner", 1)]) (g := gName 1) (tt := tYes) rfl sc__corners_in.nd (pi_any (pv 0)) (blkOk_by (N := ["corners", "corner"]) (sc := defScope s__corners_in) (by decide +kernel)) (fun _ _ _ _ _ => pg_name (i := 1) sc__corners_in.nd rfl (Or.inl rfl)) (fun _ _ _ _ _ => pts_nil) (fun _ _ _ _ _ => (pe_call (ok_point_of T) (hr.mono (by decide)) (by rfl) T.point_of.g T.point_of.F.kp T.point_of.b .nil pass0 (pa_cons (pv 1) pa_nil)))) pa_nil))))), ?_⟩
    refine seq_by fun N hN => ?_
    walk_at "vc"
    have l1 := he.1
    refine ⟨.ref p, 3, 40, rfl, .inr (.inr ⟨p, us, _, rfl, hu, ⟨by omega, by omega⟩, by omega, judg_of he, fun H1 s1 => ⟨_, rfl, ?_⟩⟩)⟩
    have ea : (List.replicate us.length true).all id = true := by simp
    rw [ea]
    refine iteF' rfl ?_
    subst hN
    walk_at "vc"
    have key : ∀ D : Addr, H1 D = none → ∀ i x H3, us[i]? = some x → (Same H1 H3 ∧ ∃ acc, H3 D = some (.lst acc) ∧ Each (PP K H3) acc (ps.take i)) →
        gName 1 x (wipe [some (.ref p), none] [1]) H3 fun σ2 H4 => wipe σ2 [1] = wipe [some (.ref p), none] [1] ∧ tYes σ2 H4 fun b H5 =>
          if b = true then tCall (spPointOf K) [] E0 (tCons (tVar 1) tNil) σ2 H5 fun y H6 => ∃ acc, H6 D = some (.lst acc) ∧ acc.length < sizeLine ∧ (fun i H => Same H1 H ∧ ∃ acc, H D = some (.lst acc) ∧ Each (PP K H) acc (ps.take i)) (i + 1) (upd H6 D (.lst (acc ++ [y]))) else (fun i H => Same H1 H ∧ ∃ acc, H D = some (.lst acc) ∧ Each (PP K H) acc (ps.take i)) (i + 1) H5 := by
      rintro D hD i x H3 hx ⟨s3, acc, e3, ea3⟩
      obtain ⟨pt, hpt, hP⟩ := he.of hx
      have hi : i < ps.length := (List.getElem?_eq_some_iff.mp hpt).1
      refine ⟨rfl, ?_⟩
      simp only [tYes, if_true]
      refine ⟨x, rfl, x, pt, rfl, hP.same (s1.trans s3), fun H6 y s6 hy => ⟨acc, s6 _ _ e3, ?_, fun c o ec => ?_, _, upd_same, ?_⟩⟩
      · rw [ea3.1, List.length_take]
        exact small1000 (by omega)
      · rw [upd_ne (ne_of_none ec hD)]
        exact s6 _ _ (s3 _ _ ec)
      · rw [List.take_add_one, hpt]
        exact each_snoc (ea3.imp fun v x z => pp_keep (s6 _ _ e3) (z.same s6)) (pp_keep (s6 _ _ e3) hy)
    have last : ∀ D H', H1 D = none → (Same H1 H' ∧ ∃ acc, H' D = some (.lst acc) ∧ Each (PP K H') acc (ps.take us.length)) → ∃ p x, V.ref D = V.ref p ∧ ((SqL K H' p x ∧ ∀ (l : Addr), H' l = none → Q (V.ref l) (upd H' l (HO.tup x))) ∨ SqT K H' p x ∧ Q (V.ref p) H') := by
      rintro D H' hD ⟨s3, acc, e3, ea3⟩
      rw [l1, List.take_length] at ea3
      refine ⟨D, acc, rfl, .inl ⟨sl_of e3, fun l hl => ?_⟩⟩
      have s4 := same_upd (o := .tup acc) hl
      exact q _ _ _ ((s1.trans s3).trans s4) (st_of upd_same) (ea3.imp fun v x z => z.same s4)
    refine ⟨_, rfl, p, rfl, ?_⟩
    rcases hu.same s1 with hs | hs
    · refine .inl ⟨⟨_, hs⟩, fun D hD => ?_⟩
      refine lc_list (xs := us) (fun i H3 => Same H1 H3 ∧ ∃ acc, H3 D = some (.lst acc) ∧ Each (PP K H3) acc (ps.take i)) ⟨same_upd hD, _, upd_same, rfl, fun i v x e => by simp at e⟩ (fun i H3 _ h => h.1.seq hs) (key D hD) (fun H' h => ?_)
      obtain ⟨p', x', e, z⟩ := last D H' hD h
      exact ⟨p', e, x', z⟩
    · refine .inr ⟨⟨_, hs⟩, fun D hD => ?_⟩
      refine lc_tup (xs := us) (fun i H3 => Same H1 H3 ∧ ∃ acc, H3 D = some (.lst acc) ∧ Each (PP K H3) acc (ps.take i)) ⟨same_upd hD, _, upd_same, rfl, fun i v x e => by simp at e⟩ (fun i H3 _ h => same_tup h.1 hs) (key D hD) (fun H' h => ?_)
      obtain ⟨p', x', e, z⟩ := last D H' hD h
      exact ⟨p', e, x', z⟩
end
end Odd
namespace Odd
open PySem PySem.Spec PyProof.Rows L2
local macro_rules | `(tactic| walk_at "vc") => `(tactic| simp only [tSeq, tAsg, gName, tCB, tCons, tNil, tVar, tC, tOp, tUn, rI0, rI, rU, tTup, tLst, tIfS, tTest, tB, tRet, tNext, rGcd, L2.start, List.map, List.set, List.replicate, List.cons_append, List.nil_append, List.length_cons, List.length_nil, List.getElem?_cons_succ, List.getElem?_cons_zero, Option.some.injEq, exists_eq_left', exists_eq_left, List.append_nil, List.cons.injEq, V.int.injEq, exists_and_left, and_true, true_and, and_assoc, exists_const, V.bl.injEq, V.ref.injEq, Nat.sub_self, Nat.reduceAdd, Nat.reduceSub, List.replicate_succ, List.replicate_zero, tAnd, tOr, tNot, tAndV, tOrV, tNotV, tIf, tCall, tCallK, tDrop, rEq, rNe, decide_eq_true_eq, Bool.not_eq_true', decide_eq_false_iff_not, Bool.false_eq_true, if_true, if_false, reduceIte, reduceCtorEq, tMkLow, tRaiseLow, rIsB, rNotB, tBreak, tPar, gSub, rSetL, tChain, gTup, gCons, gNil, gSeq, cx_K, cx_Kn, optV, V.str.injEq, Bool.not_true, Bool.not_false, false_and, and_false, or_false, false_or, exists_false, tCallN, tCallS, tPairs])
section
variable {P : Program} {w : World} {K : PySem.W.Frag} {mg : Str → Option Value} {base : Heap} {A : Ads}
def CanS (s : P2 × P2) : Prop := CanonP s.1 ∧ CanonP s.2
def wayS (s : P2 × P2) : P2 := vSub s.2 s.1
def backB (s t : P2 × P2) : Bool := decide (vCross (wayS s) (wayS t) = (0, 1)) && decide ((vDot (wayS s) (wayS t)).1 < 0)
def spBack (K : PySem.W.Frag) : Sp := fun vs H Q _ => ∃ v u s t, vs = [v, u] ∧ Sd K H v s ∧ Sd K H u t ∧ SmS 900 s ∧ SmS 900 t ∧ CanS s ∧ CanS t ∧ RetV H (.bl (backB s t)) Q
theorem ok__goes_back (T : Txt K mg A) : FnOk P w K mg base CX0 4 A.f__goes_back A.d__goes_back ["coming", "leaving"] (spBack K) := by
  refine T._goes_back.F.ok sc__goes_back (fun vs H Q E h => ?_) (fun cdv A' outer s H vs Q E hr h => ?_)
  · obtain ⟨_, _, _, _, rfl, _⟩ := h; rfl
  · obtain ⟨v, u, s, t, rfl, hs, ht, ms, mt, cs, ct, ret⟩ := h
    obtain ⟨a, x, y, rfl, ha, hx, hy⟩ := id hs
    obtain ⟨b, z, m, rfl, hb, hz, hm⟩ := id ht
    refine ⟨_, (pss_cons (ps_set (i := 2) sc__goes_back.nd rfl (.inl rfl) (pe_call (ok_way_between T) (hr.mono (by decide)) (by rfl) T.way_between.g T.way_between.F.kp T.way_between.b .nil pass0 (pa_cons (pe_ix ix_tup (pv 0) pe_int (fun _ _ => rfl)) (pa_cons (pe_ix ix_tup (pv 0) pe_int (fun _ _ => rfl)) pa_nil))))
      (pss_cons (ps_set (i := 3) sc__goes_back.nd rfl (.inl rfl) (pe_call (ok_way_between T) (hr.mono (by decide)) (by rfl) T.way_between.g T.way_between.F.kp T.way_between.b .nil pass0 (pa_cons (pe_ix ix_tup (pv 1) pe_int (fun _ _ => rfl)) (pa_cons (pe_ix ix_tup (pv 1) pe_int (fun _ _ => rfl)) pa_nil))))
      (pss_one (ps_ret (pe_and (pe_cmpR (op_eqD hr.units) (pe_call (ok_cross_of T) (hr.mono (by decide)) (by rfl) T.cross_of.g T.cross_of.F.kp T.cross_of.b .nil pass0 (pa_cons (pv 2) (pa_cons (pv 3) pa_nil))) (pe_glob (v := .ref A.a_ZERO) (by rfl) T.g_ZERO rfl) (nomark _)) (pe_one (pe_cmpR op_lt (pe_ix ix_tup (pe_call (ok_dot_of T) (hr.mono (by decide)) (by rfl) T.dot_of.g T.dot_of.F.kp T.dot_of.b .nil pass0 (pa_cons (pv 2) (pa_cons (pv 3) pa_nil))) pe_int (fun _ _ => rfl)) pe_int (nomark _)))))))), ?_⟩
    refine seq_by fun N hN => ?_
    walk_at "vc"
    refine ixT ha rfl (ixT ha rfl ⟨x, y, _, _, rfl, hx, hy, cs.1, cs.2, ms.1.up (by decide), ms.2.up (by decide), fun H1 w1 s1 h1 => ?_⟩)
    have hb := same_tup s1 hb; have hz := hz.same s1; have hm := hm.same s1
    subst hN
    refine seq_by fun N hN => ?_
    walk_at "vc"
    refine ixT hb rfl (ixT hb rfl ⟨z, m, _, _, rfl, hz, hm, ct.1, ct.2, mt.1.up (by decide), mt.2.up (by decide), fun H2 w2 s2 h2 => ?_⟩)
    have h1 := h1.same s2
    have c1 : CanonP (wayS s) := vSub_canon cs.2 cs.1
    have c2 : CanonP (wayS t) := vSub_canon ct.2 ct.1
    have m1 : SmP 2000 (wayS s) := (vSub_sm cs.2 cs.1 ms.2 ms.1).up (by decide)
    have m2 : SmP 2000 (wayS t) := (vSub_sm ct.2 ct.1 mt.2 mt.1).up (by decide)
    have S2 := s1.trans s2
    subst hN
    walk_at "vc"
    refine ⟨w1, w2, _, _, rfl, h1, h2, c1, c2, m1, m2, fun H3 q3 s3 h3 => ?_⟩
    have hz : Pr K H3 (.ref A.a_ZERO) (0, 1) := ⟨_, rfl, T.v_ZERO H3⟩
    have h3 : Pr K H3 (.ref q3) (vCross (wayS s) (wayS t)) := ⟨_, rfl, h3⟩
    refine ⟨_, _, dp_pr h3, dp_pr hz, sh_pr _, sh_pr _, ?_⟩
    rw [eqv_pr]
    refine ⟨_, rfl, ?_⟩
    have h1 := h1.same s3; have h2 := h2.same s3
    have S3 := S2.trans s3
    have ret' : ∀ b H', b = backB s t → Same H H' → Q (.bl b) H' := fun b H' e z => by rw [e]; exact ret H' z
    unfold backB at ret'
    split
    · rename_i c
      rw [c] at ret'
      refine ⟨w1, w2, _, _, rfl, h1, h2, c1, c2, m1, m2, fun H4 q4 s4 h4 => ?_⟩
      refine ixT h4 rfl ⟨_, rfl, ret' _ _ (by rw [Bool.true_and]; rfl) (S3.trans s4)⟩
    · rename_i c
      rw [Bool.not_eq_true] at c
      rw [c] at ret'
      exact ret' _ _ (by rw [Bool.false_and]) S3
def nextB (i j n : Nat) : Bool := decide (i = j) || decide ((j + 1) % n = i) || decide ((i + 1) % n = j)
def spNext : Sp := fun vs H Q _ => ∃ i j n : Nat, vs = [.int i, .int j, .int n] ∧ 3 ≤ n ∧ n ≤ 60 ∧ i < n ∧ j < n ∧ RetV H (.bl (nextB i j n)) Q
theorem ok_are_next (T : Txt K mg A) : FnOk P w K mg base CX0 1 A.f_are_next A.d_are_next ["one", "other", "many"] spNext := by
  refine T.are_next.F.ok sc_are_next (fun vs H Q E h => ?_) (fun cdv A' outer s H vs Q E hr h => ?_)
  · obtain ⟨_, _, _, rfl, _⟩ := h; rfl
  · obtain ⟨i, j, n, rfl, h3, h60, hi, hj, ret⟩ := h
    refine ⟨_, (pss_one (ps_ret (pe_cmpR op_in_seq (pe_op op_mod (pe_op op_sub (pv 0) (pv 1)) (pv 2)) (pe_tup (pa_cons pe_int (pa_cons pe_int (pa_cons (pe_op op_sub (pv 2) pe_int) pa_nil)))) (by with_unfolding_all rfl)))), ?_⟩
    walk_at "vc"
    refine ⟨by omega, by decide, fun p hp => ⟨p, _, rfl, .inr (st_of upd_same), rfl, rfl, ?_⟩⟩
    have e : inV (V.int (((i : Int) - j) % n)) [V.int 0, V.int 1, V.int ((n : Int) - 1)] = nextB i j n := by
      have e1 : ∀ a b : Int, eqV (V.int a) (V.int b) = decide (a = b) := fun a b => by
        show (a == b) = decide (a = b)
        by_cases c : a = b <;> simp [c]
      show (List.any _ _) = _
      simp only [List.any_cons, List.any_nil, e1, Bool.or_false]
      unfold nextB
      rw [Bool.eq_iff_iff]
      simp only [Bool.or_eq_true, decide_eq_true_eq]
      have hn : (n : Int) ≠ 0 := by omega
      by_cases c : j ≤ i
      · have em : ((i : Int) - j) % n = ((i - j : Nat) : Int) := by
          rw [Int.emod_eq_of_lt (by omega) (by omega)]
          omega
        rw [em]
        by_cases d : j + 1 < n
        · rw [Nat.mod_eq_of_lt d]
          by_cases d2 : i + 1 < n
          · rw [Nat.mod_eq_of_lt d2]
            omega
          · rw [show i + 1 = n by omega, Nat.mod_self]
            omega
        · rw [show j + 1 = n by omega, show i + 1 = n by omega, Nat.mod_self]
          omega
      · have em : ((i : Int) - j) % n = ((n + i - j : Nat) : Int) := by
          have : ((i : Int) - j) = ((n + i - j : Nat) : Int) + n * (-1) := by omega
          rw [this, Int.add_mul_emod_self_left, Int.emod_eq_of_lt (by omega) (by omega)]
        rw [em]
        rw [Nat.mod_eq_of_lt (show i + 1 < n by omega)]
        by_cases d : j + 1 < n
        · rw [Nat.mod_eq_of_lt d]
          omega
        · rw [show j + 1 = n by omega, Nat.mod_self]
          omega
    rw [e]
    exact ret _ (same_upd hp)
end
end Odd
namespace Odd
open PySem PySem.Spec PyProof.Rows L2
local macro_rules | `(tactic| walk_at "vc") => `(tactic| simp only [tSeq, tAsg, gName, tCB, tCons, tNil, tVar, tC, tOp, tUn, rI0, rI, rU, tTup, tLst, tIfS, tTest, tB, tRet, tNext, rGcd, L2.start, List.map, List.set, List.replicate, List.cons_append, List.nil_append, List.length_cons, List.length_nil, List.getElem?_cons_succ, List.getElem?_cons_zero, Option.some.injEq, exists_eq_left', exists_eq_left, List.append_nil, List.cons.injEq, V.int.injEq, exists_and_left, and_true, true_and, and_assoc, exists_const, V.bl.injEq, V.ref.injEq, Nat.sub_self, Nat.reduceAdd, Nat.reduceSub, List.replicate_succ, List.replicate_zero, tAnd, tOr, tNot, tAndV, tOrV, tNotV, tIf, tCall, tCallK, tDrop, rEq, rNe, decide_eq_true_eq, Bool.not_eq_true', decide_eq_false_iff_not, Bool.false_eq_true, if_true, if_false, reduceIte, reduceCtorEq, tMkLow, tRaiseLow, rIsB, rNotB, tBreak, tPar, gSub, rSetL, tChain, gTup, gCons, gNil, gSeq, cx_K, cx_Kn, optV, V.str.injEq, Bool.not_true, Bool.not_false, false_and, and_false, or_false, false_or, exists_false, tCallN, tCallS, tPairs])
section
variable {P : Program} {w : World} {K : PySem.W.Frag} {mg : Str → Option Value} {base : Heap} {A : Ads}
theorem fAdd_sm2 {n m : Nat} {a b : Int × Int} (ca : Canon a) (cb : Canon b) (sa : Sm n a) (sb : Sm m b) : Sm (n + m + 1) (fAdd a b) := by
  obtain ⟨_, h2, h3⟩ := low_is (t := a.1 * b.2 + b.1 * a.2) (Int.mul_ne_zero (canon_ne ca) (canon_ne cb))
  have m1 := wide_lt sa.1 sb.2
  have m2 := wide_lt sb.1 sa.2
  rw [Nat.add_comm m n] at m2
  have e := two_pow (n + m)
  exact ⟨Nat.lt_of_le_of_lt h2 (by omega), Nat.lt_of_le_of_lt h3 (Nat.lt_of_lt_of_le (wide_lt sa.2 sb.2) (pow_le (by omega)))⟩
theorem vCross_sm {n : Nat} {p q : P2} (cp : CanonP p) (cq : CanonP q) (sp : SmP n p) (sq : SmP n q) : Sm (4 * n + 1) (vCross p q) := by
  have h := fSub_sm (fMul_canon cp.1 cq.2) (fMul_canon cp.2 cq.1) (fMul_sm cp.1 cq.2 sp.1 sq.2) (fMul_sm cp.2 cq.1 sp.2 sq.1)
  exact h.up (by omega)
theorem vCross_canon {p q : P2} (cp : CanonP p) (cq : CanonP q) : Canon (vCross p q) := fSub_canon (fMul_canon cp.1 cq.2) (fMul_canon cp.2 cq.1)
def areaL (ss : List (P2 × P2)) : Int × Int := ss.foldl (fun t s => fAdd t (vCross s.1 s.2)) (0, 1)
def spArea (K : PySem.W.Frag) : Sp := fun vs H Q _ => ∃ a us ps N, vs = [.ref a] ∧ SqT K H a us ∧ Each (PP K H) us ps ∧ 2 ≤ ps.length ∧ ps.length ≤ 40 ∧ (∀ p ∈ ps, CanonP p ∧ SmP N p) ∧ N ≤ 900 ∧ ps.length * (4 * N + 2) ≤ 3900 ∧ RetP K H (areaL (sideL ps)) Q
theorem ok__doubled_area (T : Txt K mg A) : FnOk P w K mg base CX0 5 A.f__doubled_area A.d__doubled_area ["corners"] (spArea K) := by
  refine T._doubled_area.F.ok sc__doubled_area (fun vs H Q E h => ?_) (fun cdv A' outer s H vs Q E hr h => ?_)
  · obtain ⟨_, _, _, _, rfl, _⟩ := h; rfl
  · obtain ⟨a, us, ps, N0, rfl, ha, he, h2, h40, hc, hN9, hb, ret⟩ := h
    refine ⟨_, (pss_cons (ps_set (i := 1) sc__doubled_area.nd rfl (.inl rfl) (pe_glob (v := .ref A.a_ZERO) (by rfl) T.g_ZERO rfl))
      (pss_cons (ps_for PassesOwn.never rfl (pi_tup (pe_call (ok_sides_of T) (hr.mono (by decide)) (by rfl) T.sides_of.g T.sides_of.F.kp T.sides_of.b .nil pass0 (pa_cons (pv 0) pa_nil))) (pg_tup rfl (pgs_cons (pg_name (i := 2) sc__doubled_area.nd rfl (.inl rfl)) (pgs_cons (pg_name (i := 3) sc__doubled_area.nd rfl (.inl rfl)) pgs_nil))) (pss_one (ps_set (i := 1) sc__doubled_area.nd rfl (.inl rfl) (pe_call (ok_sum_of T) (hr.mono (by decide)) (by rfl) T.sum_of.g T.sum_of.F.kp T.sum_of.b .nil pass0 (pa_cons (pv 1) (pa_cons (pe_call (ok_cross_of T) (hr.mono (by decide)) (by rfl) T.cross_of.g T.cross_of.F.kp T.cross_of.b .nil pass0 (pa_cons (pv 2) (pa_cons (pv 3) pa_nil))) pa_nil))))))
      (pss_one (ps_ret (pv 1))))), ?_⟩
    refine seq_by fun N hN => ?_
    walk_at "vc"
    subst hN
    refine seq_by fun N hN => ?_
    walk_at "vc"
    refine ⟨_, rfl, _, us, ps, rfl, ha, he, h2, h40, fun H1 b ws s1 hb1 hw => ?_⟩
    have hlw : ws.length = ps.length := by rw [hw.1, sideL_len]
    have part : ∀ i, i ≤ ps.length → Canon (areaL ((sideL ps).take i)) ∧ Sm (1 + i * (4 * N0 + 2)) (areaL ((sideL ps).take i)) := by
      intro i
      induction i with
      | zero =>
        intro _
        exact ⟨show Canon (0, 1) from ⟨by decide, by decide⟩, by show Sm _ (0, 1); exact ⟨by show 0 < _; exact Nat.pow_pos (by decide), by show 1 < _; exact Nat.one_lt_two_pow (by omega)⟩⟩
      | succ i ih =>
        intro hi
        obtain ⟨c, m⟩ := ih (by omega)
        have e : (sideL ps).take (i + 1) = (sideL ps).take i ++ [(ps[i], ps[(i + 1) % ps.length]'(Nat.mod_lt _ (by omega)))] := by
          rw [List.take_add_one, sideL_at (by omega)]
          rfl
        have ea : areaL ((sideL ps).take (i + 1)) = fAdd (areaL ((sideL ps).take i)) (vCross ps[i] (ps[(i + 1) % ps.length]'(Nat.mod_lt _ (by omega)))) := by
          unfold areaL
          rw [e, List.foldl_append]
          rfl
        obtain ⟨c1, m1⟩ := hc _ (List.getElem_mem (show i < ps.length by omega))
        obtain ⟨c2, m2⟩ := hc _ (List.getElem_mem (show (i + 1) % ps.length < ps.length from Nat.mod_lt _ (by omega)))
        rw [ea]
        refine ⟨fAdd_canon c (vCross_canon c1 c2), (fAdd_sm2 c (vCross_canon c1 c2) m (vCross_sm c1 c2 m1 m2)).up ?_⟩
        rw [Nat.add_mul i 1, Nat.one_mul]
        omega
    have bnd : ∀ i, i ≤ ps.length → 1 + i * (4 * N0 + 2) ≤ 4000 := fun i hi => by
      have := Nat.mul_le_mul_right (4 * N0 + 2) hi
      omega
    refine ⟨b, rfl, ⟨ws, hb1⟩, for_tup (xs := ws) (fun i σ H3 => Same H1 H3 ∧ ∃ q o2 o3, σ = [some (.ref a), some q, o2, o3] ∧ Pr K H3 q (areaL ((sideL ps).take i))) ⟨Same.refl _, _, none, none, rfl, _, rfl, T.v_ZERO _⟩ (fun i σ H3 _ h => same_tup h.1 hb1) ?_ ?_⟩
    · rintro i x σ H3 hx ⟨s3, q, o2, o3, rfl, hq⟩
      obtain ⟨sd, hsd, hS⟩ := hw.of hx
      have hi : i < ps.length := by
        have := (List.getElem?_eq_some_iff.mp hsd).1
        rw [sideL_len] at this
        exact this
      obtain ⟨pc, pm⟩ := part i (by omega)
      obtain ⟨pc', pm'⟩ := part (i + 1) (by omega)
      have eT : (sideL ps).take (i + 1) = (sideL ps).take i ++ [sd] := by
        rw [List.take_add_one, hsd]
        rfl
      rw [sideL_at hi] at hsd
      obtain rfl := Option.some.inj hsd
      obtain ⟨c1, m1⟩ := hc _ (List.getElem_mem hi)
      obtain ⟨c2, m2⟩ := hc _ (List.getElem_mem (show (i + 1) % ps.length < ps.length from Nat.mod_lt _ (by omega)))
      obtain ⟨d, y, z, rfl, hd, hy, hz⟩ := hS.same s3
      walk_at "vc"
      refine ⟨_, hd, rfl, _, _, rfl, _, _, rfl, rfl, _, _, _, _, rfl, hy, hz, c1, c2, m1.up (by omega), m2.up (by omega), fun H4 r s4 hr4 => ?_⟩
      refine ⟨_, _, _, _, rfl, hq.same s4, ⟨_, rfl, hr4⟩, pm.up (bnd i (by omega)), (vCross_sm c1 c2 m1 m2).up (by omega), ⟨canon_ne pc, canon_ne (vCross_canon c1 c2)⟩, fun H5 r5 s5 h5 => ⟨(s3.trans s4).trans s5, ⟨_, rfl, ?_⟩⟩⟩
      rw [eT]
      unfold areaL at h5 ⊢
      rw [List.foldl_append]
      exact h5
    · rintro σ H3 ⟨s3, q, o2, o3, rfl, hq⟩
      rw [hlw, ← sideL_len ps, List.take_length] at hq
      subst hN
      walk_at "vc"
      obtain ⟨p, rfl, hp⟩ := hq
      exact ret _ _ (s1.trans s3) hp
end
end Odd
namespace Odd
open PySem PySem.Spec PyProof.Rows L2
local macro_rules | `(tactic| walk_at "vc") => `(tactic| simp only [tSeq, tAsg, gName, tCB, tCons, tNil, tVar, tC, tOp, tUn, rI0, rI, rU, tTup, tLst, tIfS, tTest, tB, tRet, tNext, rGcd, L2.start, List.map, List.set, List.replicate, List.cons_append, List.nil_append, List.length_cons, List.length_nil, List.getElem?_cons_succ, List.getElem?_cons_zero, Option.some.injEq, exists_eq_left', exists_eq_left, List.append_nil, List.cons.injEq, V.int.injEq, exists_and_left, and_true, true_and, and_assoc, exists_const, V.bl.injEq, V.ref.injEq, Nat.sub_self, Nat.reduceAdd, Nat.reduceSub, List.replicate_succ, List.replicate_zero, tAnd, tOr, tNot, tAndV, tOrV, tNotV, tIf, tCall, tCallK, tDrop, rEq, rNe, decide_eq_true_eq, Bool.not_eq_true', decide_eq_false_iff_not, Bool.false_eq_true, if_true, if_false, reduceIte, reduceCtorEq, tMkLow, tRaiseLow, rIsB, rNotB, tBreak, tPar, gSub, rSetL, tChain, gTup, gCons, gNil, gSeq, cx_K, cx_Kn, optV, V.str.injEq, Bool.not_true, Bool.not_false, false_and, and_false, or_false, false_or, exists_false, tCallN, tCallS, tPairs])
section
variable {P : Program} {w : World} {K : PySem.W.Frag} {mg : Str → Option Value} {base : Heap} {A : Ads}
/-- sides that are no neighbours have no point in common -/
def AllApart (ss : List (P2 × P2)) : Prop := ∀ i j s t, i < j → ss[i]? = some s → ss[j]? = some t → nextB i j ss.length = false → Apart s t
def spMeeting (K : PySem.W.Frag) : Sp := fun vs H Q _ => ∃ a us ss, vs = [.ref a] ∧ SqT K H a us ∧ Each (Sd K H) us ss ∧ 3 ≤ ss.length ∧ ss.length ≤ 40 ∧ (∀ s ∈ ss, SmS 900 s) ∧ AllApart ss ∧ RetV H .non Q
theorem ok__meeting (T : Txt K mg A) : FnOk P w K mg base CX0 7 A.f__meeting A.d__meeting ["sides"] (spMeeting K) := by
  refine T._meeting.F.ok sc__meeting (fun vs H Q E h => ?_) (fun cdv A' outer s H vs Q E hr h => ?_)
  · obtain ⟨_, _, _, rfl, _⟩ := h; rfl
  · obtain ⟨a, us, ss, rfl, ha, he, h3, h40, hm, hap, ret⟩ := h
    refine ⟨_, (pss_cons (ps_set (i := 1) sc__meeting.nd rfl (.inl rfl) (pe_callB call_len_seq (by rfl) T.n_len bt_len (pa_cons (pv 0) pa_nil)))
      (pss_cons (ps_for PassesOwn.never rfl (pi_range1 rfl T.n_range (pa_cons (pv 1) pa_nil)) (pg_name (i := 2) sc__meeting.nd rfl (.inl rfl)) (pss_one (ps_for PassesOwn.never rfl (pi_range2 rfl T.n_range (pa_cons (pe_op op_add (pv 2) pe_int) (pa_cons (pv 1) pa_nil))) (pg_name (i := 3) sc__meeting.nd rfl (.inl rfl)) (pss_cons (ps_if (pt_val (pe_call (ok_are_next T) (hr.mono (by decide)) (by rfl) T.are_next.g T.are_next.F.kp T.are_next.b .nil pass0 (pa_cons (pv 2) (pa_cons (pv 3) (pa_cons (pv 1) pa_nil))))) (pss_one ps_continue) pss_nil)
      (pss_cons (ps_set (i := 4) sc__meeting.nd rfl (.inl rfl) (pe_call (ok_common_point T) (hr.mono (by decide)) (by rfl) T.common_point.g T.common_point.F.kp T.common_point.b .nil pass0 (pa_cons (pe_ix ix_tup (pv 0) (pv 2) (fun _ _ => rfl)) (pa_cons (pe_ix ix_tup (pv 0) (pv 3) (fun _ _ => rfl)) pa_nil))))
      (pss_one (ps_if (pt_cmpR op_notN (pv 4) pe_non (nomark _)) (pss_one ps_never) pss_nil)))))))
      (pss_one (ps_ret pe_non)))), ?_⟩
    refine seq_by fun N hN => ?_
    walk_at "vc"
    have l1 := he.1
    refine ⟨us, .inr ha, ?_⟩
    rw [l1]
    subst hN
    refine seq_by fun N hN => ?_
    walk_at "vc"
    refine ⟨_, rfl, _, rfl, by omega, by omega, for_range (n := (ss.length : Int).toNat) (fun i σ H' => Same H H' ∧ ∃ o2 o3 o4, σ = [some (.ref a), some (.int (ss.length : Nat)), o2, o3, o4]) ⟨Same.refl _, _, _, _, rfl⟩ ?_ ?_⟩
    · rintro i σ H2 hi ⟨s2, o2, o3, o4, rfl⟩
      have hi : i < ss.length := by omega
      rw [show ((0 : Int) + (i : Nat)) = (i : Nat) by omega]
      walk_at "vc"
      refine ⟨_, rfl, _, _, rfl, rfl, _, rfl, _, _, rfl, ⟨by omega, by omega, by omega, by omega⟩, for_range (n := (((ss.length : Nat) : Int) - ((i : Nat) + 1)).toNat) (fun j σ H' => Same H H' ∧ ∃ o3 o4, σ = [some (.ref a), some (.int (ss.length : Nat)), some (.int (i : Nat)), o3, o4]) ⟨s2, _, _, rfl⟩ ?_ ?_⟩
      · rintro d σ H3 hd ⟨s3, o3, o4, rfl⟩
        obtain ⟨j, hj⟩ : ∃ j : Nat, j = i + 1 + d := ⟨_, rfl⟩
        have hjl : j < ss.length := by omega
        rw [show (((i : Nat) : Int) + 1 + (d : Nat)) = (j : Nat) by omega]
        walk_at "vc"
        refine ⟨_, _, _, rfl, h3, by omega, hi, hjl, fun H4 s4 => ⟨_, rfl, ?_⟩⟩
        have s04 := s3.trans s4
        split
        · exact ⟨s04, _, _, rfl⟩
        · rename_i hb
          rw [Bool.not_eq_true] at hb
          have ei : ss[i]? = some ss[i] := List.getElem?_eq_getElem hi
          have ej : ss[j]? = some ss[j] := List.getElem?_eq_getElem hjl
          obtain ⟨v, hv, hS⟩ := he.at ei
          obtain ⟨u, hu, hT⟩ := he.at ej
          have ha4 := same_tup s04 ha
          refine ixT ha4 (atI_nat hv) (ixT ha4 (atI_nat hu) ⟨v, u, _, _, rfl, hS.same s04, hT.same s04, hm _ (List.getElem_mem hi), hm _ (List.getElem_mem hjl), hap i j _ _ (by omega) ei ej hb, fun H5 s5 => ?_⟩)
          show (if ¬ (V.non = V.non) then _ else _)
          rw [if_neg (fun (z : ¬ (V.non = V.non)) => z rfl)]
          exact ⟨s04.trans s5, _, rfl⟩
      · rintro σ H3 ⟨s3, o3, o4, rfl⟩
        exact ⟨s3, _, _, _, rfl⟩
    · rintro σ H2 ⟨s2, o2, o3, o4, rfl⟩
      subst hN
      walk_at "vc"
      exact ret _ s2
/-- what a row of corners must be: sides have length, none goes straight back, none meet -/
structure Whole (N : Nat) (ps : List P2) : Prop where
  len : 3 ≤ ps.length ∧ ps.length ≤ 40
  pts : ∀ p ∈ ps, CanonP p ∧ SmP N p
  n9 : N ≤ 900
  area : ps.length * (4 * N + 2) ≤ 3900
  short : ∀ s ∈ sideL ps, s.1 ≠ s.2
  back : ∀ i s t, (sideL ps)[(i + ps.length - 1) % ps.length]? = some s → (sideL ps)[i]? = some t → backB s t = false
  apart : AllApart (sideL ps)
theorem Whole.sides {N : Nat} {ps : List P2} (w : Whole N ps) : ∀ s ∈ sideL ps, SmS 900 s ∧ CanS s := by
  intro s hs
  obtain ⟨i, hi, rfl⟩ := List.mem_iff_getElem.mp hs
  rw [sideL_len] at hi
  have e := sideL_at hi
  rw [List.getElem?_eq_getElem (by rw [sideL_len]; exact hi)] at e
  rw [Option.some.inj e]
  obtain ⟨c1, m1⟩ := w.pts _ (List.getElem_mem hi)
  obtain ⟨c2, m2⟩ := w.pts _ (List.getElem_mem (show (i + 1) % ps.length < ps.length from Nat.mod_lt _ (by omega)))
  exact ⟨⟨m1.up w.n9, m2.up w.n9⟩, c1, c2⟩
/-- the paper that says that all is well -/
def IsClosed (C : Addr) (b : Bool) (H : Hp) (x : Addr) : Prop := ∃ dx fs, H x = some (.ins C dx fs) ∧ fs.lookup ("is_left" : Str) = some (V.bl b)
end
section
variable {w : World} {K : PySem.W.Frag} {mg : Str → Option Value} {base : Heap} {A : Ads}
def spJudged (K : PySem.W.Frag) (C : Addr) : Sp := fun vs H Q _ => ∃ a us ps N, vs = [.ref a] ∧ SqT K H a us ∧ Each (PP K H) us ps ∧ Whole N ps ∧ ∀ H' x, Same H H' → H x = none → IsClosed C (decide (0 < (areaL (sideL ps)).1)) H' x → Q (.ref x) H'
theorem ok__judged (T : Txt K mg A) : FnOk PG w K mg base CX0 9 A.f__judged A.d__judged ["corners"] (spJudged K A.C_Closed) := by
  refine T._judged.F.ok sc__judged (fun vs H Q E h => ?_) (fun cdv A' outer s H vs Q E hr h => ?_)
  · obtain ⟨_, _, _, _, rfl, _⟩ := h; rfl
  · obtain ⟨a, us, ps, N0, rfl, ha, he, wh, q⟩ := h
    refine ⟨_, (pss_cons (ps_set (i := 1) sc__judged.nd rfl (.inl rfl) (pe_call (ok_sides_of T) (hr.mono (by decide)) (by rfl) T.sides_of.g T.sides_of.F.kp T.sides_of.b .nil pass0 (pa_cons (pv 0) pa_nil)))
      (pss_cons (ps_for PassesOwn.never rfl (OZ.pi_enumT rfl T.n_enumerate (pa_cons (pv 1) pa_nil)) (pg_tup rfl (pgs_cons (pg_name (i := 2) sc__judged.nd rfl (.inl rfl)) (pgs_cons (pg_name (i := 3) sc__judged.nd rfl (.inl rfl)) pgs_nil))) (pss_one (ps_if (pt_cmpR (op_eqD hr.units) (pe_ix ix_tup (pv 3) pe_int (fun _ _ => rfl)) (pe_ix ix_tup (pv 3) pe_int (fun _ _ => rfl)) (nomark _)) (pss_one ps_never) pss_nil)))
      (pss_cons (ps_for PassesOwn.never rfl (OZ.pi_enumT rfl T.n_enumerate (pa_cons (pv 1) pa_nil)) (pg_tup rfl (pgs_cons (pg_name (i := 2) sc__judged.nd rfl (.inl rfl)) (pgs_cons (pg_name (i := 3) sc__judged.nd rfl (.inl rfl)) pgs_nil))) (pss_one (ps_if (pt_val (pe_call (ok__goes_back T) (hr.mono (by decide)) (by rfl) T._goes_back.g T._goes_back.F.kp T._goes_back.b .nil pass0 (pa_cons (pe_ix ix_tup (pv 1) (pe_op op_sub (pv 2) pe_int) (fun _ _ => rfl)) (pa_cons (pv 3) pa_nil)))) (pss_one ps_never) pss_nil)))
      (pss_cons (ps_set (i := 4) sc__judged.nd rfl (.inl rfl) (pe_call (ok__meeting T) (hr.mono (by decide)) (by rfl) T._meeting.g T._meeting.F.kp T._meeting.b .nil pass0 (pa_cons (pv 1) pa_nil)))
      (pss_cons (ps_if (pt_cmpR op_notN (pv 4) pe_non (nomark _)) (pss_one ps_never) pss_nil)
      (pss_one (ps_ret (pe_make T.mk_Closed (ok_Closed_init T) (hr.mono (by decide)) (by rfl) T.m_Closed (T.b_Closed) .nil pass0 (pa_cons (pe_cmpR op_gt (pe_ix ix_tup (pe_call (ok__doubled_area T) (hr.mono (by decide)) (by rfl) T._doubled_area.g T._doubled_area.F.kp T._doubled_area.b .nil pass0 (pa_cons (pv 0) pa_nil)) pe_int (fun _ _ => rfl)) pe_int (nomark _)) pa_nil))))))))), ?_⟩
    refine seq_by fun N hN => ?_
    walk_at "vc"
    refine ⟨_, us, ps, rfl, ha, he, by have := wh.len; omega, wh.len.2, fun H1 b ws s1 hb hw => ?_⟩
    have hlw : ws.length = ps.length := by rw [hw.1, sideL_len]
    subst hN
    refine seq_by fun N hN => ?_
    walk_at "vc"
    refine ⟨_, rfl, _, ws, rfl, hb, OZ.for_enumT (xs := ws) (fun i σ H3 => Same H1 H3 ∧ ∃ o2 o3, σ = [some (.ref a), some (.ref b), o2, o3, none]) ⟨Same.refl _, _, _, rfl⟩ (fun i σ H3 h => same_tup h.1 hb) ?_ ?_⟩
    · rintro i x U σ H3 hx ⟨s3, o2, o3, rfl⟩ hU
      have s4 := s3.trans (same_upd (o := .tup [.int (i : Nat), x]) hU)
      have hU4 : SqT K (upd H3 U (.tup [.int (i : Nat), x])) U [.int (i : Nat), x] := st_of upd_same
      generalize upd H3 U (.tup [.int (i : Nat), x]) = H4 at *
      obtain ⟨sd, hsd, hS⟩ := hw.of hx
      have hmem := List.mem_of_getElem? hsd
      obtain ⟨d, y, z, rfl, hd, hy, hz⟩ := hS.same s4
      walk_at "vc"
      refine ⟨_, hU4, rfl, _, _, rfl, _, _, rfl, rfl, ?_⟩
      refine ixT hd rfl (ixT hd rfl ⟨_, _, dp_pp hy, dp_pp hz, sh_pp _, sh_pp _, ?_⟩)
      rw [eqv_pp]
      refine ⟨_, rfl, ?_⟩
      rw [if_neg (by rw [decide_eq_true_eq]; exact wh.short _ hmem)]
      exact ⟨s4, _, rfl⟩
    · rintro σ H3 ⟨s3, o2, o3, rfl⟩
      show N _ _
      have s13 := s1.trans s3
      have hb3 := same_tup s3 hb
      have ha3 := same_tup s13 ha
      have hw3 : Each (Sd K H3) ws (sideL ps) := hw.imp fun v x z => z.same s3
      clear s3 hw hb
      subst hN
      refine seq_by fun N hN => ?_
      walk_at "vc"
      refine ⟨_, rfl, _, ws, rfl, hb3, OZ.for_enumT (xs := ws) (fun i σ H4 => Same H3 H4 ∧ ∃ o2 o3, σ = [some (.ref a), some (.ref b), o2, o3, none]) ⟨Same.refl _, _, _, rfl⟩ (fun i σ H4 h => same_tup h.1 hb3) ?_ ?_⟩
      · rintro i x U σ H4 hx ⟨s4, p2, p3, rfl⟩ hU
        have s5 := s4.trans (same_upd (o := .tup [.int (i : Nat), x]) hU)
        have hU5 : SqT K (upd H4 U (.tup [.int (i : Nat), x])) U [.int (i : Nat), x] := st_of upd_same
        generalize upd H4 U (.tup [.int (i : Nat), x]) = H5 at *
        obtain ⟨sd, hsd, hS⟩ := hw3.of hx
        have hil : i < ps.length := by
          have := (List.getElem?_eq_some_iff.mp hsd).1
          rw [sideL_len] at this
          exact this
        have h3' := wh.len.1
        obtain ⟨sd2, hsd2⟩ : ∃ s, (sideL ps)[(i + ps.length - 1) % ps.length]? = some s := ⟨_, sideL_at (Nat.mod_lt _ (by omega))⟩
        obtain ⟨v2, hv2, hS2⟩ := hw3.at hsd2
        have ix : atI ws ((i : Nat) - 1 : Int) = some v2 := by
          unfold atI ixN
          by_cases c : i = 0
          · subst c
            rw [if_neg (by omega), if_pos (by omega)]
            show ws[((0 : Nat) - 1 + (ws.length : Int)).toNat]? = some v2
            rw [← hv2]
            congr 1
            rw [Nat.mod_eq_of_lt (by omega)]
            omega
          · rw [if_pos (by omega), if_pos (by omega)]
            show ws[((i : Nat) - 1 : Int).toNat]? = some v2
            rw [← hv2]
            congr 1
            have : (i + ps.length - 1) % ps.length = i - 1 := by
              rw [show i + ps.length - 1 = i - 1 + ps.length by omega, Nat.add_mod_right, Nat.mod_eq_of_lt (by omega)]
            rw [this]
            omega
        have hb5 := same_tup s5 hb3
        walk_at "vc"
        refine ⟨_, hU5, rfl, _, _, rfl, _, _, rfl, rfl, ?_⟩
        obtain ⟨m1, c1⟩ := wh.sides _ (List.mem_of_getElem? hsd)
        obtain ⟨m2, c2⟩ := wh.sides _ (List.mem_of_getElem? hsd2)
        refine ⟨_, rfl, ixT hb5 ix ⟨_, _, _, _, rfl, hS2.same s5, hS.same s5, m2, m1, c2, c1, fun H6 s6 => ?_⟩⟩
        rw [wh.back i _ _ hsd2 hsd]
        refine ⟨_, rfl, ?_⟩
        rw [if_neg Bool.false_ne_true]
        exact ⟨s5.trans s6, _, rfl⟩
      · rintro σ H4 ⟨s4, p2, p3, rfl⟩
        show N _ _
        subst hN
        refine seq_by fun N hN => ?_
        walk_at "vc"
        have hb4 := same_tup s4 hb3
        have s14 := s13.trans s4
        have hw4 : Each (Sd K H4) ws (sideL ps) := hw3.imp fun v x z => z.same s4
        refine ⟨b, ws, sideL ps, rfl, hb4, hw4, by rw [sideL_len]; exact wh.len.1, by rw [sideL_len]; exact wh.len.2, fun s hs => (wh.sides s hs).1, wh.apart, fun H5 s5 => ?_⟩
        subst hN
        refine seq_by fun N hN => ?_
        walk_at "vc"
        rw [if_neg (fun z => z trivial)]
        have s15 := s14.trans s5
        subst hN
        walk_at "vc"
        simp only [tMake]
        walk_at "vc"
        refine ⟨a, us, ps, N0, rfl, same_tup s15 ha, he.imp fun v x z => z.same s15, by have := wh.len; omega, wh.len.2, wh.pts, wh.n9, wh.area, fun H6 p s6 hp => ?_⟩
        refine ixT hp rfl ⟨_, rfl, fun x dx hx hdx hne => ?_⟩
        have s16 := s15.trans s6
        refine ⟨x, _, dx, rfl, upd_same, fun H7 fs keep hx7 hl => ⟨rfl, ?_⟩⟩
        refine q H7 x (fun c o e => ?_) ?_ ⟨dx, fs, hx7, hl⟩
        · have e6 := s16 c o e
          have cx : c ≠ x := ne_of_none e6 hx
          refine keep c o cx ?_
          rw [upd_ne cx, upd_ne (ne_of_none e6 hdx)]
          exact e6
        · cases e : H x with
          | none => rfl
          | some o =>
            rw [s16 x o e] at hx
            cases hx
end
end Odd
namespace Odd
open PySem PySem.Spec PyProof.Rows L2
local macro_rules | `(tactic| walk_at "vc") => `(tactic| simp only [tSeq, tAsg, gName, tCB, tCons, tNil, tVar, tC, tOp, tUn, rI0, rI, rU, tTup, tLst, tIfS, tTest, tB, tRet, tNext, rGcd, L2.start, List.map, List.set, List.replicate, List.cons_append, List.nil_append, List.length_cons, List.length_nil, List.getElem?_cons_succ, List.getElem?_cons_zero, Option.some.injEq, exists_eq_left', exists_eq_left, List.append_nil, List.cons.injEq, V.int.injEq, exists_and_left, and_true, true_and, and_assoc, exists_const, V.bl.injEq, V.ref.injEq, Nat.sub_self, Nat.reduceAdd, Nat.reduceSub, List.replicate_succ, List.replicate_zero, tAnd, tOr, tNot, tAndV, tOrV, tNotV, tIf, tCall, tCallK, tDrop, rEq, rNe, decide_eq_true_eq, Bool.not_eq_true', decide_eq_false_iff_not, Bool.false_eq_true, if_true, if_false, reduceIte, reduceCtorEq, tMkLow, tRaiseLow, rIsB, rNotB, tBreak, tPar, gSub, rSetL, tChain, gTup, gCons, gNil, gSeq, cx_K, cx_Kn, optV, V.str.injEq, Bool.not_true, Bool.not_false, false_and, and_false, or_false, false_or, exists_false, tCallN, tCallS, tPairs])
section
variable {P : Program} {w : World} {K : PySem.W.Frag} {mg : Str → Option Value} {base : Heap} {A : Ads}
theorem prev_at {α : Type} {us : List V} {ps : List α} {i : Nat} {v2 : V} (l1 : us.length = ps.length) (h3 : 3 ≤ ps.length) (hi : i < ps.length) (hv2 : us[(i + ps.length - 1) % ps.length]? = some v2) : atI us ((i : Nat) - 1 : Int) = some v2 := by
  unfold atI ixN
  by_cases c : i = 0
  · subst c
    rw [if_neg (by omega), if_pos (by omega)]
    show us[((0 : Nat) - 1 + (us.length : Int)).toNat]? = some v2
    rw [← hv2]
    congr 1
    rw [Nat.mod_eq_of_lt (by omega)]
    omega
  · rw [if_pos (by omega), if_pos (by omega)]
    show us[((i : Nat) - 1 : Int).toNat]? = some v2
    rw [← hv2]
    congr 1
    have : (i + ps.length - 1) % ps.length = i - 1 := by
      rw [show i + ps.length - 1 = i - 1 + ps.length by omega, Nat.add_mod_right, Nat.mod_eq_of_lt (by omega)]
    rw [this]
    omega
theorem sign3 (a : Int) : a.sign = -1 ∨ a.sign = 0 ∨ a.sign = 1 := by
  rcases Int.lt_trichotomy a 0 with h | h | h
  · exact .inl (Int.sign_eq_neg_one_of_neg h)
  · subst h; exact .inr (.inl rfl)
  · exact .inr (.inr (Int.sign_eq_one_of_pos h))
def spBends (K : PySem.W.Frag) : Sp := fun vs H Q _ => ∃ a us ps, vs = [.ref a] ∧ SqT K H a us ∧ Each (PP K H) us ps ∧ 3 ≤ ps.length ∧ ps.length ≤ 40 ∧ (∀ p ∈ ps, SmP 900 p) ∧ ∀ H' b, Same H H' → Q (.ref b) H'
theorem ok__bends_of (T : Txt K mg A) : FnOk P w K mg base CX0 5 A.f__bends_of A.d__bends_of ["corners"] (spBends K) := by
  refine T._bends_of.F.ok sc__bends_of (fun vs H Q E h => ?_) (fun cdv A' outer s H vs Q E hr h => ?_)
  · obtain ⟨_, _, _, rfl, _⟩ := h; rfl
  · obtain ⟨a, us, ps, rfl, ha, he, h3, h40, hm, q⟩ := h
    refine ⟨_, (pss_one (ps_ret (pe_callTy call_tuple_of (by rfl) T.n_tuple bt_tuple (pa_cons (pe_lc (own := [("number", 1), ("start", 2), ("end", 3)]) (g := gTup K 2 (gCons (gName 1) (gCons (gTup K 2 (gCons (gName 2) (gCons (gName 3) gNil))) gNil))) (tt := tYes) rfl sc__bends_of.nd (OZ.pi_enumT (by rfl) T.n_enumerate (pa_cons (pe_call (ok_sides_of T) (hr.mono (by decide)) (by rfl) T.sides_of.g T.sides_of.F.kp T.sides_of.b .nil pass0 (pa_cons (pv 0) pa_nil)) pa_nil)) (blkOk_by (N := ["corners", "number", "start", "end"]) (sc := defScope s__bends_of) (by decide +kernel)) (fun _ _ _ _ _ => OZ.pg_tupK (K := K) (n := 2) rfl rfl (pgs_cons (pg_name (i := 1) sc__bends_of.nd rfl (Or.inl rfl)) (pgs_cons (OZ.pg_tupK (K := K) (n := 2) rfl rfl (pgs_cons (pg_name (i := 2) sc__bends_of.nd rfl (Or.inl rfl)) (pgs_cons (pg_name (i := 3) sc__bends_of.nd rfl (Or.inl rfl)) pgs_nil))) pgs_nil))) (fun _ _ _ _ _ => pts_nil) (fun _ _ _ _ _ => (pe_ix (OZ.ix_kdictIK (K := K) rfl) (pe_glob (v := .ref A.a_BENDS) (by rfl) T.g_BENDS rfl) (pe_call (ok_bend T) (hr.mono (by decide)) (by rfl) T.bend.g T.bend.F.kp T.bend.b .nil pass0 (pa_cons (pe_ix (OZ.ix_tupK (K := K) rfl) (pv 0) (pe_op op_sub (pv 1) pe_int) (fun _ _ => rfl)) (pa_cons (pv 2) (pa_cons (pv 3) pa_nil)))) (fun _ _ => rfl)))) pa_nil)))), ?_⟩
    walk_at "vc"
    have l1 := he.1
    refine ⟨_, rfl, _, us, ps, rfl, ha, he, by omega, h40, fun H1 b ws s1 hb hw => ?_⟩
    have hlw : ws.length = ps.length := by rw [hw.1, sideL_len]
    refine ⟨b, ws, rfl, hb, fun D hD => ?_⟩
    refine lc_it OZ.walk_enumT (fun i H3 => Same H1 H3 ∧ ∃ acc, H3 D = some (.lst acc) ∧ acc.length = i) ⟨same_upd hD, _, upd_same, rfl⟩ (fun i H3 _ h => same_tup h.1 hb) ?_ ?_
    · rintro i x H3 H4 hi ⟨s3, acc, e3, l3⟩ ⟨U, y, rfl, hU, rfl, hy⟩
      have s4 := same_upd (o := .tup [.int (i : Nat), y]) hU
      have hU4 : SqT K (upd H3 U (.tup [.int (i : Nat), y])) U [.int (i : Nat), y] := st_of upd_same
      have e4 := s4 _ _ e3
      generalize upd H3 U (.tup [.int (i : Nat), y]) = H4 at *
      have S4 := s3.trans s4
      have S04 := s1.trans S4
      obtain ⟨sd, hsd, hS⟩ := hw.of hy
      have hi : i < ps.length := by omega
      rw [sideL_at hi] at hsd
      obtain rfl := Option.some.inj hsd
      obtain ⟨d, y1, y2, rfl, hd, hy1, hy2⟩ := hS.same S4
      obtain ⟨p2, hp2⟩ : ∃ p, ps[(i + ps.length - 1) % ps.length]? = some p := ⟨_, List.getElem?_eq_getElem (Nat.mod_lt _ (by omega))⟩
      obtain ⟨v2, hv2, hP2⟩ := he.at hp2
      have ix : atI us ((i : Nat) - 1 : Int) = some v2 := prev_at l1 h3 hi hv2
      have ha4 := same_tup S04 ha
      have e34 := s3
      refine ⟨U, _, rfl, hU4, rfl, ?_⟩
      walk_at "vc"
      refine ⟨_, hd, rfl, _, _, rfl, _, _, rfl, rfl, rfl, ?_⟩
      simp only [tYes, if_true]
      have P1 := hm _ (List.getElem_mem hi)
      have P3 := hm _ (List.getElem_mem (show (i + 1) % ps.length < ps.length from Nat.mod_lt _ (by omega)))
      have P2' := hm _ (List.mem_of_getElem? hp2)
      refine ⟨_, rfl, _, rfl, _, rfl, ixT ha4 ix ⟨_, rfl, _, rfl, _, _, _, _, _, _, rfl, hP2.same S04, hy1, hy2, P2', P1, P3, fun H5 s5 => ?_⟩⟩
      obtain ⟨z, hz⟩ := T.v_BENDS _ (sign3 (bdN p2 ps[i] (ps[(i + 1) % ps.length]'(Nat.mod_lt _ (by omega)))))
      refine ⟨_, _, _, rfl, rfl, hz, acc, s5 _ _ e4, by rw [l3]; exact small1000 (by omega), fun c o e => ?_, _, upd_same, by simp [l3]⟩
      rw [upd_ne (ne_of_none e hD)]
      exact s5 _ _ (S4 _ _ e)
    · rintro H3 ⟨s3, acc, e3, l3⟩
      refine ⟨D, rfl, acc, .inl ⟨sl_of e3, fun l hl => q _ _ ((s1.trans s3).trans (same_upd hl))⟩⟩
end
end Odd
namespace Odd
open PySem PySem.Spec PyProof.Rows L2
local macro_rules | `(tactic| walk_at "vc") => `(tactic| simp only [tSeq, tAsg, gName, tCB, tCons, tNil, tVar, tC, tOp, tUn, rI0, rI, rU, tTup, tLst, tIfS, tTest, tB, tRet, tNext, rGcd, L2.start, List.map, List.set, List.replicate, List.cons_append, List.nil_append, List.length_cons, List.length_nil, List.getElem?_cons_succ, List.getElem?_cons_zero, Option.some.injEq, exists_eq_left', exists_eq_left, List.append_nil, List.cons.injEq, V.int.injEq, exists_and_left, and_true, true_and, and_assoc, exists_const, V.bl.injEq, V.ref.injEq, Nat.sub_self, Nat.reduceAdd, Nat.reduceSub, List.replicate_succ, List.replicate_zero, tAnd, tOr, tNot, tAndV, tOrV, tNotV, tIf, tCall, tCallK, tDrop, rEq, rNe, decide_eq_true_eq, Bool.not_eq_true', decide_eq_false_iff_not, Bool.false_eq_true, if_true, if_false, reduceIte, reduceCtorEq, tMkLow, tRaiseLow, rIsB, rNotB, tBreak, tPar, gSub, rSetL, tChain, gTup, gCons, gNil, gSeq, cx_K, cx_Kn, optV, V.str.injEq, Bool.not_true, Bool.not_false, false_and, and_false, or_false, false_or, exists_false, tCallN, tCallS, tPairs])
section
variable {w : World} {K : PySem.W.Frag} {mg : Str → Option Value} {base : Heap} {A : Ads}
/-- an object that is no tuple is written: the tuples stay -/
theorem keep_tupI {H : Hp} {x C dx : Addr} {fs fs' : List (Str × V)} {a : Addr} {xs : List V} (hx : H x = some (.ins C dx fs)) (h : SqT K H a xs) : SqT K (upd H x (.ins C dx fs')) a xs := by
  have ne : ∀ {o}, H a = some o → o ≠ .ins C dx fs → a ≠ x := fun e n z => n (by rw [z, hx] at e; exact (Option.some.inj e).symm)
  rcases h with (h | ⟨o, h⟩) | h
  · exact .inl (.inl (by rw [upd_ne (ne h (fun z => by cases z))]; exact h))
  · exact .inl (.inr ⟨o, by rw [upd_ne (ne h (fun z => by cases z))]; exact h⟩)
  · exact .inr h
theorem pp_keepI {H : Hp} {x C dx : Addr} {fs fs' : List (Str × V)} {v : V} {p : P2} (hx : H x = some (.ins C dx fs)) (h : PP K H v p) : PP K (upd H x (.ins C dx fs')) v p := by
  obtain ⟨a, x, y, rfl, ha, ⟨b, rfl, hb⟩, ⟨c, rfl, hc⟩⟩ := h
  exact ⟨a, _, _, rfl, keep_tupI hx ha, ⟨b, rfl, keep_tupI hx hb⟩, ⟨c, rfl, keep_tupI hx hc⟩⟩
theorem sd_keepI {H : Hp} {x C dx : Addr} {fs fs' : List (Str × V)} {v : V} {p : P2 × P2} (hx : H x = some (.ins C dx fs)) (h : Sd K H v p) : Sd K (upd H x (.ins C dx fs')) v p := by
  obtain ⟨a, y, z, rfl, ha, hy, hz⟩ := h
  exact ⟨a, _, _, rfl, keep_tupI hx ha, pp_keepI hx hy, pp_keepI hx hz⟩
/-- at x: a fence with these corners -/
def FenceAt (K : PySem.W.Frag) (C : Addr) (H : Hp) (x : Addr) (ps : List P2) : Prop := ∃ dx fs a us b ws, H x = some (.ins C dx fs) ∧ fs.lookup ("corners" : Str) = some (.ref a) ∧ SqT K H a us ∧ Each (PP K H) us ps ∧ fs.lookup ("sides" : Str) = some (.ref b) ∧ SqT K H b ws ∧ Each (Sd K H) ws (sideL ps)
theorem FenceAt.same {C : Addr} {H H' : Hp} {x : Addr} {ps : List P2} (s : Same H H') (h : FenceAt K C H x ps) : FenceAt K C H' x ps := by
  obtain ⟨dx, fs, a, us, b, ws, h1, h2, h3, h4, h5, h6, h7⟩ := h
  exact ⟨dx, fs, a, us, b, ws, s _ _ h1, h2, same_tup s h3, h4.imp fun v x z => z.same s, h5, same_tup s h6, h7.imp fun v x z => z.same s⟩
def spFenceLen (K : PySem.W.Frag) (C : Addr) : Sp := fun vs H Q _ => ∃ x ps, vs = [.ref x] ∧ FenceAt K C H x ps ∧ Q (.int (ps.length : Nat)) H
theorem ok_Fence_len (T : Txt K mg A) : FnOk PG w K mg base CX0 1 A.f_Fence_len A.d_Fence_len ["self"] (spFenceLen K A.C_Fence) := by
  refine T.Fence_len.F.ok sc_Fence_len (fun vs H Q E h => ?_) (fun cdv A' outer s H vs Q E hr h => ?_)
  · obtain ⟨_, _, rfl, _⟩ := h; rfl
  · obtain ⟨x, ps, rfl, ⟨dx, fs, a, us, b, ws, h1, h2, h3, h4, h5, h6, h7⟩, q⟩ := h
    refine ⟨_, (pss_one (ps_ret (pe_callB call_len_seq (by rfl) T.n_len bt_len (pa_cons (pe_fld (pv 0) rfl) pa_nil)))), ?_⟩
    walk_at "vc"
    refine ⟨_, rfl, x, A.C_Fence, dx, fs, .ref a, rfl, h1, T.cl_Fence, T.no_Fence_corners, h2, a, rfl, us, .inr h3, ?_⟩
    rw [h4.1]
    exact q
theorem area_part {ps : List P2} {N0 : Nat} (h2 : 2 ≤ ps.length) (hc : ∀ p ∈ ps, CanonP p ∧ SmP N0 p) : ∀ i, i ≤ ps.length → Canon (areaL ((sideL ps).take i)) ∧ Sm (1 + i * (4 * N0 + 2)) (areaL ((sideL ps).take i)) := by
  intro i
  induction i with
  | zero =>
    intro _
    exact ⟨show Canon (0, 1) from ⟨by decide, by decide⟩, by show Sm _ (0, 1); exact ⟨by show 0 < _; exact Nat.pow_pos (by decide), by show 1 < _; exact Nat.one_lt_two_pow (by omega)⟩⟩
  | succ i ih =>
    intro hi
    obtain ⟨c, m⟩ := ih (by omega)
    have e : (sideL ps).take (i + 1) = (sideL ps).take i ++ [(ps[i], ps[(i + 1) % ps.length]'(Nat.mod_lt _ (by omega)))] := by
      rw [List.take_add_one, sideL_at (by omega)]
      rfl
    have ea : areaL ((sideL ps).take (i + 1)) = fAdd (areaL ((sideL ps).take i)) (vCross ps[i] (ps[(i + 1) % ps.length]'(Nat.mod_lt _ (by omega)))) := by
      unfold areaL
      rw [e, List.foldl_append]
      rfl
    obtain ⟨c1, m1⟩ := hc _ (List.getElem_mem (show i < ps.length by omega))
    obtain ⟨c2, m2⟩ := hc _ (List.getElem_mem (show (i + 1) % ps.length < ps.length from Nat.mod_lt _ (by omega)))
    rw [ea]
    refine ⟨fAdd_canon c (vCross_canon c1 c2), (fAdd_sm2 c (vCross_canon c1 c2) m (vCross_sm c1 c2 m1 m2)).up ?_⟩
    rw [Nat.add_mul i 1, Nat.one_mul]
    omega
theorem Whole.area_sm {N : Nat} {ps : List P2} (w : Whole N ps) : Canon (areaL (sideL ps)) ∧ Sm 4000 (areaL (sideL ps)) := by
  have wl := w.len
  obtain ⟨h1, h2⟩ := area_part (by omega) w.pts ps.length (Nat.le_refl _)
  rw [← sideL_len ps, List.take_length] at h1 h2
  rw [sideL_len] at h2
  exact ⟨h1, h2.up (by have := w.area; omega)⟩
def spFenceInit (K : PySem.W.Frag) (C : Addr) : Sp := fun vs H Q _ => ∃ x dx p us ps N, vs = [.ref x, .ref p] ∧ H x = some (.ins C dx []) ∧ Sq K H p us ∧ Each (Pt K H) us ps ∧ Whole N ps ∧ 0 < (areaL (sideL ps)).1 ∧
  ∀ H', (∀ c o, c ≠ x → H c = some o → H' c = some o) → FenceAt K C H' x ps → Q .non H'
theorem ok_Fence_init (T : Txt K mg A) : FnOk PG w K mg base CX0 10 A.f_Fence_init A.d_Fence_init ["self", "corners"] (spFenceInit K A.C_Fence) := by
  refine T.Fence_init.F.ok sc_Fence_init (fun vs H Q E h => ?_) (fun cdv A' outer s H vs Q E hr h => ?_)
  · obtain ⟨_, _, _, _, _, _, rfl, _⟩ := h; rfl
  · obtain ⟨x, dx, p, us, ps, N0, rfl, hx, hu, he, wh, hpos, q⟩ := h
    refine ⟨_, (pss_cons (ps_set (i := 2) sc_Fence_init.nd rfl (.inl rfl) (pe_call (ok__corners_in T) (hr.mono (by decide)) (by rfl) T._corners_in.g T._corners_in.F.kp T._corners_in.b .nil pass0 (pa_cons (pv 1) pa_nil)))
      (pss_cons (ps_set (i := 3) sc_Fence_init.nd rfl (.inl rfl) (pe_call (ok__judged T) (hr.mono (by decide)) (by rfl) T._judged.g T._judged.F.kp T._judged.b .nil pass0 (pa_cons (pv 2) pa_nil)))
      (pss_cons (ps_if (pt_not (pt_boolO T.bool_Closed T.boolT ((ok_Paper_bool T).raw T.Paper_bool.b .nil) (hr.mono (by decide)) (pv 3))) (pss_one ps_never) pss_nil)
      (pss_cons (ps_if (pt_not (pt_val (pe_fld (pv 3) rfl))) (pss_one ps_never) pss_nil)
      (pss_cons (ps_fld (pv 0) (pv 2) rfl)
      (pss_cons (ps_fld (pv 0) (pe_call (ok_sides_of T) (hr.mono (by decide)) (by rfl) T.sides_of.g T.sides_of.F.kp T.sides_of.b .nil pass0 (pa_cons (pv 2) pa_nil)) rfl)
      (pss_cons (ps_fld (pv 0) (pe_call (ok_product_of T) (hr.mono (by decide)) (by rfl) T.product_of.g T.product_of.F.kp T.product_of.b .nil pass0 (pa_cons (pe_call (ok__doubled_area T) (hr.mono (by decide)) (by rfl) T._doubled_area.g T._doubled_area.F.kp T._doubled_area.b .nil pass0 (pa_cons (pv 2) pa_nil)) (pa_cons (pe_tup (pa_cons pe_int (pa_cons pe_int pa_nil))) pa_nil))) rfl)
      (pss_one (ps_fld (pv 0) (pe_call (ok__bends_of T) (hr.mono (by decide)) (by rfl) T._bends_of.g T._bends_of.F.kp T._bends_of.b .nil pass0 (pa_cons (pv 2) pa_nil)) rfl))))))))), ?_⟩
    refine seq_by fun N hN => ?_
    walk_at "vc"
    have wl := wh.len
    refine ⟨_, us, ps, rfl, hu, he, wl.1, wl.2, fun H1 a vs s1 ha ea => ?_⟩
    have hx1 := s1 _ _ hx
    subst hN
    refine seq_by fun N hN => ?_
    walk_at "vc"
    refine ⟨_, vs, ps, N0, rfl, ha, ea, wh, fun H2 y s2 hy hc => ?_⟩
    have hx2 := s2 _ _ hx1
    have ha2 := same_tup s2 ha
    have ea2 : Each (PP K H2) vs ps := ea.imp fun v x z => z.same s2
    rw [decide_eq_true hpos] at hc
    obtain ⟨dy, fy, hy2, hl⟩ := hc
    have k2 := s1.trans s2
    clear s1 s2 ha ea hu he hx1
    subst hN
    refine seq_by fun N hN => ?_
    walk_at "vc"
    simp only [tBoolO]
    refine ⟨_, rfl, y, dy, fy, rfl, hy2, y, rfl, true, rfl, ?_⟩
    walk_at "vc"
    subst hN
    refine seq_by fun N hN => ?_
    walk_at "vc"
    refine ⟨_, rfl, y, A.C_Closed, dy, fy, _, rfl, hy2, T.cl_Closed, T.no_Closed_is_left, hl, true, rfl, ?_⟩
    clear hy hy2 hl
    walk_at "vc"
    subst hN
    -- the corners
    refine seq_by fun N hN => ?_
    walk_at "vc"
    refine ⟨_, rfl, _, rfl, x, A.C_Fence, dx, [], rfl, hx2, T.cl_Fence, T.no_Fence_corners, by decide, ?_⟩
    have kp3 : ∀ c o, c ≠ x → H c = some o → upd H2 x (.ins A.C_Fence dx (putF "corners" (.ref a) [])) c = some o := fun c o nc e => by rw [upd_ne nc]; exact k2 _ _ e
    have ha3 := keep_tupI (fs' := putF "corners" (.ref a) []) hx2 ha2
    have ea3 : Each (PP K (upd H2 x (.ins A.C_Fence dx (putF "corners" (.ref a) [])))) vs ps := ea2.imp fun v z => pp_keepI hx2
    have hx3 : upd H2 x (.ins A.C_Fence dx (putF "corners" (.ref a) [])) x = some (.ins A.C_Fence dx (putF "corners" (.ref a) [])) := upd_same
    generalize upd H2 x (.ins A.C_Fence dx (putF "corners" (.ref a) [])) = H3 at *
    clear ha2 ea2 hx2 k2
    show N _ _
    subst hN
    -- the sides
    refine seq_by fun N hN => ?_
    walk_at "vc"
    refine ⟨_, rfl, a, vs, ps, rfl, ha3, ea3, by omega, wl.2, fun H4 b ws s4 hb hw => ⟨_, rfl, x, A.C_Fence, dx, _, rfl, s4 _ _ hx3, T.cl_Fence, T.no_Fence_sides, (by show 1 < 1000; decide), ?_⟩⟩
    have hx4 := s4 _ _ hx3
    have kp5 : ∀ c o, c ≠ x → H c = some o → upd H4 x (.ins A.C_Fence dx (putF "sides" (.ref b) (putF "corners" (.ref a) []))) c = some o := fun c o nc e => by rw [upd_ne nc]; exact s4 _ _ (kp3 _ _ nc e)
    have ha5 := keep_tupI (fs' := putF "sides" (.ref b) (putF "corners" (.ref a) [])) hx4 (same_tup s4 ha3)
    have ea5 : Each (PP K (upd H4 x (.ins A.C_Fence dx (putF "sides" (.ref b) (putF "corners" (.ref a) []))))) vs ps := ea3.imp fun v z q => pp_keepI hx4 (q.same s4)
    have hb5 := keep_tupI (fs' := putF "sides" (.ref b) (putF "corners" (.ref a) [])) hx4 hb
    have hw5 : Each (Sd K (upd H4 x (.ins A.C_Fence dx (putF "sides" (.ref b) (putF "corners" (.ref a) []))))) ws (sideL ps) := hw.imp fun v z => sd_keepI hx4
    have hx5 : upd H4 x (.ins A.C_Fence dx (putF "sides" (.ref b) (putF "corners" (.ref a) []))) x = some (.ins A.C_Fence dx (putF "sides" (.ref b) (putF "corners" (.ref a) []))) := upd_same
    generalize upd H4 x (.ins A.C_Fence dx (putF "sides" (.ref b) (putF "corners" (.ref a) []))) = H5 at *
    clear s4 hx4 hx3 ha3 ea3 hb hw kp3
    show N _ _
    subst hN
    -- the area
    refine seq_by fun N hN => ?_
    walk_at "vc"
    obtain ⟨ac, am⟩ := wh.area_sm
    have wa := wh.area
    refine ⟨_, rfl, a, vs, ps, N0, rfl, ha5, ea5, by omega, wl.2, wh.pts, wh.n9, wa, fun H6 r s6 hr6 => ?_⟩
    refine ⟨by decide, fun t ht => ?_⟩
    have s7 := s6.trans (same_upd (o := .tup [.int 1, .int 2]) ht)
    have hr7 := same_tup (same_upd (o := .tup [.int 1, .int 2]) ht) hr6
    have ht7 : SqT K (upd H6 t (.tup [.int 1, .int 2])) t [.int 1, .int 2] := st_of upd_same
    generalize upd H6 t (.tup [.int 1, .int 2]) = H7 at *
    refine ⟨.ref r, .ref t, _, (1, 2), rfl, ⟨r, rfl, hr7⟩, ⟨t, rfl, ht7⟩, am, ⟨by show (1 : Nat) < _; exact Nat.one_lt_two_pow (by decide), by show (2 : Nat) < _; exact Nat.lt_of_lt_of_le (by decide : 2 < 2 ^ 2) (pow_le (by decide))⟩, ⟨canon_ne ac, by decide⟩, fun H8 z s8 hz => ⟨_, rfl, x, A.C_Fence, dx, _, rfl, s8 _ _ (s7 _ _ hx5), T.cl_Fence, T.no_Fence_area, (by show 2 < 1000; decide), ?_⟩⟩
    have s58 := s7.trans s8
    have hx8 := s58 _ _ hx5
    have kp9 : ∀ c o, c ≠ x → H c = some o → upd H8 x (.ins A.C_Fence dx (putF "area" (.ref z) (putF "sides" (.ref b) (putF "corners" (.ref a) [])))) c = some o := fun c o nc e => by rw [upd_ne nc]; exact s58 _ _ (kp5 _ _ nc e)
    have ha9 := keep_tupI (fs' := putF "area" (.ref z) (putF "sides" (.ref b) (putF "corners" (.ref a) []))) hx8 (same_tup s58 ha5)
    have ea9 : Each (PP K (upd H8 x (.ins A.C_Fence dx (putF "area" (.ref z) (putF "sides" (.ref b) (putF "corners" (.ref a) [])))))) vs ps := ea5.imp fun v z q => pp_keepI hx8 (q.same s58)
    have hb9 := keep_tupI (fs' := putF "area" (.ref z) (putF "sides" (.ref b) (putF "corners" (.ref a) []))) hx8 (same_tup s58 hb5)
    have hw9 : Each (Sd K (upd H8 x (.ins A.C_Fence dx (putF "area" (.ref z) (putF "sides" (.ref b) (putF "corners" (.ref a) [])))))) ws (sideL ps) := hw5.imp fun v z q => sd_keepI hx8 (q.same s58)
    have hx9 : upd H8 x (.ins A.C_Fence dx (putF "area" (.ref z) (putF "sides" (.ref b) (putF "corners" (.ref a) [])))) x = some (.ins A.C_Fence dx (putF "area" (.ref z) (putF "sides" (.ref b) (putF "corners" (.ref a) [])))) := upd_same
    generalize upd H8 x (.ins A.C_Fence dx (putF "area" (.ref z) (putF "sides" (.ref b) (putF "corners" (.ref a) [])))) = H9 at *
    clear s58 hx8 hx5 ha5 ea5 hb5 hw5 kp5 s6 s7 s8 hr6 hr7 ht7 ht hz
    show N _ _
    subst hN
    -- the bends
    walk_at "vc"
    refine ⟨_, rfl, a, vs, ps, rfl, ha9, ea9, wl.1, wl.2, fun p hp => ((wh.pts p hp).2).up wh.n9, fun H10 e s10 => ⟨_, rfl, x, A.C_Fence, dx, _, rfl, s10 _ _ hx9, T.cl_Fence, T.no_Fence_bends, (by show 3 < 1000; decide), ?_⟩⟩
    have hx10 := s10 _ _ hx9
    refine q _ (fun c o nc ec => by rw [upd_ne nc]; exact s10 _ _ (kp9 _ _ nc ec)) ⟨dx, _, a, vs, b, ws, upd_same, ?_, keep_tupI hx10 (same_tup s10 ha9), ea9.imp fun v z q => pp_keepI hx10 (q.same s10), ?_, keep_tupI hx10 (same_tup s10 hb9), hw9.imp fun v z q => sd_keepI hx10 (q.same s10)⟩
    · rw [lookup_putF, if_neg (by decide), lookup_putF, if_neg (by decide), lookup_putF, if_neg (by decide), lookup_putF, if_pos rfl]
    · rw [lookup_putF, if_neg (by decide), lookup_putF, if_neg (by decide), lookup_putF, if_pos rfl]
end
end Odd
namespace Odd
open PySem PySem.Spec PyProof.Rows L2
local macro_rules | `(tactic| walk_at "vc") => `(tactic| simp only [tSeq, tAsg, gName, tCB, tCons, tNil, tVar, tC, tOp, tUn, rI0, rI, rU, tTup, tLst, tIfS, tTest, tB, tRet, tNext, rGcd, L2.start, List.map, List.set, List.replicate, List.cons_append, List.nil_append, List.length_cons, List.length_nil, List.getElem?_cons_succ, List.getElem?_cons_zero, Option.some.injEq, exists_eq_left', exists_eq_left, List.append_nil, List.cons.injEq, V.int.injEq, exists_and_left, and_true, true_and, and_assoc, exists_const, V.bl.injEq, V.ref.injEq, Nat.sub_self, Nat.reduceAdd, Nat.reduceSub, List.replicate_succ, List.replicate_zero, tAnd, tOr, tNot, tAndV, tOrV, tNotV, tIf, tCall, tCallK, tDrop, rEq, rNe, decide_eq_true_eq, Bool.not_eq_true', decide_eq_false_iff_not, Bool.false_eq_true, if_true, if_false, reduceIte, reduceCtorEq, tMkLow, tRaiseLow, rIsB, rNotB, tBreak, tPar, gSub, rSetL, tChain, gTup, gCons, gNil, gSeq, cx_K, cx_Kn, optV, V.str.injEq, Bool.not_true, Bool.not_false, false_and, and_false, or_false, false_or, exists_false, tCallN, tCallS, tPairs])
section
variable {w : World} {K : PySem.W.Frag} {mg : Str → Option Value} {base : Heap} {A : Ads}
def FenceV (K : PySem.W.Frag) (C : Addr) (H : Hp) (v : V) (ps : List P2) : Prop := ∃ x, v = .ref x ∧ FenceAt K C H x ps
theorem FenceV.same {C : Addr} {H H' : Hp} {v : V} {ps : List P2} (s : Same H H') (h : FenceV K C H v ps) : FenceV K C H' v ps := by
  obtain ⟨x, e, h⟩ := h
  exact ⟨x, e, h.same s⟩
def spFencesIn (K : PySem.W.Frag) (C : Addr) : Sp := fun vs H Q _ => ∃ p us pss, vs = [.ref p] ∧ Sq K H p us ∧ Each (FenceV K C H) us pss ∧ 1 ≤ pss.length ∧ pss.length ≤ 6 ∧ ∀ H' b, Same H H' → SqT K H' b us → Q (.ref b) H'
theorem ok__fences_in (T : Txt K mg A) : FnOk PG w K mg base CX0 4 A.f__fences_in A.d__fences_in ["fences"] (spFencesIn K A.C_Fence) := by
  obtain ⟨tkM, hMost⟩ := T.g_MOST_FENCES
  refine T._fences_in.F.ok sc__fences_in (fun vs H Q E h => ?_) (fun cdv A' outer s H vs Q E hr h => ?_)
  · obtain ⟨_, _, _, rfl, _⟩ := h; rfl
  · obtain ⟨p, us, pss, rfl, hu, he, h1, h6, q⟩ := h
    have l1 := he.1
    refine ⟨_, (pss_cons (ps_if (PW.pt (pw_or (pt_not (pt_val (pe_call (ok_is_row T) (hr.mono (by decide)) (by rfl) T.is_row.g T.is_row.F.kp T.is_row.b .nil pass0 (pa_cons (pv 0) pa_nil)))) (pw_or1 (pt_not (pt_val (pe_call (ok_is_within T) (hr.mono (by decide)) (by rfl) T.is_within.g T.is_within.F.kp T.is_within.b .nil pass0 (pa_cons (pe_callB call_len_seq (by rfl) T.n_len bt_len (pa_cons (pv 0) pa_nil)) (pa_cons pe_int (pa_cons (pe_glob (v := .int 6) (by rfl) hMost ⟨tkM, rfl⟩) pa_nil))))))))) (pss_one ps_never) pss_nil)
      (pss_cons (ps_if (pt_not (pt_val (pe_callB (cr_all rfl) (by rfl) T.n_all bt_all (pa_cons (pe_lc (own := [("fence", 1)]) (g := gName 1) (tt := tYes) rfl sc__fences_in.nd (pi_any (pv 0)) (blkOk_by (N := ["fences", "fence"]) (sc := defScope s__fences_in) (by decide +kernel)) (fun _ _ _ _ _ => pg_name (i := 1) sc__fences_in.nd rfl (Or.inl rfl)) (fun _ _ _ _ _ => pts_nil) (fun _ _ _ _ _ => (pe_callB (C8.call_isC T.is_Fence) (by rfl) T.n_isinstance bt_isinstance (pa_cons (pv 1) (pa_cons (pe_glob (v := .ref A.C_Fence) (by rfl) T.m_Fence rfl) pa_nil))))) pa_nil)))) (pss_one ps_never) pss_nil)
      (pss_one (ps_ret (pe_callTy call_tuple_of (by rfl) T.n_tuple bt_tuple (pa_cons (pv 0) pa_nil)))))), ?_⟩
    refine seq_by fun N hN => ?_
    walk_at "vc"
    obtain ⟨U, hU, eU⟩ := hu.ty
    refine ⟨_, U, rfl, hU, fun H1 s1 => ⟨_, rfl, ?_⟩⟩
    rw [eU]
    refine iteF' rfl ⟨us, hu.same s1, _, some 1, some 6, rfl, .inr ⟨_, rfl, fun H2 s2 => ⟨_, rfl, ?_⟩⟩⟩
    have eb : ((some (1 : Int)).all (fun l => decide (l ≤ (us.length : Int))) && (some (6 : Int)).all (fun m => decide ((us.length : Int) ≤ m))) = true := by
      rw [Option.all_some, Option.all_some, ← Bool.decide_and]
      exact decide_eq_true (by omega)
    rw [eb]
    refine iteF' rfl ?_
    have s02 := s1.trans s2
    subst hN
    refine seq_by fun N hN => ?_
    walk_at "vc"
    have key : ∀ D : Addr, H2 D = none → ∀ i x H3, us[i]? = some x → (Same H2 H3 ∧ H3 D = some (.lst ((List.replicate i true).map V.bl))) →
        gName 1 x (wipe [some (.ref p), none] [1]) H3 fun σ2 H4 => wipe σ2 [1] = wipe [some (.ref p), none] [1] ∧ tYes σ2 H4 fun b H5 =>
          if b = true then tCB (fun xs H Q => ∃ a, xs = [.ref a, .ref A.C_Fence] ∧ ∃ dx fs, H a = some (.ins A.C_Fence dx fs) ∧ Q (.bl true) H) (tCons (tVar 1) (tCons (tC (.ref A.C_Fence)) tNil)) σ2 H5 fun y H6 => ∃ acc, H6 D = some (.lst acc) ∧ acc.length < sizeLine ∧ (fun i H => Same H2 H ∧ H D = some (.lst ((List.replicate i true).map V.bl))) (i + 1) (upd H6 D (.lst (acc ++ [y]))) else (fun i H => Same H2 H ∧ H D = some (.lst ((List.replicate i true).map V.bl))) (i + 1) H5 := by
      rintro D hD i x H3 hx ⟨s3, e3⟩
      obtain ⟨ps, hps, y, rfl, hF⟩ := he.of hx
      have hi : i < pss.length := (List.getElem?_eq_some_iff.mp hps).1
      obtain ⟨dx, fs, _, _, _, _, hF, _⟩ := hF.same (s02.trans s3)
      refine ⟨rfl, ?_⟩
      simp only [tYes, if_true]
      refine ⟨_, rfl, y, rfl, dx, fs, hF, _, e3, ?_, fun c o ec => ?_, ?_⟩
      · rw [List.length_map, List.length_replicate]
        exact small1000 (by omega)
      · rw [upd_ne (ne_of_none ec hD)]
        exact s3 _ _ ec
      · rw [upd_same, List.replicate_succ', List.map_append]
        rfl
    have last : ∀ D H', H2 D = none → (Same H2 H' ∧ H' D = some (.lst ((List.replicate us.length true).map V.bl))) → ∃ (a : Addr) (bs' : List Bool), [V.ref D] = [V.ref a] ∧ SqL K H' a (bs'.map V.bl) ∧ (if bs'.all id = false then tNever { nx := N, rt := Q } [some (V.ref p), none] H' else N [some (V.ref p), none] H') := by
      rintro D H' hD ⟨s3, e3⟩
      refine ⟨D, _, rfl, sl_of e3, ?_⟩
      rw [if_neg (by simp)]
      subst hN
      walk_at "vc"
      rcases hu.same (s02.trans s3) with hs | hs
      · exact ⟨us, .inl ⟨hs, fun l hl => q _ _ ((s02.trans s3).trans (same_upd hl)) (st_of upd_same)⟩⟩
      · exact ⟨us, .inr ⟨hs, q _ _ (s02.trans s3) hs⟩⟩
    have last' : ∀ D H', H2 D = none → (Same H2 H' ∧ H' D = some (.lst ((List.replicate us.length true).map V.bl))) → rAll K [.ref D] H' (fun x H1 => ∃ c, x = V.bl c ∧ if c = false then tNever { nx := N, rt := Q } [some (V.ref p), none] H1 else N [some (V.ref p), none] H1) := by
      intro D H' hD h
      obtain ⟨a, bs, e, hs, z⟩ := last D H' hD h
      exact ⟨a, bs, e, hs, _, rfl, z⟩
    refine ⟨_, rfl, p, rfl, ?_⟩
    rcases hu.same s02 with hs | hs
    · refine .inl ⟨⟨_, hs⟩, fun D hD => ?_⟩
      exact lc_list (xs := us) (fun i H3 => Same H2 H3 ∧ H3 D = some (.lst ((List.replicate i true).map V.bl))) ⟨same_upd hD, upd_same⟩ (fun i H3 _ h => h.1.seq hs) (key D hD) (fun H' h => last' D H' hD h)
    · refine .inr ⟨⟨_, hs⟩, fun D hD => ?_⟩
      exact lc_tup (xs := us) (fun i H3 => Same H2 H3 ∧ H3 D = some (.lst ((List.replicate i true).map V.bl))) ⟨same_upd hD, upd_same⟩ (fun i H3 _ h => same_tup h.1 hs) (key D hD) (fun H' h => last' D H' hD h)
end
end Odd
namespace Odd
open PySem PySem.Spec PyProof.Rows L2
local macro_rules | `(tactic| walk_at "vc") => `(tactic| simp only [tSeq, tAsg, gName, tCB, tCons, tNil, tVar, tC, tOp, tUn, rI0, rI, rU, tTup, tLst, tIfS, tTest, tB, tRet, tNext, rGcd, L2.start, List.map, List.set, List.replicate, List.cons_append, List.nil_append, List.length_cons, List.length_nil, List.getElem?_cons_succ, List.getElem?_cons_zero, Option.some.injEq, exists_eq_left', exists_eq_left, List.append_nil, List.cons.injEq, V.int.injEq, exists_and_left, and_true, true_and, and_assoc, exists_const, V.bl.injEq, V.ref.injEq, Nat.sub_self, Nat.reduceAdd, Nat.reduceSub, List.replicate_succ, List.replicate_zero, tAnd, tOr, tNot, tAndV, tOrV, tNotV, tIf, tCall, tCallK, tDrop, rEq, rNe, decide_eq_true_eq, Bool.not_eq_true', decide_eq_false_iff_not, Bool.false_eq_true, if_true, if_false, reduceIte, reduceCtorEq, tMkLow, tRaiseLow, rIsB, rNotB, tBreak, tPar, gSub, rSetL, tChain, gTup, gCons, gNil, gSeq, cx_K, cx_Kn, optV, V.str.injEq, Bool.not_true, Bool.not_false, false_and, and_false, or_false, false_or, exists_false, tCallN, tCallS, tPairs])
section
variable {w : World} {K : PySem.W.Frag} {mg : Str → Option Value} {base : Heap} {A : Ads}
/-- a pair of two counts -/
def NumV (K : PySem.W.Frag) (H : Hp) (v : V) (q : Nat × Nat) : Prop := ∃ a, v = .ref a ∧ SqT K H a [.int (q.1 : Nat), .int (q.2 : Nat)]
theorem NumV.same {H H' : Hp} {v : V} {q : Nat × Nat} (s : Same H H') (h : NumV K H v q) : NumV K H' v q := by
  obtain ⟨a, e, h⟩ := h
  exact ⟨a, e, same_tup s h⟩
theorem NumV.keep {H : Hp} {D : Addr} {acc acc' : List V} {v : V} {q : Nat × Nat} (hD : H D = some (.lst acc)) (h : NumV K H v q) : NumV K (upd H D (.lst acc')) v q := by
  obtain ⟨a, e, h⟩ := h
  exact ⟨a, e, keep_tup hD h⟩
/-- the sides of the first i fences -/
def numP {α : Type} (pss : List (List α)) (i : Nat) : List (Nat × Nat) := (List.range i).flatMap fun k => (List.range (pss.getD k []).length).map fun j => (k, j)
theorem numP_succ {α : Type} (pss : List (List α)) (i : Nat) : numP pss (i + 1) = numP pss i ++ (List.range (pss.getD i []).length).map fun j => (i, j) := by
  unfold numP
  rw [List.range_succ, List.flatMap_append]
  simp
theorem numP_len {α : Type} {pss : List (List α)} (h : ∀ ps ∈ pss, ps.length ≤ 40) : ∀ i, (numP pss i).length ≤ 40 * i := by
  intro i
  induction i with
  | zero => simp [numP]
  | succ i ih =>
    rw [numP_succ, List.length_append, List.length_map, List.length_range]
    have : (pss.getD i []).length ≤ 40 := by
      rw [List.getD_eq_getElem?_getD]
      cases e : pss[i]? with
      | none => simp
      | some ps => exact h ps (List.mem_of_getElem? e)
    omega
def spNumbered (K : PySem.W.Frag) (C : Addr) : Sp := fun vs H Q _ => ∃ b us pss, vs = [.ref b] ∧ SqT K H b us ∧ Each (FenceV K C H) us pss ∧ pss.length ≤ 6 ∧ (∀ ps ∈ pss, ps.length ≤ 40) ∧ ∀ H' c ws, Same H H' → SqT K H' c ws → Each (NumV K H') ws (numP pss pss.length) → Q (.ref c) H'
theorem ok__numbered_sides (T : Txt K mg A) : FnOk PG w K mg base CX0 4 A.f__numbered_sides A.d__numbered_sides ["fences"] (spNumbered K A.C_Fence) := by
  refine T._numbered_sides.F.ok sc__numbered_sides (fun vs H Q E h => ?_) (fun cdv A' outer s H vs Q E hr h => ?_)
  · obtain ⟨_, _, _, rfl, _⟩ := h; rfl
  · obtain ⟨b, us, pss, rfl, hu, he, h6, h40, q⟩ := h
    have l1 := he.1
    refine ⟨_, (pss_one (ps_ret (pe_callTy call_tuple_of (by rfl) T.n_tuple bt_tuple (pa_cons (pe_lc2 (own := [("number", 1), ("fence", 2), ("side", 3)]) (vs1 := [3]) (g := gTup K 2 (gCons (gName 1) (gCons (gName 2) gNil))) (g1 := gName 3) (tt := tYes) (tt1 := tYes) rfl sc__numbered_sides.nd (OZ.pi_enumT (by rfl) T.n_enumerate (pa_cons (pv 0) pa_nil)) (blkOk_by (N := ["fences", "number", "fence", "side"]) (sc := defScope s__numbered_sides) (by decide +kernel)) (by decide) (fun _ _ _ _ _ => OZ.pg_tupK (K := K) (n := 2) rfl rfl (pgs_cons (pg_name (i := 1) sc__numbered_sides.nd rfl (Or.inl rfl)) (pgs_cons (pg_name (i := 2) sc__numbered_sides.nd rfl (Or.inl rfl)) pgs_nil))) (fun _ _ _ _ _ => pts_nil) (fun _ _ _ _ _ => (pi_range1 (by rfl) T.n_range (pa_cons (pe_callB (call_lenO T.len_Fence T.lenT ((ok_Fence_len T).raw T.Fence_len.b .nil) (hr.mono (by decide))) (by rfl) T.n_len bt_len (pa_cons (pv 2) pa_nil)) pa_nil))) (fun _ _ _ _ _ => pg_name (i := 3) sc__numbered_sides.nd rfl (Or.inl rfl)) (fun _ _ _ _ _ => pts_nil) (fun _ _ _ _ _ => (pe_tup (pa_cons (pv 1) (pa_cons (pv 3) pa_nil))))) pa_nil)))), ?_⟩
    walk_at "vc"
    simp only [tLc2]
    refine ⟨_, rfl, b, us, rfl, hu, fun D hD => OZ.wf_it OZ.walk_enumT (fun i H3 => Same H H3 ∧ ∃ acc, H3 D = some (.lst acc) ∧ Each (NumV K H3) acc (numP pss i)) ⟨same_upd hD, _, upd_same, rfl, fun i v x e => by simp at e⟩ (fun i H3 _ h => same_tup h.1 hu) ?_ ?_⟩
    · rintro i x H3 H4 hi ⟨s3, acc, e3, ea⟩ ⟨U, y, rfl, hU, rfl, hy⟩
      have s4 := same_upd (o := .tup [.int (i : Nat), y]) hU
      have hU4 : SqT K (upd H3 U (.tup [.int (i : Nat), y])) U [.int (i : Nat), y] := st_of upd_same
      have e4 := s4 _ _ e3
      generalize upd H3 U (.tup [.int (i : Nat), y]) = H4 at *
      have S4 := s3.trans s4
      obtain ⟨ps, hps, z, rfl, hF⟩ := he.of hy
      have hF4 := hF.same S4
      refine ⟨U, _, rfl, hU4, rfl, _, _, rfl, _, _, rfl, rfl, rfl, ?_⟩
      simp only [tYes, if_true]
      obtain ⟨dx, fs, _, _, _, _, hz, _⟩ := id hF4
      have hpl : ps.length ≤ 40 := h40 _ (List.mem_of_getElem? hps)
      have egd : pss.getD i [] = ps := by rw [List.getD_eq_getElem?_getD, hps]; rfl
      have hi6 : i < pss.length := (List.getElem?_eq_some_iff.mp hps).1
      refine ⟨_, rfl, z, dx, fs, rfl, hz, z, ps, rfl, hF4, _, rfl, by omega, by omega, _, rfl, by omega, by omega, OZ.wf_it walk_range (n := ((ps.length : Nat) : Int).toNat) (fun j H5 => Same H H5 ∧ ∃ acc, H5 D = some (.lst acc) ∧ Each (NumV K H5) acc (numP pss i ++ (List.range j).map fun j => (i, j))) ⟨S4, acc, e4, ?_⟩ (fun _ _ _ _ => trivial) ?_ ?_⟩
      · rw [List.range_zero, List.map_nil, List.append_nil]
        exact ea.imp fun v x z => z.same s4
      · rintro j x H5 H6 hj ⟨s5, acc5, e5, ea5⟩ ⟨rfl, rfl⟩
        show gName 3 (V.int (0 + (j : Nat))) _ _ _
        rw [show ((0 : Int) + (j : Nat)) = (j : Nat) by omega]
        refine ⟨rfl, _, rfl, _, rfl, (by show 2 ≤ sizeLine; decide), fun t ht => ⟨acc5, same_upd ht _ _ e5, ?_, fun c o ec => ?_, _, upd_same, ?_⟩⟩
        · rw [ea5.1, List.length_append, List.length_map, List.length_range]
          have := numP_len h40 i
          exact small1000 (by omega)
        · rw [upd_ne (ne_of_none ec hD)]
          exact same_upd ht _ _ (s5 _ _ ec)
        · have e6 : upd H6 t (.tup [.int (i : Nat), .int (j : Nat)]) D = some (.lst acc5) := same_upd ht _ _ e5
          rw [List.range_succ, List.map_append, ← List.append_assoc]
          exact each_snoc (ea5.imp fun v x z => (z.same (same_upd ht)).keep e6) (NumV.keep e6 ⟨t, rfl, st_of upd_same⟩)
      · rintro H5 ⟨s5, acc5, e5, ea5⟩
        refine ⟨s5, acc5, e5, ?_⟩
        rw [numP_succ, egd]
        exact ea5
    · rintro H3 ⟨s3, acc, e3, ea⟩
      rw [l1] at ea
      refine ⟨D, rfl, acc, .inl ⟨sl_of e3, fun l hl => ?_⟩⟩
      have s4 := same_upd (o := .tup acc) hl
      exact q _ _ _ (s3.trans s4) (st_of upd_same) (ea.imp fun v x z => z.same s4)
end
end Odd
namespace Odd
open PySem PySem.Spec PyProof.Rows L2
local macro_rules | `(tactic| walk_at "vc") => `(tactic| simp only [tSeq, tAsg, gName, tCB, tCons, tNil, tVar, tC, tOp, tUn, rI0, rI, rU, tTup, tLst, tIfS, tTest, tB, tRet, tNext, rGcd, L2.start, List.map, List.set, List.replicate, List.cons_append, List.nil_append, List.length_cons, List.length_nil, List.getElem?_cons_succ, List.getElem?_cons_zero, Option.some.injEq, exists_eq_left', exists_eq_left, List.append_nil, List.cons.injEq, V.int.injEq, exists_and_left, and_true, true_and, and_assoc, exists_const, V.bl.injEq, V.ref.injEq, Nat.sub_self, Nat.reduceAdd, Nat.reduceSub, List.replicate_succ, List.replicate_zero, tAnd, tOr, tNot, tAndV, tOrV, tNotV, tIf, tCall, tCallK, tDrop, rEq, rNe, decide_eq_true_eq, Bool.not_eq_true', decide_eq_false_iff_not, Bool.false_eq_true, if_true, if_false, reduceIte, reduceCtorEq, tMkLow, tRaiseLow, rIsB, rNotB, tBreak, tPar, gSub, rSetL, tChain, gTup, gCons, gNil, gSeq, cx_K, cx_Kn, optV, V.str.injEq, Bool.not_true, Bool.not_false, false_and, and_false, or_false, false_or, exists_false, tCallN, tCallS, tPairs])
section
variable {w : World} {K : PySem.W.Frag} {mg : Str → Option Value} {base : Heap} {A : Ads}
/-- fences apart from one another -/
structure WholeLot (pss : List (List P2)) : Prop where
  many : 1 ≤ pss.length ∧ pss.length ≤ 6
  lens : ∀ ps ∈ pss, ps.length ≤ 40
  sm : ∀ ps ∈ pss, ∀ s ∈ sideL ps, SmS 900 s
  apart : ∀ (i j : Nat) (ps qs : List P2), i < j → pss[i]? = some ps → pss[j]? = some qs → ∀ s ∈ sideL ps, ∀ t ∈ sideL qs, Apart s t
theorem numP_mem {α : Type} {pss : List (List α)} {n : Nat} {q : Nat × Nat} (h : q ∈ numP pss n) : q.1 < n ∧ q.2 < (pss.getD q.1 []).length := by
  unfold numP at h
  rw [List.mem_flatMap] at h
  obtain ⟨k, hk, h⟩ := h
  rw [List.mem_map] at h
  obtain ⟨j, hj, rfl⟩ := h
  exact ⟨List.mem_range.mp hk, List.mem_range.mp hj⟩
def spJudgedF (K : PySem.W.Frag) (CF CA : Addr) : Sp := fun vs H Q _ => ∃ p us pss, vs = [.ref p] ∧ Sq K H p us ∧ Each (FenceV K CF H) us pss ∧ WholeLot pss ∧ ∀ H' x dx fs, Same H H' → H x = none → H' x = some (.ins CA dx fs) → Q (.ref x) H'
theorem ok_judged_fences (T : Txt K mg A) : FnOk PG w K mg base CX0 7 A.f_judged_fences A.d_judged_fences ["fences"] (spJudgedF K A.C_Fence A.C_Apart) := by
  refine T.judged_fences.F.ok sc_judged_fences (fun vs H Q E h => ?_) (fun cdv A' outer s H vs Q E hr h => ?_)
  · obtain ⟨_, _, _, rfl, _⟩ := h; rfl
  · obtain ⟨p, us, pss, rfl, hu, he, wh, q⟩ := h
    have l1 := he.1
    have hm := wh.many
    refine ⟨_, (pss_cons (ps_set (i := 1) sc_judged_fences.nd rfl (.inl rfl) (pe_call (ok__fences_in T) (hr.mono (by decide)) (by rfl) T._fences_in.g T._fences_in.F.kp T._fences_in.b .nil pass0 (pa_cons (pv 0) pa_nil)))
      (pss_cons (ps_set (i := 2) sc_judged_fences.nd rfl (.inl rfl) (pe_call (ok__numbered_sides T) (hr.mono (by decide)) (by rfl) T._numbered_sides.g T._numbered_sides.F.kp T._numbered_sides.b .nil pass0 (pa_cons (pv 1) pa_nil)))
      (pss_cons (ps_for PassesOwn.never rfl (pi_tup (pv 2)) (pg_name (i := 3) sc_judged_fences.nd rfl (.inl rfl)) (pss_cons (ps_set (i := 4) sc_judged_fences.nd rfl (.inl rfl) (pe_ix ix_tup (pe_fld (pe_ix ix_tup (pv 1) (pe_ix ix_tup (pv 3) pe_int (fun _ _ => rfl)) (fun _ _ => rfl)) rfl) (pe_ix ix_tup (pv 3) pe_int (fun _ _ => rfl)) (fun _ _ => rfl)))
      (pss_one (ps_for PassesOwn.never rfl (pi_tup (pv 2)) (pg_name (i := 5) sc_judged_fences.nd rfl (.inl rfl)) (pss_cons (ps_if (pt_cmpR op_le (pe_ix ix_tup (pv 5) pe_int (fun _ _ => rfl)) (pe_ix ix_tup (pv 3) pe_int (fun _ _ => rfl)) (nomark _)) (pss_one ps_continue) pss_nil)
      (pss_cons (ps_set (i := 6) sc_judged_fences.nd rfl (.inl rfl) (pe_call (ok_common_point T) (hr.mono (by decide)) (by rfl) T.common_point.g T.common_point.F.kp T.common_point.b .nil pass0 (pa_cons (pv 4) (pa_cons (pe_ix ix_tup (pe_fld (pe_ix ix_tup (pv 1) (pe_ix ix_tup (pv 5) pe_int (fun _ _ => rfl)) (fun _ _ => rfl)) rfl) (pe_ix ix_tup (pv 5) pe_int (fun _ _ => rfl)) (fun _ _ => rfl)) pa_nil))))
      (pss_one (ps_if (pt_cmpR op_notN (pv 6) pe_non (nomark _)) (pss_one ps_never) pss_nil))))))))
      (pss_one (ps_ret (pe_make0 T.mk_Apart (ok_Apart_init T) (hr.mono (by decide)) (by rfl) T.m_Apart T.b_Apart .nil pass0)))))), ?_⟩
    refine seq_by fun N hN => ?_
    walk_at "vc"
    refine ⟨p, us, pss, rfl, hu, he, hm.1, hm.2, fun H1 b s1 hb => ?_⟩
    have he1 : Each (FenceV K A.C_Fence H1) us pss := he.imp fun v x z => z.same s1
    subst hN
    refine seq_by fun N hN => ?_
    walk_at "vc"
    refine ⟨b, us, pss, rfl, hb, he1, hm.2, wh.lens, fun H2 c ws s2 hc ew => ?_⟩
    have he2 : Each (FenceV K A.C_Fence H2) us pss := he1.imp fun v x z => z.same s2
    have hb2 := same_tup s2 hb
    have s02 := s1.trans s2
    subst hN
    refine seq_by fun N hN => ?_
    walk_at "vc"
    -- a side by its number
    have side : ∀ {H3 : Hp} {i : Nat} {v : V}, Same H2 H3 → ws[i]? = some v → ∃ (m n : Nat) (ps : List P2) (sd : P2 × P2), pss[m]? = some ps ∧ (sideL ps)[n]? = some sd ∧ ∃ a, v = .ref a ∧ SqT K H3 a [.int (m : Nat), .int (n : Nat)] ∧
        ∃ z dx fs d xs y, us[m]? = some (.ref z) ∧ H3 z = some (.ins A.C_Fence dx fs) ∧ fs.lookup ("sides" : Str) = some (.ref d) ∧ SqT K H3 d xs ∧ xs[n]? = some y ∧ Sd K H3 y sd := by
      intro H3 i v s3 hv
      obtain ⟨⟨m, n⟩, hq, a, rfl, ha⟩ := ew.of hv
      obtain ⟨hm1, hn1⟩ := numP_mem (List.mem_of_getElem? hq)
      obtain ⟨ps, hps⟩ : ∃ ps, pss[m]? = some ps := ⟨_, List.getElem?_eq_getElem hm1⟩
      have egd : pss.getD m [] = ps := by rw [List.getD_eq_getElem?_getD, hps]; rfl
      have hn2 : n < ps.length := by rw [← egd]; exact hn1
      obtain ⟨sd, hsd⟩ : ∃ sd, (sideL ps)[n]? = some sd := ⟨_, sideL_at hn2⟩
      obtain ⟨v2, hv2, z, rfl, hF⟩ := he2.at hps
      obtain ⟨dx, fs, a1, us1, d, xs, h1, h2, h3, h4, h5, h6, h7⟩ := hF.same s3
      obtain ⟨y, hy, hS⟩ := h7.at hsd
      exact ⟨m, n, ps, sd, hps, hsd, a, rfl, same_tup s3 ha, z, dx, fs, d, xs, y, hv2, h1, h5, h6, hy, hS⟩
    refine ⟨_, rfl, c, rfl, ⟨_, hc⟩, for_tup (xs := ws) (fun i σ H3 => Same H2 H3 ∧ ∃ o4 o5 o6 o7, σ = [some (.ref p), some (.ref b), some (.ref c), o4, o5, o6, o7]) ⟨Same.refl _, _, _, _, _, rfl⟩ (fun i σ H3 _ h => same_tup h.1 hc) ?_ ?_⟩
    · rintro i v σ H3 hv ⟨s3, o4, o5, o6, o7, rfl⟩
      obtain ⟨m, n, ps, sd, hps, hsd, a, rfl, ha, z, dx, fs, d, xs, y, hz, h1, h5, h6, hy, hS⟩ := side s3 hv
      have hb3 := same_tup s3 hb2
      walk_at "vc"
      simp only [tFld]
      walk_at "vc"
      refine ixT (i := 0) ha rfl ?_
      refine ixT hb3 (atI_nat hz) ?_
      refine ⟨z, rfl, A.C_Fence, dx, fs, h1, T.cl_Fence, T.no_Fence_sides, _, h5, ?_⟩
      refine ixT (i := 1) ha rfl ?_
      refine ixT h6 (atI_nat hy) ?_
      refine ⟨_, rfl, c, rfl, ⟨_, same_tup s3 hc⟩, for_tup (xs := ws) (fun i σ H4 => Same H3 H4 ∧ ∃ o5 o6, σ = [some (.ref p), some (.ref b), some (.ref c), some (.ref a), some y, o5, o6]) ⟨Same.refl _, _, _, rfl⟩ (fun i σ H4 _ h => same_tup (s3.trans h.1) hc) ?_ ?_⟩
      · rintro i2 v2 σ H4 hv2 ⟨s4, p5, p6, rfl⟩
        obtain ⟨m2, n2, qs, td, hqs, htd, a2, rfl, ha2, z2, dx2, fs2, d2, xs2, y2, hz2, h12, h52, h62, hy2, hS2⟩ := side (s3.trans s4) hv2
        have hb4 := same_tup s4 hb3
        have ha4 := same_tup s4 ha
        walk_at "vc"
        refine ixT (i := 0) ha2 rfl ?_
        refine ixT (i := 0) ha4 rfl ?_
        refine ⟨_, rfl, _, rfl, ?_⟩
        split
        · exact ⟨s4, _, _, rfl⟩
        · rename_i hle
          have hlt : m < m2 := by omega
          simp only [tFld]
          walk_at "vc"
          refine ixT (i := 0) ha2 rfl ?_
          refine ixT hb4 (atI_nat hz2) ?_
          refine ⟨z2, rfl, A.C_Fence, dx2, fs2, h12, T.cl_Fence, T.no_Fence_sides, _, h52, ?_⟩
          refine ixT (i := 1) ha2 rfl ?_
          refine ixT h62 (atI_nat hy2) ?_
          refine ⟨_, _, sd, td, rfl, hS.same s4, hS2, wh.sm _ (List.mem_of_getElem? hps) _ (List.mem_of_getElem? hsd), wh.sm _ (List.mem_of_getElem? hqs) _ (List.mem_of_getElem? htd), wh.apart m m2 ps qs hlt hps hqs sd (List.mem_of_getElem? hsd) td (List.mem_of_getElem? htd), fun H5 s5 => ?_⟩
          show (if ¬ (V.non = V.non) then _ else _)
          rw [if_neg (fun (z : ¬ (V.non = V.non)) => z rfl)]
          exact ⟨s4.trans s5, _, rfl⟩
      · rintro σ H4 ⟨s4, p5, p6, rfl⟩
        exact ⟨s3.trans s4, _, _, _, _, rfl⟩
    · rintro σ H3 ⟨s3, o4, o5, o6, o7, rfl⟩
      show N _ _
      subst hN
      walk_at "vc"
      simp only [tMake]
      intro x dx hx hdx hne
      refine ⟨x, dx, rfl, upd_same, fun H4 fs kp hx4 => ⟨rfl, ?_⟩⟩
      have s03 := s02.trans s3
      refine q H4 x dx fs (fun e o he => ?_) ?_ hx4
      · have e3 := s03 e o he
        have cx : e ≠ x := ne_of_none e3 hx
        refine kp e o cx ?_
        rw [upd_ne cx, upd_ne (ne_of_none e3 hdx)]
        exact e3
      · cases e : H x with
        | none => rfl
        | some o =>
          rw [s03 x o e] at hx
          cases hx
end
end Odd
namespace Odd
open PySem PySem.Spec PyProof.Rows L2
local macro_rules | `(tactic| walk_at "vc") => `(tactic| simp only [tSeq, tAsg, gName, tCB, tCons, tNil, tVar, tC, tOp, tUn, rI0, rI, rU, tTup, tLst, tIfS, tTest, tB, tRet, tNext, rGcd, L2.start, List.map, List.set, List.replicate, List.cons_append, List.nil_append, List.length_cons, List.length_nil, List.getElem?_cons_succ, List.getElem?_cons_zero, Option.some.injEq, exists_eq_left', exists_eq_left, List.append_nil, List.cons.injEq, V.int.injEq, exists_and_left, and_true, true_and, and_assoc, exists_const, V.bl.injEq, V.ref.injEq, Nat.sub_self, Nat.reduceAdd, Nat.reduceSub, List.replicate_succ, List.replicate_zero, tAnd, tOr, tNot, tAndV, tOrV, tNotV, tIf, tCall, tCallK, tDrop, rEq, rNe, decide_eq_true_eq, Bool.not_eq_true', decide_eq_false_iff_not, Bool.false_eq_true, if_true, if_false, reduceIte, reduceCtorEq, tMkLow, tRaiseLow, rIsB, rNotB, tBreak, tPar, gSub, rSetL, tChain, gTup, gCons, gNil, gSeq, cx_K, cx_Kn, optV, V.str.injEq, Bool.not_true, Bool.not_false, false_and, and_false, or_false, false_or, exists_false, tCallN, tCallS, tPairs])
section
variable {w : World} {K : PySem.W.Frag} {mg : Str → Option Value} {base : Heap} {A : Ads}
theorem FenceAt.keepI {C : Addr} {H : Hp} {x C2 dx2 : Addr} {fs fs' : List (Str × V)} {y : Addr} {ps : List P2} (hx : H x = some (.ins C2 dx2 fs)) (hl : fs.lookup ("corners" : Str) = none) (h : FenceAt K C H y ps) : FenceAt K C (upd H x (.ins C2 dx2 fs')) y ps := by
  obtain ⟨dx, gs, a, us, b, ws, h1, h2, h3, h4, h5, h6, h7⟩ := h
  have ne : y ≠ x := fun z => by
    rw [z, hx] at h1
    cases h1
    rw [hl] at h2
    cases h2
  exact ⟨dx, gs, a, us, b, ws, by rw [upd_ne ne]; exact h1, h2, keep_tupI hx h3, h4.imp fun v z => pp_keepI hx, h5, keep_tupI hx h6, h7.imp fun v z => sd_keepI hx⟩
/-- at x: a lot of these fences -/
def LotAt (K : PySem.W.Frag) (CF CL : Addr) (H : Hp) (x : Addr) (pss : List (List P2)) : Prop := ∃ dx fs b us, H x = some (.ins CL dx fs) ∧ fs.lookup ("fences" : Str) = some (.ref b) ∧ SqT K H b us ∧ Each (FenceV K CF H) us pss ∧ WholeLot pss ∧ fs.lookup ("side" : Str) = none
theorem LotAt.same {CF CL : Addr} {H H' : Hp} {x : Addr} {pss : List (List P2)} (s : Same H H') (h : LotAt K CF CL H x pss) : LotAt K CF CL H' x pss := by
  obtain ⟨dx, fs, b, us, h1, h2, h3, h4, h5⟩ := h
  exact ⟨dx, fs, b, us, s _ _ h1, h2, same_tup s h3, h4.imp fun v x z => z.same s, h5⟩
def spLotInit (K : PySem.W.Frag) (CF CL : Addr) : Sp := fun vs H Q _ => ∃ x dx p us pss, vs = [.ref x, .ref p] ∧ H x = some (.ins CL dx []) ∧ Sq K H p us ∧ Each (FenceV K CF H) us pss ∧ WholeLot pss ∧ (numP pss pss.length).length ≤ 60 ∧
  ∀ H', (∀ c o, c ≠ x → H c = some o → H' c = some o) → LotAt K CF CL H' x pss → Q .non H'
theorem ok_Lot_init (T : Txt K mg A) : FnOk PG w K mg base CX0 8 A.f_Lot_init A.d_Lot_init ["self", "fences"] (spLotInit K A.C_Fence A.C_Lot) := by
  obtain ⟨tkM, hMost⟩ := T.g_MOST_SIDES
  refine T.Lot_init.F.ok sc_Lot_init (fun vs H Q E h => ?_) (fun cdv A' outer s H vs Q E hr h => ?_)
  · obtain ⟨_, _, _, _, _, rfl, _⟩ := h; rfl
  · obtain ⟨x, dx, p, us, pss, rfl, hx, hu, he, wh, h60, q⟩ := h
    have hm := wh.many
    refine ⟨_, (pss_cons (ps_fld (pv 0) (pe_call (ok__fences_in T) (hr.mono (by decide)) (by rfl) T._fences_in.g T._fences_in.F.kp T._fences_in.b .nil pass0 (pa_cons (pv 1) pa_nil)) rfl)
      (pss_cons (ps_fld (pv 0) (pe_call (ok__numbered_sides T) (hr.mono (by decide)) (by rfl) T._numbered_sides.g T._numbered_sides.F.kp T._numbered_sides.b .nil pass0 (pa_cons (pe_fld (pv 0) rfl) pa_nil)) rfl)
      (pss_cons (ps_set (i := 2) sc_Lot_init.nd rfl (.inl rfl) (pe_call (ok_judged_fences T) (hr.mono (by decide)) (by rfl) T.judged_fences.g T.judged_fences.F.kp T.judged_fences.b .nil pass0 (pa_cons (pe_fld (pv 0) rfl) pa_nil)))
      (pss_cons (ps_if (pt_not (pt_boolO T.bool_Apart T.boolT ((ok_Paper_bool T).raw T.Paper_bool.b .nil) (hr.mono (by decide)) (pv 2))) (pss_one ps_never) pss_nil)
      (pss_one (ps_if (pt_cmpR op_gt (pe_callB call_len_seq (by rfl) T.n_len bt_len (pa_cons (pe_fld (pv 0) rfl) pa_nil)) (pe_glob (v := .int 60) (by rfl) hMost ⟨tkM, rfl⟩) (nomark _)) (pss_one ps_never) pss_nil)))))), ?_⟩
    -- the fences
    refine seq_by fun N hN => ?_
    walk_at "vc"
    refine ⟨_, rfl, p, us, pss, rfl, hu, he, hm.1, hm.2, fun H1 b s1 hb => ⟨_, rfl, x, A.C_Lot, dx, [], rfl, s1 _ _ hx, T.cl_Lot, T.no_Lot_fences, by decide, ?_⟩⟩
    have hx1 := s1 _ _ hx
    have kp2 : ∀ c o, c ≠ x → H c = some o → upd H1 x (.ins A.C_Lot dx (putF "fences" (.ref b) [])) c = some o := fun c o nc e => by rw [upd_ne nc]; exact s1 _ _ e
    have hb2 := keep_tupI (fs' := putF "fences" (.ref b) []) hx1 hb
    have he2 : Each (FenceV K A.C_Fence (upd H1 x (.ins A.C_Lot dx (putF "fences" (.ref b) [])))) us pss := he.imp fun v z ⟨y, e, hF⟩ => ⟨y, e, (hF.same s1).keepI hx1 rfl⟩
    have hx2 : upd H1 x (.ins A.C_Lot dx (putF "fences" (.ref b) [])) x = some (.ins A.C_Lot dx (putF "fences" (.ref b) [])) := upd_same
    generalize upd H1 x (.ins A.C_Lot dx (putF "fences" (.ref b) [])) = H2 at *
    clear hx1 s1 hb he hu
    show N _ _
    subst hN
    -- the sides
    refine seq_by fun N hN => ?_
    walk_at "vc"
    have lk2 : (putF ("fences" : Str) (V.ref b) []).lookup ("fences" : Str) = some (V.ref b) := by rw [lookup_putF, if_pos rfl]
    refine ⟨_, rfl, x, A.C_Lot, dx, _, .ref b, rfl, hx2, T.cl_Lot, T.no_Lot_fences, lk2, b, us, pss, rfl, hb2, he2, hm.2, wh.lens, fun H3 c ws s3 hc hw => ⟨_, rfl, x, A.C_Lot, dx, _, rfl, s3 _ _ hx2, T.cl_Lot, T.no_Lot_sides, (by show 1 < 1000; decide), ?_⟩⟩
    have hx3 := s3 _ _ hx2
    have lk3 : (putF ("fences" : Str) (V.ref b) []).lookup ("corners" : Str) = none := by rw [lookup_putF, if_neg (by decide)]; rfl
    have kp4 : ∀ c' o, c' ≠ x → H c' = some o → upd H3 x (.ins A.C_Lot dx (putF "sides" (.ref c) (putF "fences" (.ref b) []))) c' = some o := fun c' o nc e => by rw [upd_ne nc]; exact s3 _ _ (kp2 _ _ nc e)
    have hb4 := keep_tupI (fs' := putF "sides" (.ref c) (putF "fences" (.ref b) [])) hx3 (same_tup s3 hb2)
    have he4 : Each (FenceV K A.C_Fence (upd H3 x (.ins A.C_Lot dx (putF "sides" (.ref c) (putF "fences" (.ref b) []))))) us pss := he2.imp fun v z ⟨y, e, hF⟩ => ⟨y, e, (hF.same s3).keepI hx3 lk3⟩
    have hc4 := keep_tupI (fs' := putF "sides" (.ref c) (putF "fences" (.ref b) [])) hx3 hc
    have hx4 : upd H3 x (.ins A.C_Lot dx (putF "sides" (.ref c) (putF "fences" (.ref b) []))) x = some (.ins A.C_Lot dx (putF "sides" (.ref c) (putF "fences" (.ref b) []))) := upd_same
    have lw := hw.1
    generalize upd H3 x (.ins A.C_Lot dx (putF "sides" (.ref c) (putF "fences" (.ref b) []))) = H4 at *
    clear hx3 s3 hc hw hb2 he2 hx2 kp2
    have lk4 : (putF ("sides" : Str) (V.ref c) (putF ("fences" : Str) (V.ref b) [])).lookup ("fences" : Str) = some (V.ref b) := by rw [lookup_putF, if_neg (by decide)]; exact lk2
    have lk5 : (putF ("sides" : Str) (V.ref c) (putF ("fences" : Str) (V.ref b) [])).lookup ("sides" : Str) = some (V.ref c) := by rw [lookup_putF, if_pos rfl]
    have lk6 : (putF ("sides" : Str) (V.ref c) (putF ("fences" : Str) (V.ref b) [])).lookup ("side" : Str) = none := by rw [lookup_putF, if_neg (by decide), lookup_putF, if_neg (by decide)]; rfl
    show N _ _
    subst hN
    -- the check
    refine seq_by fun N hN => ?_
    walk_at "vc"
    refine ⟨_, rfl, x, A.C_Lot, dx, _, .ref b, rfl, hx4, T.cl_Lot, T.no_Lot_fences, lk4, b, us, pss, rfl, .inr hb4, he4, wh, fun H5 y dy fy s5 hy hy5 => ?_⟩
    subst hN
    refine seq_by fun N hN => ?_
    walk_at "vc"
    simp only [tBoolO]
    refine ⟨_, rfl, y, dy, fy, rfl, hy5, y, rfl, true, rfl, ?_⟩
    walk_at "vc"
    subst hN
    walk_at "vc"
    refine ⟨_, rfl, x, A.C_Lot, dx, _, .ref c, rfl, s5 _ _ hx4, T.cl_Lot, T.no_Lot_sides, lk5, c, rfl, ws, .inr (same_tup s5 hc4), ?_⟩
    rw [if_neg (by rw [lw]; omega)]
    exact q _ (fun c' o nc e => s5 _ _ (kp4 _ _ nc e)) ⟨dx, _, b, us, s5 _ _ hx4, lk4, same_tup s5 hb4, he4.imp fun v z w => w.same s5, wh, lk6⟩
/-! ### a side by its number -/
/-- at v: a pair (or list) of a fence and a side -/
def AtV (K : PySem.W.Frag) (H : Hp) (v : V) (m n : Nat) : Prop := ∃ a, v = .ref a ∧ Sq K H a [.int (m : Nat), .int (n : Nat)]
theorem AtV.same {H H' : Hp} {v : V} {m n : Nat} (s : Same H H') (h : AtV K H v m n) : AtV K H' v m n := by
  obtain ⟨a, e, h⟩ := h
  exact ⟨a, e, h.same s⟩
/-- what is no side of the lot -/
inductive BadAt (K : PySem.W.Frag) (H : Hp) (pss : List (List P2)) : V → Prop
  | kind {v : V} {U : String} (h : TyN K H v U) (h1 : U ≠ "list") (h2 : U ≠ "tuple") : BadAt K H pss v
  | len {a : Addr} {xs : List V} (h : Sq K H a xs) (h2 : xs.length ≠ 2) : BadAt K H pss (.ref a)
  | fence {a : Addr} {m : Int} {y : V} (h : Sq K H a [.int m, y]) (h2 : ¬ (0 ≤ m ∧ m < pss.length)) : BadAt K H pss (.ref a)
  | side {a : Addr} {m : Nat} {n : Int} {ps : List P2} (h : Sq K H a [.int (m : Nat), .int n]) (h1 : pss[m]? = some ps) (h2 : ¬ (0 ≤ n ∧ n < ps.length)) : BadAt K H pss (.ref a)
  | sideK {a : Addr} {m : Nat} {y : V} {U : String} {ps : List P2} (h : Sq K H a [.int (m : Nat), y]) (h1 : pss[m]? = some ps) (h2 : TyN K H y U) (h3 : U ≠ "int") : BadAt K H pss (.ref a)
theorem BadAt.same {H H' : Hp} {pss : List (List P2)} {v : V} (s : Same H H') (h : BadAt K H pss v) : BadAt K H' pss v := by
  cases h with
  | kind h h1 h2 => exact .kind (h.same s) h1 h2
  | len h h2 => exact .len (h.same s) h2
  | fence h h2 => exact .fence (h.same s) h2
  | side h h1 h2 => exact .side (h.same s) h1 h2
  | sideK h h1 h2 h3 => exact .sideK (h.same s) h1 (h2.same s) h3
def spIsSide (K : PySem.W.Frag) (CF CL : Addr) : Sp := fun vs H Q _ => ∃ l v pss, vs = [.ref l, v] ∧ LotAt K CF CL H l pss ∧
  ((∃ m n ps, AtV K H v m n ∧ pss[m]? = some ps ∧ n < ps.length ∧ RetV H (.bl true) Q) ∨ (BadAt K H pss v ∧ RetV H (.bl false) Q))
theorem ok_is_side (T : Txt K mg A) : FnOk PG w K mg base CX0 3 A.f_is_side A.d_is_side ["lot", "at"] (spIsSide K A.C_Fence A.C_Lot) := by
  refine T.is_side.F.ok sc_is_side (fun vs H Q E h => ?_) (fun cdv A' outer s H vs Q E hr h => ?_)
  · obtain ⟨_, _, _, rfl, _⟩ := h; rfl
  · obtain ⟨l, v, pss, rfl, hl, h⟩ := h
    refine ⟨_, (pss_cons (ps_if (PW.pt (pw_or (pt_not (pt_val (pe_call (ok_is_pair T) (hr.mono (by decide)) (by rfl) T.is_pair.g T.is_pair.F.kp T.is_pair.b .nil pass0 (pa_cons (pv 1) pa_nil)))) (pw_or1 (pt_not (pt_val (pe_call (ok_is_within T) (hr.mono (by decide)) (by rfl) T.is_within.g T.is_within.F.kp T.is_within.b .nil pass0 (pa_cons (pe_ix ix_any (pv 1) pe_int (fun _ _ => rfl)) (pa_cons pe_int (pa_cons (pe_op op_sub (pe_callB call_len_seq (by rfl) T.n_len bt_len (pa_cons (pe_fld (pv 0) rfl) pa_nil)) pe_int) pa_nil))))))))) (pss_one (ps_ret pe_bl)) pss_nil)
      (pss_one (ps_ret (pe_call (ok_is_within T) (hr.mono (by decide)) (by rfl) T.is_within.g T.is_within.F.kp T.is_within.b .nil pass0 (pa_cons (pe_ix ix_any (pv 1) pe_int (fun _ _ => rfl)) (pa_cons pe_int (pa_cons (pe_op op_sub (pe_callB (call_lenO T.len_Fence T.lenT ((ok_Fence_len T).raw T.Fence_len.b .nil) (hr.mono (by decide))) (by rfl) T.n_len bt_len (pa_cons (pe_ix ix_tup (pe_fld (pv 0) rfl) (pe_ix ix_any (pv 1) pe_int (fun _ _ => rfl)) (fun _ _ => rfl)) pa_nil)) pe_int) pa_nil))))))), ?_⟩
    refine seq_by fun N hN => ?_
    walk_at "vc"
    rcases h with ⟨m, n, ps, ⟨a, rfl, ha⟩, hps, hn, ret⟩ | ⟨hbad, ret⟩
    · skip
      refine ⟨_, rfl, .inr ⟨a, _, rfl, ha, fun H1 s1 => ⟨_, rfl, ?_⟩⟩⟩
      obtain ⟨dx, fs, b, us, h1, h2, h3, h4, h5⟩ := id (hl.same s1)
      have hm : m < us.length := by rw [h4.1]; exact (List.getElem?_eq_some_iff.mp hps).1
      refine iteF' rfl (ixA (ha.same s1) rfl ?_)
      refine ⟨_, rfl, l, A.C_Lot, dx, fs, .ref b, rfl, h1, T.cl_Lot, T.no_Lot_fences, h2, b, rfl, us, .inr h3, ?_⟩
      refine ⟨_, some 0, some ((us.length : Int) - 1), rfl, .inr ⟨_, rfl, fun H2 s2 => ⟨_, rfl, ?_⟩⟩⟩
      have eb : ((some (0 : Int)).all (fun l => decide (l ≤ ((m : Nat) : Int))) && (some ((us.length : Int) - 1)).all (fun k => decide (((m : Nat) : Int) ≤ k))) = true := by
        rw [Option.all_some, Option.all_some, ← Bool.decide_and]
        exact decide_eq_true (by omega)
      rw [eb]
      refine iteF' rfl ?_
      have s02 := s1.trans s2
      obtain ⟨v, hv, z, rfl, hF⟩ := (h4.imp fun v x z => z.same s2 : Each (FenceV K A.C_Fence H2) us pss).at hps
      have h3' := same_tup s2 h3
      subst hN
      walk_at "vc"
      obtain ⟨dy, fy, _, _, _, _, hz, _⟩ := id hF
      refine ixA (ha.same s02) rfl ?_
      refine ⟨_, rfl, l, A.C_Lot, dx, fs, .ref b, rfl, s2 _ _ h1, T.cl_Lot, T.no_Lot_fences, h2, ?_⟩
      refine ixA (ha.same s02) rfl ?_
      refine ixT h3' (atI_nat hv) ?_
      have hl40 : ps.length ≤ 40 := h5.1.lens _ (List.mem_of_getElem? hps)
      refine ⟨z, dy, fy, rfl, hz, z, ps, rfl, hF, _, rfl, by omega, by omega, _, rfl, _, some 0, some ((ps.length : Int) - 1), rfl, .inr ⟨_, rfl, ?_⟩⟩
      have eb : ((some (0 : Int)).all (fun l => decide (l ≤ ((n : Nat) : Int))) && (some ((ps.length : Int) - 1)).all (fun k => decide (((n : Nat) : Int) ≤ k))) = true := by
        rw [Option.all_some, Option.all_some, ← Bool.decide_and]
        exact decide_eq_true (by omega)
      rw [eb]
      exact ret.same s02
    · cases hbad with
      | kind h h1 h2 =>
        refine ⟨_, rfl, .inl ⟨_, h, h1, h2, fun H1 s1 => ⟨_, rfl, ?_⟩⟩⟩
        exact iteN (ret _ s1)
      | @len a xs h h2 =>
        refine ⟨_, rfl, .inr ⟨a, _, rfl, h, fun H1 s1 => ⟨_, rfl, ?_⟩⟩⟩
        rw [decide_eq_false h2]
        exact iteN (ret _ s1)
      | @fence a m y h h2 =>
        refine ⟨_, rfl, .inr ⟨a, _, rfl, h, fun H1 s1 => ⟨_, rfl, ?_⟩⟩⟩
        obtain ⟨dx, fs, b, us, g1, g2, g3, g4, g5⟩ := id (hl.same s1)
        refine iteF' rfl (ixA (h.same s1) rfl ?_)
        refine ⟨_, rfl, l, A.C_Lot, dx, fs, .ref b, rfl, g1, T.cl_Lot, T.no_Lot_fences, g2, b, rfl, us, .inr g3, ?_⟩
        refine ⟨_, some 0, some ((us.length : Int) - 1), rfl, .inr ⟨_, rfl, fun H2 s2 => ⟨_, rfl, ?_⟩⟩⟩
        have eb : ((some (0 : Int)).all (fun l => decide (l ≤ m)) && (some ((us.length : Int) - 1)).all (fun k => decide (m ≤ k))) = false := by
          rw [Option.all_some, Option.all_some, ← Bool.decide_and]
          have := g4.1
          exact decide_eq_false (by omega)
        rw [eb]
        exact iteN (ret _ (s1.trans s2))
      | @side a m n ps h h1 h2 =>
        refine ⟨_, rfl, .inr ⟨a, _, rfl, h, fun H1 s1 => ⟨_, rfl, ?_⟩⟩⟩
        obtain ⟨dx, fs, b, us, g1, g2, g3, g4, g5⟩ := id (hl.same s1)
        refine iteF' rfl (ixA (h.same s1) rfl ?_)
        refine ⟨_, rfl, l, A.C_Lot, dx, fs, .ref b, rfl, g1, T.cl_Lot, T.no_Lot_fences, g2, b, rfl, us, .inr g3, ?_⟩
        refine ⟨_, some 0, some ((us.length : Int) - 1), rfl, .inr ⟨_, rfl, fun H2 s2 => ⟨_, rfl, ?_⟩⟩⟩
        have hm : m < us.length := by rw [g4.1]; exact (List.getElem?_eq_some_iff.mp h1).1
        have eb : ((some (0 : Int)).all (fun l => decide (l ≤ ((m : Nat) : Int))) && (some ((us.length : Int) - 1)).all (fun k => decide (((m : Nat) : Int) ≤ k))) = true := by
          rw [Option.all_some, Option.all_some, ← Bool.decide_and]
          exact decide_eq_true (by omega)
        rw [eb]
        refine iteF' rfl ?_
        have s02 := s1.trans s2
        obtain ⟨v, hv, z, rfl, hF⟩ := (g4.imp fun v x z => z.same s2 : Each (FenceV K A.C_Fence H2) us pss).at h1
        have g3' := same_tup s2 g3
        subst hN
        walk_at "vc"
        obtain ⟨dy, fy, _, _, _, _, hz, _⟩ := id hF
        refine ixA (h.same s02) rfl ?_
        refine ⟨_, rfl, l, A.C_Lot, dx, fs, .ref b, rfl, s2 _ _ g1, T.cl_Lot, T.no_Lot_fences, g2, ?_⟩
        refine ixA (h.same s02) rfl ?_
        refine ixT g3' (atI_nat hv) ?_
        have hl40 : ps.length ≤ 40 := g5.1.lens _ (List.mem_of_getElem? h1)
        refine ⟨z, dy, fy, rfl, hz, z, ps, rfl, hF, _, rfl, by omega, by omega, _, rfl, _, some 0, some ((ps.length : Int) - 1), rfl, .inr ⟨_, rfl, ?_⟩⟩
        have eb : ((some (0 : Int)).all (fun l => decide (l ≤ n)) && (some ((ps.length : Int) - 1)).all (fun k => decide (n ≤ k))) = false := by
          rw [Option.all_some, Option.all_some, ← Bool.decide_and]
          exact decide_eq_false (by omega)
        rw [eb]
        exact ret.same s02
      | @sideK a m y U ps h h1 h2 h3 =>
        refine ⟨_, rfl, .inr ⟨a, _, rfl, h, fun H1 s1 => ⟨_, rfl, ?_⟩⟩⟩
        obtain ⟨dx, fs, b, us, g1, g2, g3, g4, g5⟩ := id (hl.same s1)
        refine iteF' rfl (ixA (h.same s1) rfl ?_)
        refine ⟨_, rfl, l, A.C_Lot, dx, fs, .ref b, rfl, g1, T.cl_Lot, T.no_Lot_fences, g2, b, rfl, us, .inr g3, ?_⟩
        refine ⟨_, some 0, some ((us.length : Int) - 1), rfl, .inr ⟨_, rfl, fun H2 s2 => ⟨_, rfl, ?_⟩⟩⟩
        have hm : m < us.length := by rw [g4.1]; exact (List.getElem?_eq_some_iff.mp h1).1
        have eb : ((some (0 : Int)).all (fun l => decide (l ≤ ((m : Nat) : Int))) && (some ((us.length : Int) - 1)).all (fun k => decide (((m : Nat) : Int) ≤ k))) = true := by
          rw [Option.all_some, Option.all_some, ← Bool.decide_and]
          exact decide_eq_true (by omega)
        rw [eb]
        refine iteF' rfl ?_
        have s02 := s1.trans s2
        obtain ⟨v, hv, z, rfl, hF⟩ := (g4.imp fun v x z => z.same s2 : Each (FenceV K A.C_Fence H2) us pss).at h1
        have g3' := same_tup s2 g3
        subst hN
        walk_at "vc"
        obtain ⟨dy, fy, _, _, _, _, hz, _⟩ := id hF
        refine ixA (h.same s02) rfl ?_
        refine ⟨_, rfl, l, A.C_Lot, dx, fs, .ref b, rfl, s2 _ _ g1, T.cl_Lot, T.no_Lot_fences, g2, ?_⟩
        refine ixA (h.same s02) rfl ?_
        refine ixT g3' (atI_nat hv) ?_
        have hl40 : ps.length ≤ 40 := g5.1.lens _ (List.mem_of_getElem? h1)
        exact ⟨z, dy, fy, rfl, hz, z, ps, rfl, hF, _, rfl, by omega, by omega, _, rfl, _, some 0, some ((ps.length : Int) - 1), rfl, .inl ⟨U, h2.same s02, h3, ret.same s02⟩⟩
end
end Odd
namespace Odd
open PySem PySem.Spec PyProof.Rows L2
local macro_rules | `(tactic| walk_at "vc") => `(tactic| simp only [tSeq, tAsg, gName, tCB, tCons, tNil, tVar, tC, tOp, tUn, rI0, rI, rU, tTup, tLst, tIfS, tTest, tB, tRet, tNext, rGcd, L2.start, List.map, List.set, List.replicate, List.cons_append, List.nil_append, List.length_cons, List.length_nil, List.getElem?_cons_succ, List.getElem?_cons_zero, Option.some.injEq, exists_eq_left', exists_eq_left, List.append_nil, List.cons.injEq, V.int.injEq, exists_and_left, and_true, true_and, and_assoc, exists_const, V.bl.injEq, V.ref.injEq, Nat.sub_self, Nat.reduceAdd, Nat.reduceSub, List.replicate_succ, List.replicate_zero, tAnd, tOr, tNot, tAndV, tOrV, tNotV, tIf, tCall, tCallK, tDrop, rEq, rNe, decide_eq_true_eq, Bool.not_eq_true', decide_eq_false_iff_not, Bool.false_eq_true, if_true, if_false, reduceIte, reduceCtorEq, tMkLow, tRaiseLow, rIsB, rNotB, tBreak, tPar, gSub, rSetL, tChain, gTup, gCons, gNil, gSeq, cx_K, cx_Kn, optV, V.str.injEq, Bool.not_true, Bool.not_false, false_and, and_false, or_false, false_or, exists_false, tCallN, tCallS, tPairs])
section
variable {w : World} {K : PySem.W.Frag} {mg : Str → Option Value} {base : Heap} {A : Ads}
def spLotSide (K : PySem.W.Frag) (CF CL : Addr) : Sp := fun vs H Q _ => ∃ l v m n pss ps sd, vs = [.ref l, v] ∧ LotAt K CF CL H l pss ∧ AtV K H v m n ∧ pss[m]? = some ps ∧ (sideL ps)[n]? = some sd ∧ ∀ H' u, Same H H' → Sd K H' u sd → Q u H'
theorem ok_Lot_side (T : Txt K mg A) : FnOk PG w K mg base CX0 4 A.f_Lot_side A.d_Lot_side ["self", "at"] (spLotSide K A.C_Fence A.C_Lot) := by
  refine T.Lot_side.F.ok sc_Lot_side (fun vs H Q E h => ?_) (fun cdv A' outer s H vs Q E hr h => ?_)
  · obtain ⟨_, _, _, _, _, _, _, rfl, _⟩ := h; rfl
  · obtain ⟨l, v, m, n, pss, ps, sd, rfl, hl, ha, hps, hsd, q⟩ := h
    refine ⟨_, (pss_cons (ps_if (pt_not (pt_val (pe_call (ok_is_side T) (hr.mono (by decide)) (by rfl) T.is_side.g T.is_side.F.kp T.is_side.b .nil pass0 (pa_cons (pv 0) (pa_cons (pv 1) pa_nil))))) (pss_one ps_never) pss_nil)
      (pss_one (ps_ret (pe_ix ix_tup (pe_fld (pe_ix ix_tup (pe_fld (pv 0) rfl) (pe_ix ix_any (pv 1) pe_int (fun _ _ => rfl)) (fun _ _ => rfl)) rfl) (pe_ix ix_any (pv 1) pe_int (fun _ _ => rfl)) (fun _ _ => rfl))))), ?_⟩
    refine seq_by fun N hN => ?_
    walk_at "vc"
    have hn : n < ps.length := by
      have := (List.getElem?_eq_some_iff.mp hsd).1
      rw [sideL_len] at this
      exact this
    refine ⟨l, v, pss, rfl, hl, .inl ⟨m, n, ps, ha, hps, hn, fun H1 s1 => ⟨_, rfl, ?_⟩⟩⟩
    refine iteF' rfl ?_
    obtain ⟨a, rfl, hA⟩ := ha.same s1
    obtain ⟨dx, fs, b, us, h1, h2, h3, h4, h5⟩ := hl.same s1
    obtain ⟨v, hv, z, rfl, hF⟩ := h4.at hps
    obtain ⟨dy, fy, _, _, d, xs, g1, g2, g3, g4, g5, g6, g7⟩ := id hF
    obtain ⟨y, hy, hS⟩ := g7.at hsd
    subst hN
    walk_at "vc"
    simp only [tFld]
    walk_at "vc"
    refine ⟨_, rfl, l, A.C_Lot, dx, fs, .ref b, rfl, h1, T.cl_Lot, T.no_Lot_fences, h2, ?_⟩
    refine ixA hA rfl ?_
    refine ixT h3 (atI_nat hv) ?_
    refine ⟨z, rfl, A.C_Fence, dy, fy, g1, T.cl_Fence, T.no_Fence_sides, _, g5, ?_⟩
    refine ixA hA rfl ?_
    refine ixT g6 (atI_nat hy) ?_
    exact q _ _ s1 hS
def spRatioIn (K : PySem.W.Frag) (C : Addr) : Sp := fun vs H Q E => ∃ v, vs = [v] ∧ ((∃ q, Num K H v q ∧ 0 < q.1 ∧ RetP K H q Q) ∨ ((Bad K H v ∨ ∃ q, Num K H v q ∧ q.1 ≤ 0) ∧ RaiseP H C (.str "ratio") E))
theorem ok_ratio_in (T : Txt K mg A) : FnOk PG w K mg base (L2.CX PG w) 4 A.f_ratio_in A.d_ratio_in ["value"] (spRatioIn K A.c_BadRatio) := by
  refine T.ratio_in.F.okX sc_ratio_in (fun vs H Q E h => ?_) (fun cdv A' outer s H vs Q E hr h => ?_)
  · obtain ⟨_, rfl, _⟩ := h; rfl
  · obtain ⟨v, rfl, h⟩ := h
    refine ⟨_, (pss_cons (ps_if (PW.pt (pw_or (pt_not (pt_val (pe_call (ok_is_number T) (hr.mono (by decide)) (by rfl) T.is_number.g T.is_number.F.kp T.is_number.b .nil pass0 (pa_cons (pv 0) pa_nil)))) (pw_or1 (pt_cmpR op_le (pe_ix ix_tup (pe_call (ok_pair_of T) (hr.mono (by decide)) (by rfl) T.pair_of.g T.pair_of.F.kp T.pair_of.b .nil pass0 (pa_cons (pv 0) pa_nil)) pe_int (fun _ _ => rfl)) pe_int (nomark _))))) (pss_one (ps_raiseLow rfl T.low_BadRatio hr (takes_of rfl rfl rfl rfl) (by exact (pa_cons pe_str pa_nil)))) pss_nil)
      (pss_one (ps_ret (pe_call (ok_pair_of T) (hr.mono (by decide)) (by rfl) T.pair_of.g T.pair_of.F.kp T.pair_of.b .nil pass0 (pa_cons (pv 0) pa_nil))))), ?_⟩
    refine seq_by fun N hN => ?_
    walk_at "vc"
    rcases h with ⟨q, hn, hq, ret⟩ | ⟨hb | ⟨q, hn, hq⟩, ra⟩
    · refine ⟨v, rfl, .inl ⟨q, hn, fun H1 s1 => ⟨_, rfl, ?_⟩⟩⟩
      refine iteF' rfl ?_
      refine ⟨v, q, rfl, hn.same s1, fun H2 p s2 hp => ixT hp rfl ⟨_, rfl, ?_⟩⟩
      rw [if_neg (by omega)]
      subst hN
      walk_at "vc"
      exact ⟨v, q, rfl, hn.same (s1.trans s2), fun H3 p3 s3 hp3 => ret _ _ ((s1.trans s2).trans s3) hp3⟩
    · refine ⟨v, rfl, .inr ⟨hb, fun H1 s1 => ⟨_, rfl, ?_⟩⟩⟩
      refine iteN ?_
      exact fun d hd => ra _ d (s1.trans (same_upd hd)) upd_same
    · refine ⟨v, rfl, .inl ⟨q, hn, fun H1 s1 => ⟨_, rfl, ?_⟩⟩⟩
      refine iteF' rfl ?_
      refine ⟨v, q, rfl, hn.same s1, fun H2 p s2 hp => ixT hp rfl ⟨_, rfl, ?_⟩⟩
      rw [if_pos hq]
      exact fun d hd => ra _ d ((s1.trans s2).trans (same_upd hd)) upd_same
def spCheckLot (K : PySem.W.Frag) (CF CL C : Addr) : Sp := fun vs H Q E => ∃ v, vs = [v] ∧ ((∃ l pss, v = .ref l ∧ LotAt K CF CL H l pss ∧ Q .non H) ∨ (∃ U, TyN K H v U ∧ (U = "NoneType" ∨ U = "list" ∨ U = "int") ∧ RaiseP H C (.str "lot") E))
theorem ok_check_lot (T : Txt K mg A) : FnOk PG w K mg base (L2.CX PG w) 4 A.f_check_lot A.d_check_lot ["lot"] (spCheckLot K A.C_Fence A.C_Lot A.c_BadLot) := by
  refine T.check_lot.F.okX sc_check_lot (fun vs H Q E h => ?_) (fun cdv A' outer s H vs Q E hr h => ?_)
  · obtain ⟨_, rfl, _⟩ := h; rfl
  · obtain ⟨v, rfl, h⟩ := h
    refine ⟨_, (pss_one (ps_if (pt_not (pt_val (pe_callB call_isi (by rfl) T.n_isinstance bt_isinstance (pa_cons (pv 0) (pa_cons (pe_glob (v := .ref A.C_Lot) (by rfl) T.m_Lot rfl) pa_nil))))) (pss_one (ps_raiseLow rfl T.low_BadLot hr (takes_of rfl rfl rfl rfl) (by exact (pa_cons pe_str pa_nil)))) pss_nil)), ?_⟩
    walk_at "vc"
    rcases h with ⟨l, pss, rfl, ⟨dx, fs, b, us, h1, h2, h3, h4, h5⟩, q⟩ | ⟨U, hU, hT, ra⟩
    · refine ⟨_, _, _, _, true, rfl, .own _, .base (TyOf.ins h1 T.is_Lot.cl T.is_Lot.ha T.is_Lot.hn T.is_Lot.htk T.is_Lot.hm), T.is_Lot.me, _, rfl, ?_⟩
      exact iteF' rfl q
    · refine ⟨_, _, _, _, false, rfl, .own _, hU.x, T.kn_Lot U hT, _, rfl, ?_⟩
      exact iteN (fun d hd => ra _ d (same_upd hd) upd_same)
theorem vDot_sm {n : Nat} {p q : P2} (cp : CanonP p) (cq : CanonP q) (sp : SmP n p) (sq : SmP n q) : Sm (4 * n + 1) (vDot p q) := by
  have h := fAdd_sm (fMul_canon cp.1 cq.1) (fMul_canon cp.2 cq.2) (fMul_sm cp.1 cq.1 sp.1 sq.1) (fMul_sm cp.2 cq.2 sp.2 sq.2)
  exact h.up (by omega)
theorem vDot_canon {p q : P2} (cp : CanonP p) (cq : CanonP q) : Canon (vDot p q) := fAdd_canon (fMul_canon cp.1 cq.1) (fMul_canon cp.2 cq.2)
def detF (a b c d : P2) (r : Int × Int) : Int × Int := fNeg (fAdd (fMul (fMul r (vDot a c)) (fMul r (vDot b d))) (fMul (fSub (vCross b c) (fMul r (vDot b c))) (fAdd (vCross a d) (fMul r (vDot a d)))))
/-- a value that is a pair of integers in lowest terms, of so many binary digits -/
def Rat (K : PySem.W.Frag) (n : Nat) (H : Hp) (v : V) (q : Int × Int) : Prop := Pr K H v q ∧ Canon q ∧ Sm n q
def Vec (K : PySem.W.Frag) (n : Nat) (H : Hp) (v : V) (q : P2) : Prop := PP K H v q ∧ CanonP q ∧ SmP n q
theorem Rat.same {n : Nat} {H H' : Hp} {v : V} {q : Int × Int} (s : Same H H') (h : Rat K n H v q) : Rat K n H' v q := ⟨h.1.same s, h.2⟩
theorem Vec.same {n : Nat} {H H' : Hp} {v : V} {q : P2} (s : Same H H') (h : Vec K n H v q) : Vec K n H' v q := ⟨h.1.same s, h.2⟩
theorem Rat.up {n m : Nat} {H : Hp} {v : V} {q : Int × Int} (h : Rat K n H v q) (l : n ≤ m) : Rat K m H v q := ⟨h.1, h.2.1, h.2.2.up l⟩
/-- one sum or product of two such -/
theorem pp_mul {n m : Nat} {H : Hp} {v u : V} {a b : Int × Int} {Q : VK} {E : XK} (ha : Rat K n H v a) (hb : Rat K m H u b) (hn : n ≤ 4000) (hm : m ≤ 4000) (k : ∀ H' p, Same H H' → Rat K (n + m) H' (.ref p) (fMul a b) → Q (.ref p) H') : spPP K fMul okU [v, u] H Q E :=
  ⟨v, u, a, b, rfl, ha.1, hb.1, ha.2.2.up hn, hb.2.2.up hm, ⟨canon_ne ha.2.1, canon_ne hb.2.1⟩, fun H' p s hp => k H' p s ⟨⟨p, rfl, hp⟩, fMul_canon ha.2.1 hb.2.1, by
    obtain ⟨_, h2, h3⟩ := low_is (t := a.1 * b.1) (Int.mul_ne_zero (canon_ne ha.2.1) (canon_ne hb.2.1))
    exact ⟨Nat.lt_of_le_of_lt h2 (wide_lt ha.2.2.1 hb.2.2.1), Nat.lt_of_le_of_lt h3 (wide_lt ha.2.2.2 hb.2.2.2)⟩⟩⟩
theorem pp_add {n m : Nat} {H : Hp} {v u : V} {a b : Int × Int} {Q : VK} {E : XK} (ha : Rat K n H v a) (hb : Rat K m H u b) (hn : n ≤ 4000) (hm : m ≤ 4000) (k : ∀ H' p, Same H H' → Rat K (n + m + 1) H' (.ref p) (fAdd a b) → Q (.ref p) H') : spPP K fAdd okU [v, u] H Q E :=
  ⟨v, u, a, b, rfl, ha.1, hb.1, ha.2.2.up hn, hb.2.2.up hm, ⟨canon_ne ha.2.1, canon_ne hb.2.1⟩, fun H' p s hp => k H' p s ⟨⟨p, rfl, hp⟩, fAdd_canon ha.2.1 hb.2.1, fAdd_sm2 ha.2.1 hb.2.1 ha.2.2 hb.2.2⟩⟩
theorem pp_sub {n m : Nat} {H : Hp} {v u : V} {a b : Int × Int} {Q : VK} {E : XK} (ha : Rat K n H v a) (hb : Rat K m H u b) (hn : n ≤ 4000) (hm : m ≤ 4000) (k : ∀ H' p, Same H H' → Rat K (n + m + 1) H' (.ref p) (fSub a b) → Q (.ref p) H') : spPP K fSub okU [v, u] H Q E :=
  ⟨v, u, a, b, rfl, ha.1, hb.1, ha.2.2.up hn, hb.2.2.up hm, ⟨canon_ne ha.2.1, canon_ne hb.2.1⟩, fun H' p s hp => k H' p s ⟨⟨p, rfl, hp⟩, fSub_canon ha.2.1 hb.2.1, by
    obtain ⟨_, h2, h3⟩ := low_is (t := a.1 * b.2 - b.1 * a.2) (Int.mul_ne_zero (canon_ne ha.2.1) (canon_ne hb.2.1))
    have m1 := wide_lt ha.2.2.1 hb.2.2.2
    have m2 := wide_lt hb.2.2.1 ha.2.2.2
    rw [Nat.add_comm m n] at m2
    have e := two_pow (n + m)
    exact ⟨Nat.lt_of_le_of_lt h2 (by omega), Nat.lt_of_le_of_lt h3 (Nat.lt_of_lt_of_le (wide_lt ha.2.2.2 hb.2.2.2) (pow_le (by omega)))⟩⟩⟩
theorem vv_dot {n : Nat} {H : Hp} {v u : V} {p q : P2} {Q : VK} {E : XK} (hp : Vec K n H v p) (hq : Vec K n H u q) (hn : n ≤ 2000) (k : ∀ H' r, Same H H' → Rat K (4 * n + 1) H' (.ref r) (vDot p q) → Q (.ref r) H') : spVN K vDot [v, u] H Q E :=
  ⟨v, u, p, q, rfl, hp.1, hq.1, hp.2.1, hq.2.1, hp.2.2.up hn, hq.2.2.up hn, fun H' r s hr => k H' r s ⟨⟨r, rfl, hr⟩, vDot_canon hp.2.1 hq.2.1, vDot_sm hp.2.1 hq.2.1 hp.2.2 hq.2.2⟩⟩
theorem vv_cross {n : Nat} {H : Hp} {v u : V} {p q : P2} {Q : VK} {E : XK} (hp : Vec K n H v p) (hq : Vec K n H u q) (hn : n ≤ 2000) (k : ∀ H' r, Same H H' → Rat K (4 * n + 1) H' (.ref r) (vCross p q) → Q (.ref r) H') : spVN K vCross [v, u] H Q E :=
  ⟨v, u, p, q, rfl, hp.1, hq.1, hp.2.1, hq.2.1, hp.2.2.up hn, hq.2.2.up hn, fun H' r s hr => k H' r s ⟨⟨r, rfl, hr⟩, vCross_canon hp.2.1 hq.2.1, vCross_sm hp.2.1 hq.2.1 hp.2.2 hq.2.2⟩⟩
def spDetOf (K : PySem.W.Frag) : Sp := fun vs H Q _ => ∃ l r x y z t a b c d q, vs = [.ref l, r] ∧ Sq K H l [x, y, z, t] ∧ Vec K 100 H x a ∧ Vec K 100 H y b ∧ Vec K 100 H z c ∧ Vec K 100 H t d ∧ Rat K 100 H r q ∧ RetP K H (detF a b c d q) Q
theorem ok_determinant_of (T : Txt K mg A) : FnOk PG w K mg base CX0 5 A.f_determinant_of A.d_determinant_of ["vectors", "ratio"] (spDetOf K) := by
  refine T.determinant_of.F.ok sc_determinant_of (fun vs H Q E h => ?_) (fun cdv A' outer s H vs Q E hr h => ?_)
  · obtain ⟨_, _, _, _, _, _, _, _, _, _, _, rfl, _⟩ := h; rfl
  · obtain ⟨l, r, x, y, z, t, a, b, c, d, q, rfl, hl, hx, hy, hz, ht, hr', ret⟩ := h
    refine ⟨_, (pss_cons (ps_asg (pv 0) (pg_seq2 rfl (pgs_cons (pg_name (i := 2) sc_determinant_of.nd rfl (.inl rfl)) (pgs_cons (pg_name (i := 3) sc_determinant_of.nd rfl (.inl rfl)) (pgs_cons (pg_name (i := 4) sc_determinant_of.nd rfl (.inl rfl)) (pgs_cons (pg_name (i := 5) sc_determinant_of.nd rfl (.inl rfl)) pgs_nil))))))
      (pss_cons (ps_set (i := 6) sc_determinant_of.nd rfl (.inl rfl) (pe_call (ok_product_of T) (hr.mono (by decide)) (by rfl) T.product_of.g T.product_of.F.kp T.product_of.b .nil pass0 (pa_cons (pe_call (ok_product_of T) (hr.mono (by decide)) (by rfl) T.product_of.g T.product_of.F.kp T.product_of.b .nil pass0 (pa_cons (pv 1) (pa_cons (pe_call (ok_dot_of T) (hr.mono (by decide)) (by rfl) T.dot_of.g T.dot_of.F.kp T.dot_of.b .nil pass0 (pa_cons (pv 2) (pa_cons (pv 4) pa_nil))) pa_nil))) (pa_cons (pe_call (ok_product_of T) (hr.mono (by decide)) (by rfl) T.product_of.g T.product_of.F.kp T.product_of.b .nil pass0 (pa_cons (pv 1) (pa_cons (pe_call (ok_dot_of T) (hr.mono (by decide)) (by rfl) T.dot_of.g T.dot_of.F.kp T.dot_of.b .nil pass0 (pa_cons (pv 3) (pa_cons (pv 5) pa_nil))) pa_nil))) pa_nil))))
      (pss_cons (ps_set (i := 7) sc_determinant_of.nd rfl (.inl rfl) (pe_call (ok_product_of T) (hr.mono (by decide)) (by rfl) T.product_of.g T.product_of.F.kp T.product_of.b .nil pass0 (pa_cons (pe_call (ok_difference T) (hr.mono (by decide)) (by rfl) T.difference.g T.difference.F.kp T.difference.b .nil pass0 (pa_cons (pe_call (ok_cross_of T) (hr.mono (by decide)) (by rfl) T.cross_of.g T.cross_of.F.kp T.cross_of.b .nil pass0 (pa_cons (pv 3) (pa_cons (pv 4) pa_nil))) (pa_cons (pe_call (ok_product_of T) (hr.mono (by decide)) (by rfl) T.product_of.g T.product_of.F.kp T.product_of.b .nil pass0 (pa_cons (pv 1) (pa_cons (pe_call (ok_dot_of T) (hr.mono (by decide)) (by rfl) T.dot_of.g T.dot_of.F.kp T.dot_of.b .nil pass0 (pa_cons (pv 3) (pa_cons (pv 4) pa_nil))) pa_nil))) pa_nil))) (pa_cons (pe_call (ok_sum_of T) (hr.mono (by decide)) (by rfl) T.sum_of.g T.sum_of.F.kp T.sum_of.b .nil pass0 (pa_cons (pe_call (ok_cross_of T) (hr.mono (by decide)) (by rfl) T.cross_of.g T.cross_of.F.kp T.cross_of.b .nil pass0 (pa_cons (pv 2) (pa_cons (pv 5) pa_nil))) (pa_cons (pe_call (ok_product_of T) (hr.mono (by decide)) (by rfl) T.product_of.g T.product_of.F.kp T.product_of.b .nil pass0 (pa_cons (pv 1) (pa_cons (pe_call (ok_dot_of T) (hr.mono (by decide)) (by rfl) T.dot_of.g T.dot_of.F.kp T.dot_of.b .nil pass0 (pa_cons (pv 2) (pa_cons (pv 5) pa_nil))) pa_nil))) pa_nil))) pa_nil))))
      (pss_one (ps_ret (pe_call (ok_negative T) (hr.mono (by decide)) (by rfl) T.negative.g T.negative.F.kp T.negative.b .nil pass0 (pa_cons (pe_call (ok_sum_of T) (hr.mono (by decide)) (by rfl) T.sum_of.g T.sum_of.F.kp T.sum_of.b .nil pass0 (pa_cons (pv 6) (pa_cons (pv 7) pa_nil))) pa_nil))))))), ?_⟩
    refine seq_by fun N hN => ?_
    walk_at "vc"
    refine ⟨_, hl, rfl, _, _, rfl, _, _, rfl, _, _, rfl, _, _, rfl, rfl, ?_⟩
    subst hN
    -- the first product
    refine seq_by fun N hN => ?_
    walk_at "vc"
    refine vv_dot hx hz (by decide) fun H1 r1 s1 h1 => ?_
    refine pp_mul (hr'.same s1) h1 (by decide) (by decide) fun H2 r2 s2 h2 => ?_
    have S2 := s1.trans s2
    refine vv_dot (hy.same S2) (ht.same S2) (by decide) fun H3 r3 s3 h3 => ?_
    have S3 := S2.trans s3
    refine pp_mul (hr'.same S3) h3 (by decide) (by decide) fun H4 r4 s4 h4 => ?_
    have S4 := S3.trans s4
    refine pp_mul (h2.same (s3.trans s4)) h4 (by decide) (by decide) fun H5 r5 s5 h5 => ?_
    have S5 := S4.trans s5
    have hx := hx.same S5; have hy := hy.same S5; have hz := hz.same S5; have ht := ht.same S5; have hr' := hr'.same S5
    clear h1 h2 h3 h4 s1 s2 s3 s4 s5 S2 S3 S4 hl
    subst hN
    -- the second one
    refine seq_by fun N hN => ?_
    walk_at "vc"
    refine vv_cross hy hz (by decide) fun H1 r1 s1 h1 => ?_
    refine vv_dot (hy.same s1) (hz.same s1) (by decide) fun H2 r2 s2 h2 => ?_
    have S2 := s1.trans s2
    refine pp_mul (hr'.same S2) h2 (by decide) (by decide) fun H3 r3 s3 h3 => ?_
    have S3 := S2.trans s3
    refine pp_sub (h1.same (s2.trans s3)) h3 (by decide) (by decide) fun H4 r4 s4 h4 => ?_
    have S4 := S3.trans s4
    refine vv_cross (hx.same S4) (ht.same S4) (by decide) fun H5' r5' s5 h5' => ?_
    have S5' := S4.trans s5
    refine vv_dot (hx.same S5') (ht.same S5') (by decide) fun H6 r6 s6 h6 => ?_
    have S6 := S5'.trans s6
    refine pp_mul (hr'.same S6) h6 (by decide) (by decide) fun H7 r7 s7 h7 => ?_
    have S7 := S6.trans s7
    refine pp_add (h5'.same (s6.trans s7)) h7 (by decide) (by decide) fun H8 r8 s8 h8 => ?_
    refine pp_mul (h4.same (((s5.trans s6).trans s7).trans s8)) h8 (by decide) (by decide) fun H9 r9 s9 h9 => ?_
    have S9 := (S7.trans s8).trans s9
    subst hN
    walk_at "vc"
    refine pp_add (h5.same S9) h9 (by decide) (by decide) fun H10 r10 s10 h10 => ?_
    refine ⟨_, _, rfl, h10.1, fun H11 p s11 hp => ret _ _ ((S5.trans S9).trans (s10.trans s11)) hp⟩
end
end Odd
namespace Odd
open PySem PySem.Spec PyProof.Rows L2
local macro_rules | `(tactic| walk_at "vc") => `(tactic| simp only [tSeq, tAsg, gName, tCB, tCons, tNil, tVar, tC, tOp, tUn, rI0, rI, rU, tTup, tLst, tIfS, tTest, tB, tRet, tNext, rGcd, L2.start, List.map, List.set, List.replicate, List.cons_append, List.nil_append, List.length_cons, List.length_nil, List.getElem?_cons_succ, List.getElem?_cons_zero, Option.some.injEq, exists_eq_left', exists_eq_left, List.append_nil, List.cons.injEq, V.int.injEq, exists_and_left, and_true, true_and, and_assoc, exists_const, V.bl.injEq, V.ref.injEq, Nat.sub_self, Nat.reduceAdd, Nat.reduceSub, List.replicate_succ, List.replicate_zero, tAnd, tOr, tNot, tAndV, tOrV, tNotV, tIf, tCall, tCallK, tDrop, rEq, rNe, decide_eq_true_eq, Bool.not_eq_true', decide_eq_false_iff_not, Bool.false_eq_true, if_true, if_false, reduceIte, reduceCtorEq, tMkLow, tRaiseLow, rIsB, rNotB, tBreak, tPar, gSub, rSetL, tChain, gTup, gCons, gNil, gSeq, cx_K, cx_Kn, optV, V.str.injEq, Bool.not_true, Bool.not_false, false_and, and_false, or_false, false_or, exists_false, tCallN, tCallS, tPairs])
section
variable {w : World} {K : PySem.W.Frag} {mg : Str → Option Value} {base : Heap} {A : Ads}
theorem call_tuple_ofK {X : Cx} {K : PySem.W.Frag} (e : X.K = K) : CallR X (.type "tuple") (fun xs H Q => ∃ p ys, xs = [.ref p] ∧ ((SqL K H p ys ∧ ∀ l, H l = none → Q (.ref l) (upd H l (.tup ys))) ∨ (SqT K H p ys ∧ Q (.ref p) H))) := by subst e; exact call_tuple_of
/-- a number of a side, or none, as the truth tells -/
def AtJ (K : PySem.W.Frag) (pss : List (List P2)) (H : Hp) (v : V) (q : Option (Nat × Nat)) : Prop := match q with
  | some (m, n) => AtV K H v m n ∧ ∃ ps, pss[m]? = some ps ∧ n < ps.length
  | none => BadAt K H pss v
theorem AtJ.same {pss : List (List P2)} {H H' : Hp} {v : V} {q : Option (Nat × Nat)} (s : Same H H') (h : AtJ K pss H v q) : AtJ K pss H' v q := by
  cases q with
  | none => exact BadAt.same s h
  | some q => exact ⟨AtV.same s h.1, h.2⟩
inductive BadFour (K : PySem.W.Frag) (pss : List (List P2)) (H : Hp) : V → Prop
  | kind {v : V} {U : String} (h : TyN K H v U) (h1 : U ≠ "list") (h2 : U ≠ "tuple") : BadFour K pss H v
  | len {p : Addr} {us : List V} (h : Sq K H p us) (h1 : us.length ≠ 4) : BadFour K pss H (.ref p)
  | side {p : Addr} {us : List V} {qs : List (Option (Nat × Nat))} (h : Sq K H p us) (h1 : us.length = 4) (h2 : Each (AtJ K pss H) us qs) (h3 : none ∈ qs) : BadFour K pss H (.ref p)
def spFourIn (K : PySem.W.Frag) (CF CL C : Addr) : Sp := fun vs H Q E => ∃ l v pss, vs = [.ref l, v] ∧ LotAt K CF CL H l pss ∧
  ((∃ p us qs, v = .ref p ∧ Sq K H p us ∧ qs.length = 4 ∧ Each (AtJ K pss H) us (qs.map some) ∧ ∀ H' b ws, Same H H' → SqT K H' b ws → Each (NumV K H') ws qs → Q (.ref b) H') ∨
   (BadFour K pss H v ∧ RaiseP H C (.str "four") E))
theorem ok_four_in (T : Txt K mg A) : FnOk PG w K mg base (L2.CX PG w) 5 A.f_four_in A.d_four_in ["lot", "four"] (spFourIn K A.C_Fence A.C_Lot A.c_BadSides) := by
  refine T.four_in.F.okX sc_four_in (fun vs H Q E h => ?_) (fun cdv A' outer s H vs Q E hr h => ?_)
  · obtain ⟨_, _, _, rfl, _⟩ := h; rfl
  · obtain ⟨l, v, pss, rfl, hl, h⟩ := h
    refine ⟨_, (pss_cons (ps_if (PW.pt (pw_or (pt_not (pt_val (pe_call (ok_is_row T) (hr.mono (by decide)) (by rfl) T.is_row.g T.is_row.F.kp T.is_row.b .nil pass0 (pa_cons (pv 1) pa_nil)))) (pw_or1 (pt_cmpR op_ne (pe_callB call_len_seq (by rfl) T.n_len bt_len (pa_cons (pv 1) pa_nil)) pe_int (nomark _))))) (pss_one (ps_raiseLow rfl T.low_BadSides hr (takes_of rfl rfl rfl rfl) (by exact (pa_cons pe_str pa_nil)))) pss_nil)
      (pss_cons (ps_if (pt_not (pt_val (pe_callB (cr_all rfl) (by rfl) T.n_all bt_all (pa_cons (pe_lc (own := [("at", 2)]) (g := gName 2) (tt := tYes) rfl sc_four_in.nd (pi_any (pv 1)) (blkOk_by (N := ["lot", "four", "at"]) (sc := defScope s_four_in) (by decide +kernel)) (fun _ _ _ _ _ => pg_name (i := 2) sc_four_in.nd rfl (Or.inl rfl)) (fun _ _ _ _ _ => pts_nil) (fun _ _ _ _ _ => (pe_call (ok_is_side T) (hr.mono (by decide)) (by rfl) T.is_side.g T.is_side.F.kp T.is_side.b .nil pass0 (pa_cons (pv 0) (pa_cons (pv 2) pa_nil))))) pa_nil)))) (pss_one (ps_raiseLow rfl T.low_BadSides hr (takes_of rfl rfl rfl rfl) (by exact (pa_cons pe_str pa_nil)))) pss_nil)
      (pss_one (ps_ret (pe_callTy call_tuple_of (by rfl) T.n_tuple bt_tuple (pa_cons (pe_lc (own := [("at", 2)]) (g := gName 2) (tt := tYes) rfl sc_four_in.nd (pi_any (pv 1)) (blkOk_by (N := ["lot", "four", "at"]) (sc := defScope s_four_in) (by decide +kernel)) (fun _ _ _ _ _ => pg_name (i := 2) sc_four_in.nd rfl (Or.inl rfl)) (fun _ _ _ _ _ => pts_nil) (fun _ _ _ _ _ => (pe_callTy (call_tuple_ofK (K := K) rfl) (by rfl) T.n_tuple bt_tuple (pa_cons (pv 2) pa_nil)))) pa_nil)))))), ?_⟩
    refine seq_by fun N hN => ?_
    walk_at "vc"
    -- the second check, for a row of four
    have row : ∀ (p : Addr) (us : List V) (qs : List (Option (Nat × Nat))) (H1 : Hp), v = .ref p → Same H H1 → Sq K H p us → us.length = 4 → Each (AtJ K pss H) us qs →
        ((none ∈ qs ∧ RaiseP H A.c_BadSides (.str "four") E) ∨ (∃ rs : List (Nat × Nat), qs = rs.map some ∧ ∀ H' b ws, Same H H' → SqT K H' b ws → Each (NumV K H') ws rs → Q (.ref b) H')) → N [some (.ref l), some (.ref p), none] H1 := by
      intro p us qs H1 ev s1 hu lu he hfin
      subst hN
      refine seq_by fun N hN => ?_
      walk_at "vc"
      have lq : qs.length = 4 := by rw [← he.1, lu]
      have key : ∀ D : Addr, H1 D = none → ∀ i x H3, us[i]? = some x → (Same H1 H3 ∧ H3 D = some (.lst (((qs.take i).map Option.isSome).map V.bl))) →
          gName 2 x (wipe [some (.ref l), some (.ref p), none] [2]) H3 fun σ2 H4 => wipe σ2 [2] = wipe [some (.ref l), some (.ref p), none] [2] ∧ tYes σ2 H4 fun b H5 =>
            if b = true then tCall (spIsSide K A.C_Fence A.C_Lot) [] E0 (tCons (tVar 0) (tCons (tVar 2) tNil)) σ2 H5 fun y H6 => ∃ acc, H6 D = some (.lst acc) ∧ acc.length < sizeLine ∧ (fun i H => Same H1 H ∧ H D = some (.lst (((qs.take i).map Option.isSome).map V.bl))) (i + 1) (upd H6 D (.lst (acc ++ [y]))) else (fun i H => Same H1 H ∧ H D = some (.lst (((qs.take i).map Option.isSome).map V.bl))) (i + 1) H5 := by
        rintro D hD i x H3 hx ⟨s3, e3⟩
        obtain ⟨qi, hq, hJ⟩ := he.of hx
        have S3 := s1.trans s3
        refine ⟨rfl, ?_⟩
        simp only [tYes, if_true]
        have fin : ∀ H6, Same H3 H6 → ∃ acc, H6 D = some (.lst acc) ∧ acc.length < sizeLine ∧ Same H1 (upd H6 D (.lst (acc ++ [.bl qi.isSome]))) ∧ upd H6 D (.lst (acc ++ [.bl qi.isSome])) D = some (.lst (((qs.take (i + 1)).map Option.isSome).map V.bl)) := by
          intro H6 s6
          refine ⟨_, s6 _ _ e3, ?_, fun c o ec => ?_, ?_⟩
          · rw [List.length_map, List.length_map, List.length_take]
            exact small1000 (by omega)
          · rw [upd_ne (ne_of_none ec hD)]
            exact s6 _ _ (s3 _ _ ec)
          · rw [upd_same, List.take_add_one, hq]
            simp
        refine ⟨_, rfl, x, rfl, l, x, pss, rfl, hl.same S3, ?_⟩
        cases qi with
        | none => exact .inr ⟨BadAt.same S3 hJ, fun H6 s6 => fin H6 s6⟩
        | some q =>
          obtain ⟨hA, ps, h1, h2⟩ := hJ
          exact .inl ⟨q.1, q.2, ps, AtV.same S3 hA, h1, h2, fun H6 s6 => fin H6 s6⟩
      have last : ∀ D H', H1 D = none → (Same H1 H' ∧ H' D = some (.lst (((qs.take us.length).map Option.isSome).map V.bl))) → rAll K [.ref D] H' (fun x H1 => ∃ c, x = V.bl c ∧ if c = false then ∀ (d : Addr), H1 d = none → E (Value.ref A.c_BadSides) (some d) (upd H1 d (HO.xd [("part", V.str "four")])) else N [some (V.ref l), some (V.ref p), none] H1) := by
        rintro D H' hD ⟨s3, e3⟩
        rw [lu, ← lq, List.take_length] at e3
        refine ⟨D, _, rfl, sl_of e3, _, rfl, ?_⟩
        rcases hfin with ⟨hn, ra⟩ | ⟨rs, rfl, q⟩
        · have ef : (qs.map Option.isSome).all id = false := by
            rw [Bool.eq_false_iff]
            intro z
            rw [List.all_eq_true] at z
            have := z _ (List.mem_map.mpr ⟨none, hn, rfl⟩)
            simp at this
          rw [if_pos ef]
          exact fun d hd => ra _ d ((s1.trans s3).trans (same_upd hd)) upd_same
        · have et : ((rs.map some).map Option.isSome).all id = true := by simp
          rw [if_neg (by rw [et]; decide)]
          subst hN
          walk_at "vc"
          have S13 := s1.trans s3
          have key2 : ∀ D : Addr, H' D = none → ∀ i x H3, us[i]? = some x → (Same H' H3 ∧ ∃ acc, H3 D = some (.lst acc) ∧ Each (NumV K H3) acc (rs.take i)) →
              gName 2 x (wipe [some (.ref l), some (.ref p), none] [2]) H3 fun σ2 H4 => wipe σ2 [2] = wipe [some (.ref l), some (.ref p), none] [2] ∧ tYes σ2 H4 fun b H5 =>
                if b = true then tCB (fun xs H Q => ∃ p, xs = [V.ref p] ∧ ∃ x, (SqL K H p x ∧ ∀ (l : Addr), H l = none → Q (V.ref l) (upd H l (HO.tup x))) ∨ SqT K H p x ∧ Q (V.ref p) H) (tCons (tVar 2) tNil) σ2 H5 fun y H6 => ∃ acc, H6 D = some (.lst acc) ∧ acc.length < sizeLine ∧ (fun i H => Same H' H ∧ ∃ acc, H D = some (.lst acc) ∧ Each (NumV K H) acc (rs.take i)) (i + 1) (upd H6 D (.lst (acc ++ [y]))) else (fun i H => Same H' H ∧ ∃ acc, H D = some (.lst acc) ∧ Each (NumV K H) acc (rs.take i)) (i + 1) H5 := by
            rintro D hD i x H3 hx ⟨s3', acc, e3, ea⟩
            obtain ⟨qi, hq, hJ⟩ := he.of hx
            rw [List.getElem?_map] at hq
            obtain ⟨r, hr, rfl⟩ := Option.map_eq_some_iff.mp hq
            obtain ⟨⟨a, rfl, hA⟩, _⟩ := hJ
            have hA := hA.same (S13.trans s3')
            refine ⟨rfl, ?_⟩
            simp only [tYes, if_true]
            have fin : ∀ H6 y, Same H3 H6 → NumV K H6 y r → ∃ acc, H6 D = some (.lst acc) ∧ acc.length < sizeLine ∧ Same H' (upd H6 D (.lst (acc ++ [y]))) ∧ ∃ acc', upd H6 D (.lst (acc ++ [y])) D = some (.lst acc') ∧ Each (NumV K (upd H6 D (.lst (acc ++ [y])))) acc' (rs.take (i + 1)) := by
              intro H6 y s6 hy
              refine ⟨acc, s6 _ _ e3, ?_, fun c o ec => ?_, _, upd_same, ?_⟩
              · rw [ea.1, List.length_take]
                rw [List.length_map] at lq
                exact small1000 (by omega)
              · rw [upd_ne (ne_of_none ec hD)]
                exact s6 _ _ (s3' _ _ ec)
              · rw [List.take_add_one, hr]
                exact each_snoc (ea.imp fun v x z => (z.same s6).keep (s6 _ _ e3)) (hy.keep (s6 _ _ e3))
            rcases hA with hA | hA
            · exact ⟨_, rfl, a, rfl, _, .inl ⟨hA, fun t ht => fin _ _ (same_upd ht) ⟨t, rfl, st_of upd_same⟩⟩⟩
            · exact ⟨_, rfl, a, rfl, _, .inr ⟨hA, fin _ _ (Same.refl _) ⟨a, rfl, hA⟩⟩⟩
          have last2 : ∀ D H3, H' D = none → (Same H' H3 ∧ ∃ acc, H3 D = some (.lst acc) ∧ Each (NumV K H3) acc (rs.take us.length)) → ∃ p, V.ref D = V.ref p ∧ ∃ x, (SqL K H3 p x ∧ ∀ (l : Addr), H3 l = none → Q (V.ref l) (upd H3 l (HO.tup x))) ∨ SqT K H3 p x ∧ Q (V.ref p) H3 := by
            rintro D H3 hD ⟨s4, acc, e4, ea⟩
            rw [List.length_map] at lq
            rw [lu, ← lq, List.take_length] at ea
            refine ⟨D, rfl, acc, .inl ⟨sl_of e4, fun t ht => ?_⟩⟩
            have s5 := same_upd (o := .tup acc) ht
            exact q _ _ _ ((S13.trans s4).trans s5) (st_of upd_same) (ea.imp fun v x z => z.same s5)
          refine ⟨_, rfl, p, rfl, ?_⟩
          rcases hu.same S13 with hs | hs
          · refine .inl ⟨⟨_, hs⟩, fun D hD => ?_⟩
            exact lc_list (xs := us) (fun i H3 => Same H' H3 ∧ ∃ acc, H3 D = some (.lst acc) ∧ Each (NumV K H3) acc (rs.take i)) ⟨same_upd hD, _, upd_same, rfl, fun i v x e => by simp at e⟩ (fun i H3 _ h => h.1.seq hs) (key2 D hD) (fun H3 h => last2 D H3 hD h)
          · refine .inr ⟨⟨_, hs⟩, fun D hD => ?_⟩
            exact lc_tup (xs := us) (fun i H3 => Same H' H3 ∧ ∃ acc, H3 D = some (.lst acc) ∧ Each (NumV K H3) acc (rs.take i)) ⟨same_upd hD, _, upd_same, rfl, fun i v x e => by simp at e⟩ (fun i H3 _ h => same_tup h.1 hs) (key2 D hD) (fun H3 h => last2 D H3 hD h)
      refine ⟨_, rfl, p, rfl, ?_⟩
      rcases hu.same s1 with hs | hs
      · refine .inl ⟨⟨_, hs⟩, fun D hD => ?_⟩
        exact lc_list (xs := us) (fun i H3 => Same H1 H3 ∧ H3 D = some (.lst (((qs.take i).map Option.isSome).map V.bl))) ⟨same_upd hD, upd_same⟩ (fun i H3 _ h => h.1.seq hs) (key D hD) (fun H' h => last D H' hD h)
      · refine .inr ⟨⟨_, hs⟩, fun D hD => ?_⟩
        exact lc_tup (xs := us) (fun i H3 => Same H1 H3 ∧ H3 D = some (.lst (((qs.take i).map Option.isSome).map V.bl))) ⟨same_upd hD, upd_same⟩ (fun i H3 _ h => same_tup h.1 hs) (key D hD) (fun H' h => last D H' hD h)
    rcases h with ⟨p, us, qs, rfl, hu, h4, he, q⟩ | ⟨hb, ra⟩
    · obtain ⟨U, hU, eU⟩ := hu.ty
      refine ⟨_, U, rfl, hU, fun H1 s1 => ⟨_, rfl, ?_⟩⟩
      rw [eU]
      have lu : us.length = 4 := by rw [he.1, List.length_map, h4]
      refine iteF' rfl ⟨p, rfl, us, hu.same s1, rfl, ?_⟩
      rw [if_neg (by rw [lu]; decide)]
      exact row p us _ H1 rfl s1 hu lu he (.inr ⟨qs, rfl, q⟩)
    · cases hb with
      | kind h h1 h2 =>
        refine ⟨_, _, rfl, h, fun H1 s1 => ⟨_, rfl, ?_⟩⟩
        rw [beq_false_of_ne h1, beq_false_of_ne h2]
        exact iteN (fun d hd => ra _ d (s1.trans (same_upd hd)) upd_same)
      | @len p us h h1 =>
        obtain ⟨U, hU, eU⟩ := h.ty
        refine ⟨_, U, rfl, hU, fun H1 s1 => ⟨_, rfl, ?_⟩⟩
        rw [eU]
        refine iteF' rfl ⟨p, rfl, us, h.same s1, rfl, ?_⟩
        rw [if_pos (by omega)]
        exact fun d hd => ra _ d (s1.trans (same_upd hd)) upd_same
      | @side p us qs h h1 h2 h3 =>
        obtain ⟨U, hU, eU⟩ := h.ty
        refine ⟨_, U, rfl, hU, fun H1 s1 => ⟨_, rfl, ?_⟩⟩
        rw [eU]
        refine iteF' rfl ⟨p, rfl, us, h.same s1, rfl, ?_⟩
        rw [if_neg (by rw [h1]; decide)]
        exact row p us _ H1 rfl s1 h h1 h2 (.inl ⟨h3, ra⟩)
end
end Odd
namespace Odd
open PySem PySem.Spec PyProof.Rows L2
local macro_rules | `(tactic| walk_at "vc") => `(tactic| simp only [tSeq, tAsg, gName, tCB, tCons, tNil, tVar, tC, tOp, tUn, rI0, rI, rU, tTup, tLst, tIfS, tTest, tB, tRet, tNext, rGcd, L2.start, List.map, List.set, List.replicate, List.cons_append, List.nil_append, List.length_cons, List.length_nil, List.getElem?_cons_succ, List.getElem?_cons_zero, Option.some.injEq, exists_eq_left', exists_eq_left, List.append_nil, List.cons.injEq, V.int.injEq, exists_and_left, and_true, true_and, and_assoc, exists_const, V.bl.injEq, V.ref.injEq, Nat.sub_self, Nat.reduceAdd, Nat.reduceSub, List.replicate_succ, List.replicate_zero, tAnd, tOr, tNot, tAndV, tOrV, tNotV, tIf, tCall, tCallK, tDrop, rEq, rNe, decide_eq_true_eq, Bool.not_eq_true', decide_eq_false_iff_not, Bool.false_eq_true, if_true, if_false, reduceIte, reduceCtorEq, tMkLow, tRaiseLow, rIsB, rNotB, tBreak, tPar, gSub, rSetL, tChain, gTup, gCons, gNil, gSeq, cx_K, cx_Kn, optV, V.str.injEq, Bool.not_true, Bool.not_false, false_and, and_false, or_false, false_or, exists_false, tCallN, tCallS, tPairs])
section
variable {w : World} {K : PySem.W.Frag} {mg : Str → Option Value} {base : Heap} {A : Ads}
theorem sd_keep {H : Hp} {D : Addr} {acc acc' : List V} {v : V} {s : P2 × P2} (hD : H D = some (.lst acc)) (h : Sd K H v s) : Sd K (upd H D (.lst acc')) v s := by
  obtain ⟨a, x, y, rfl, ha, hx, hy⟩ := h
  exact ⟨a, x, y, rfl, keep_tup hD ha, pp_keep hD hx, pp_keep hD hy⟩
/-- the told sides of a lot -/
def Told4 (pss : List (List P2)) (rs : List (Nat × Nat)) (sds : List (P2 × P2)) : Prop := rs.length = 4 ∧ sds.length = 4 ∧ ∀ (i : Nat) (r : Nat × Nat), rs[i]? = some r → ∃ ps sd, pss[r.1]? = some ps ∧ (sideL ps)[r.2]? = some sd ∧ sds[i]? = some sd ∧ CanS sd ∧ SmS 49 sd
def det4 : List (P2 × P2) → Int × Int → Int × Int
  | [a, b, c, d], q => detF (wayS a) (wayS b) (wayS c) (wayS d) q
  | _, q => q
theorem len4 {α : Type} : ∀ {xs : List α}, xs.length = 4 → ∃ a b c d, xs = [a, b, c, d]
  | [a, b, c, d], _ => ⟨a, b, c, d, rfl⟩
def spDet (K : PySem.W.Frag) (CF CL C1 C2 C3 : Addr) : Sp := fun vs H Q E => ∃ v f r, vs = [v, f, r] ∧
  ((∃ U, TyN K H v U ∧ (U = "NoneType" ∨ U = "list" ∨ U = "int") ∧ RaiseP H C1 (.str "lot") E) ∨
   (∃ l pss, v = .ref l ∧ LotAt K CF CL H l pss ∧
     ((BadFour K pss H f ∧ RaiseP H C2 (.str "four") E) ∨
      (∃ p us rs sds, f = .ref p ∧ Sq K H p us ∧ Each (AtJ K pss H) us (rs.map some) ∧ Told4 pss rs sds ∧
        (((Bad K H r ∨ ∃ q, Num K H r q ∧ q.1 ≤ 0) ∧ RaiseP H C3 (.str "ratio") E) ∨
         (∃ q, Num K H r q ∧ Canon q ∧ 0 < q.1 ∧ Sm 100 q ∧ RetP K H (det4 sds q) Q))))))
theorem ok_determinant (T : Txt K mg A) : FnOk PG w K mg base (L2.CX PG w) 7 A.f_determinant A.d_determinant ["lot", "four", "ratio"] (spDet K A.C_Fence A.C_Lot A.c_BadLot A.c_BadSides A.c_BadRatio) := by
  refine T.determinant.F.okX sc_determinant (fun vs H Q E h => ?_) (fun cdv A' outer s H vs Q E hr h => ?_)
  · obtain ⟨_, _, _, rfl, _⟩ := h; rfl
  · obtain ⟨v, f, r, rfl, h⟩ := h
    refine ⟨_, (pss_cons (ps_expr (pe_call (ok_check_lot T) (hr.mono (by decide)) (by rfl) T.check_lot.g T.check_lot.F.kp T.check_lot.b .nil (passes_call (takes_of rfl rfl rfl rfl) (fun _ _ _ _ h => h)) (pa_cons (pv 0) pa_nil)))
      (pss_cons (ps_setLc (i := 6) (own := [("at", 3)]) (g := gName 3) (tt := tYes) rfl sc_determinant.nd rfl rfl (sw_true rfl rfl rfl (by decide +kernel)) (pi_tup (pe_call (ok_four_in T) (hr.mono (by decide)) (by rfl) T.four_in.g T.four_in.F.kp T.four_in.b .nil (passes_call (takes_of rfl rfl rfl rfl) (fun _ _ _ _ h => h)) (pa_cons (pv 0) (pa_cons (pv 1) pa_nil)))) (blkOk_by (N := ["lot", "four", "ratio", "at", "start", "end", "sides"]) (sc := defScope s_determinant) (by decide +kernel)) (fun _ _ _ _ _ => pg_name (i := 3) sc_determinant.nd rfl (Or.inl rfl)) (fun _ _ _ _ _ => pts_nil) (fun _ _ _ _ _ => (pe_meth (pv 0) T.cl_Lot T.me_side (ok_Lot_side T) (hr.mono (by decide)) T.Lot_side.b .nil pass0 (pa_cons (pv 3) pa_nil))))
      (pss_one (ps_ret (pe_call (ok_determinant_of T) (hr.mono (by decide)) (by rfl) T.determinant_of.g T.determinant_of.F.kp T.determinant_of.b .nil pass0 (pa_cons (pe_lc (own := [("start", 4), ("end", 5)]) (g := gTup K 2 (gCons (gName 4) (gCons (gName 5) gNil))) (tt := tYes) rfl sc_determinant.nd (pi_list (pv 6)) (blkOk_by (N := ["lot", "four", "ratio", "at", "start", "end", "sides"]) (sc := defScope s_determinant) (by decide +kernel)) (fun _ _ _ _ _ => OZ.pg_tupK (K := K) (n := 2) rfl rfl (pgs_cons (pg_name (i := 4) sc_determinant.nd rfl (Or.inl rfl)) (pgs_cons (pg_name (i := 5) sc_determinant.nd rfl (Or.inl rfl)) pgs_nil))) (fun _ _ _ _ _ => pts_nil) (fun _ _ _ _ _ => (pe_call (ok_way_between T) (hr.mono (by decide)) (by rfl) T.way_between.g T.way_between.F.kp T.way_between.b .nil pass0 (pa_cons (pv 4) (pa_cons (pv 5) pa_nil))))) (pa_cons (pe_call (ok_ratio_in T) (hr.mono (by decide)) (by rfl) T.ratio_in.g T.ratio_in.F.kp T.ratio_in.b .nil (passes_call (takes_of rfl rfl rfl rfl) (fun _ _ _ _ h => h)) (pa_cons (pv 2) pa_nil)) pa_nil))))))), ?_⟩
    refine seq_by fun N hN => ?_
    walk_at "vc"
    rcases h with ⟨U, hU, hT, ra⟩ | ⟨l, pss, rfl, hl, h⟩
    · exact ⟨v, rfl, .inr ⟨U, hU, hT, ra⟩⟩
    refine ⟨_, rfl, .inl ⟨l, pss, rfl, hl, ?_⟩⟩
    subst hN
    refine seq_by fun N hN => ?_
    walk_at "vc"
    rcases h with ⟨hb, ra⟩ | ⟨p, us, rs, sds, rfl, hu, he, hs4, h⟩
    · exact ⟨_, rfl, _, rfl, l, f, pss, rfl, hl, .inr ⟨hb, ra⟩⟩
    obtain ⟨l4, d4, htold⟩ := id hs4
    refine ⟨_, rfl, _, rfl, l, _, pss, rfl, hl, .inl ⟨p, us, rs, rfl, hu, l4, he, fun H1 b ws s1 hb hw => ?_⟩⟩
    have lw : ws.length = 4 := by rw [hw.1, l4]
    refine ⟨b, rfl, ⟨ws, hb⟩, fun D hD => lc_tup (xs := ws) (fun i H3 => Same H1 H3 ∧ ∃ acc, H3 D = some (.lst acc) ∧ Each (Sd K H3) acc (sds.take i)) ⟨same_upd hD, _, upd_same, rfl, fun i v x e => by simp at e⟩ (fun i H3 _ h => same_tup h.1 hb) ?_ ?_⟩
    · rintro i x H3 hx ⟨s3, acc, e3, ea⟩
      obtain ⟨⟨m, n⟩, hr, a, rfl, ha⟩ := hw.of hx
      obtain ⟨ps, sd, hps, hsd, hsds, _, _⟩ := htold i _ hr
      refine ⟨rfl, ?_⟩
      simp only [tYes, if_true]
      have S3 := s1.trans s3
      have hl3 := hl.same S3
      obtain ⟨dx, fs, b0, us0, g1, g2, g3, g4, g5, g6⟩ := id hl3
      refine ⟨_, rfl, l, dx, fs, rfl, g1, g6, _, rfl, ?_⟩
      refine ⟨l, .ref a, m, n, pss, ps, sd, rfl, hl3, ⟨a, rfl, .inr (same_tup s3 ha)⟩, hps, hsd, fun H6 y s6 hy => ⟨acc, s6 _ _ e3, ?_, fun c o ec => ?_, _, upd_same, ?_⟩⟩
      · rw [ea.1, List.length_take]
        exact small1000 (by omega)
      · rw [upd_ne (ne_of_none ec hD)]
        exact s6 _ _ (s3 _ _ ec)
      · rw [List.take_add_one, hsds]
        exact each_snoc (ea.imp fun v x z => sd_keep (s6 _ _ e3) (z.same s6)) (sd_keep (s6 _ _ e3) hy)
    · rintro H3 ⟨s3, acc, e3, ea⟩
      rw [lw, ← d4, List.take_length] at ea
      subst hN
      walk_at "vc"
      have S3 := s1.trans s3
      refine ⟨_, rfl, D, rfl, ⟨_, sl_of e3⟩, fun D2 hD2 => lc_list (xs := acc) (fun i H4 => Same H3 H4 ∧ ∃ acc2, H4 D2 = some (.lst acc2) ∧ Each (fun v s => Vec K 100 H4 v (wayS s)) acc2 (sds.take i)) ⟨same_upd hD2, _, upd_same, rfl, fun i v x e => by simp at e⟩ (fun i H4 _ h => sl_of (h.1 _ _ e3)) ?_ ?_⟩
      · rintro i x H4 hx ⟨s4, acc2, e4, ea2⟩
        obtain ⟨sd, hsd, hS⟩ := ea.of hx
        obtain ⟨d, y, z, rfl, hd, hy, hz⟩ := hS.same s4
        have hi : i < rs.length := by
          have := (List.getElem?_eq_some_iff.mp hsd).1
          omega
        obtain ⟨ps, sd', _, _, hsd', cS, mS⟩ := htold i _ (List.getElem?_eq_getElem hi)
        rw [hsd] at hsd'
        obtain rfl := Option.some.inj hsd'
        refine ⟨d, _, rfl, hd, rfl, _, _, rfl, _, _, rfl, rfl, rfl, ?_⟩
        simp only [tYes, if_true]
        refine ⟨_, rfl, _, rfl, y, z, sd.1, sd.2, rfl, hy, hz, cS.1, cS.2, mS.1.up (by decide), mS.2.up (by decide), fun H6 v s6 hv => ⟨acc2, s6 _ _ e4, ?_, fun c o ec => ?_, _, upd_same, ?_⟩⟩
        · rw [ea2.1, List.length_take]
          exact small1000 (by omega)
        · rw [upd_ne (ne_of_none ec hD2)]
          exact s6 _ _ (s4 _ _ ec)
        · rw [List.take_add_one, hsd]
          have hV : Vec K 100 H6 v (wayS sd) := ⟨hv, vSub_canon cS.2 cS.1, (vSub_sm cS.2 cS.1 mS.2 mS.1).up (by decide)⟩
          exact each_snoc (ea2.imp fun v x z => ⟨pp_keep (s6 _ _ e4) (z.same s6).1, z.2⟩) ⟨pp_keep (s6 _ _ e4) hV.1, hV.2⟩
      · rintro H4 ⟨s4, acc2, e4, ea2⟩
        have la : acc.length = 4 := by rw [ea.1, d4]
        rw [la, ← d4, List.take_length] at ea2
        have S4 := S3.trans s4
        rcases h with ⟨hbad, ra⟩ | ⟨q, hn, hc, hq, hm, ret⟩
        · refine ⟨r, rfl, .inr ⟨?_, fun H' d s' hd => ra H' d (S4.trans s') hd⟩⟩
          rcases hbad with hb | ⟨q, hn, hq⟩
          · exact .inl (hb.same S4)
          · exact .inr ⟨q, hn.same S4, hq⟩
        · obtain ⟨a0, a1, a2, a3, rfl⟩ := len4 d4
          obtain ⟨x0, x1, x2, x3, rfl⟩ := len4 (ea2.1.trans d4)
          refine ⟨r, rfl, .inl ⟨q, hn.same S4, hq, fun H5 p5 s5 hp5 => ?_⟩⟩
          refine ⟨D2, .ref p5, x0, x1, x2, x3, wayS a0, wayS a1, wayS a2, wayS a3, q, rfl, .inl (sl_of (s5 _ _ e4)), ?_, ?_, ?_, ?_, ⟨⟨p5, rfl, hp5⟩, hc, hm⟩, fun H6 p6 s6 hp6 => ret _ _ ((S4.trans s5).trans s6) hp6⟩
          · exact (ea2.2 0 _ _ rfl rfl).same s5
          · exact (ea2.2 1 _ _ rfl rfl).same s5
          · exact (ea2.2 2 _ _ rfl rfl).same s5
          · exact (ea2.2 3 _ _ rfl rfl).same s5
end
end Odd
namespace Odd
open PySem PySem.Spec PyProof.Rows L2
local macro_rules | `(tactic| walk_at "vc") => `(tactic| simp only [tSeq, tAsg, gName, tCB, tCons, tNil, tVar, tC, tOp, tUn, rI0, rI, rU, tTup, tLst, tIfS, tTest, tB, tRet, tNext, rGcd, L2.start, List.map, List.set, List.replicate, List.cons_append, List.nil_append, List.length_cons, List.length_nil, List.getElem?_cons_succ, List.getElem?_cons_zero, Option.some.injEq, exists_eq_left', exists_eq_left, List.append_nil, List.cons.injEq, V.int.injEq, exists_and_left, and_true, true_and, and_assoc, exists_const, V.bl.injEq, V.ref.injEq, Nat.sub_self, Nat.reduceAdd, Nat.reduceSub, List.replicate_succ, List.replicate_zero, tAnd, tOr, tNot, tAndV, tOrV, tNotV, tIf, tCall, tCallK, tDrop, rEq, rNe, decide_eq_true_eq, Bool.not_eq_true', decide_eq_false_iff_not, Bool.false_eq_true, if_true, if_false, reduceIte, reduceCtorEq, tMkLow, tRaiseLow, rIsB, rNotB, tBreak, tPar, gSub, rSetL, tChain, gTup, gCons, gNil, gSeq, cx_K, cx_Kn, optV, V.str.injEq, Bool.not_true, Bool.not_false, false_and, and_false, or_false, false_or, exists_false, tCallN, tCallS, tPairs])
section
variable {P : Program} {w : World} {K : PySem.W.Frag} {mg : Str → Option Value} {base : Heap} {A : Ads}


/-- the urn: its cells, how many were begun, what is left of a great one; so many draws are left -/
def Urn (H : Hp) (u : Addr) (k : Nat) : Prop := ∃ (c : Addr) (n r : Int) (cells : List Int), H u = some (.lst [.ref c, .int n, .int r]) ∧ H c = some (.lst (cells.map V.int)) ∧ 0 ≤ n ∧ n + k ≤ 1000000 ∧ 0 ≤ r
theorem Urn.mono {H : Hp} {u : Addr} {j k : Nat} (h : Urn H u k) (l : j ≤ k) : Urn H u j := by
  obtain ⟨c, n, r, cells, h1, h2, h3, h4, h5⟩ := h
  exact ⟨c, n, r, cells, h1, h2, h3, by omega, h5⟩
theorem Urn.same {H H' : Hp} {u : Addr} {k : Nat} (h : Urn H u k) (s : Same H H') : Urn H' u k := by
  obtain ⟨c, n, r, cells, h1, h2, h3⟩ := h
  exact ⟨c, n, r, cells, s _ _ h1, s _ _ h2, h3⟩
theorem Urn.at {H : Hp} {u : Addr} {k : Nat} (h : Urn H u k) : ∃ c ys, H u = some (.lst (.ref c :: ys)) := by
  obtain ⟨c, n, r, cells, h1, _⟩ := h
  exact ⟨c, _, h1⟩
def spSpill : Sp := fun vs H Q _ => ∃ (u : Addr) (many : Int) (k : Nat), vs = [.ref u, .int many] ∧ 0 < many ∧ many < 1073741824 ∧ Urn H u (k + 1) ∧ ∀ H' (m : Int), But u H H' → Urn H' u k → 0 ≤ m → m < many → Q (.int m) H'
theorem ok__law_draw (T : Txt K mg A) : FnOk P w K mg base CX0 1 A.f__law_draw A.d__law_draw ["store", "many"] spSpill := by
  refine T._law_draw.F.ok sc__law_draw (fun vs H Q E h => ?_) (fun cdv A' outer s H vs Q E hr h => ?_)
  · obtain ⟨_, _, _, rfl, _⟩ := h; rfl
  · obtain ⟨u, many, k, rfl, hm, hm2, ⟨c, n, r, cells, h1, h2, h3, h4, h5⟩, q⟩ := h
    refine ⟨_, (pss_cons (ps_if (pt_cmpR op_gt (pe_ix ix_list (pv 0) pe_int (fun _ _ => rfl)) pe_int (nomark _)) (pss_cons (ps_set (i := 2) sc__law_draw.nd rfl (.inl rfl) (pe_callTy call_int1 (by rfl) T.n_int bt_int (pa_cons (pe_ix ix_list (pv 0) pe_int (fun _ _ => rfl)) pa_nil)))
      (pss_cons (ps_asg (pe_op op_fdiv (pv 2) (pv 1)) (pg_sub (pv 0) pe_int set_list))
      (pss_one (ps_ret (pe_op op_mod (pe_callTy call_int1 (by rfl) T.n_int bt_int (pa_cons (pv 2) pa_nil)) (pv 1)))))) pss_nil)
      (pss_cons (ps_set (i := 3) sc__law_draw.nd rfl (.inl rfl) (pe_ix ix_list (pv 0) pe_int (fun _ _ => rfl)))
      (pss_cons (ps_asg (pe_op op_add (pv 3) pe_int) (pg_sub (pv 0) pe_int set_list))
      (pss_cons (ps_set (i := 4) sc__law_draw.nd rfl (.inl rfl) (pe_op op_add (pe_op op_mul pe_int (pv 3)) pe_int))
      (pss_cons (ps_if (pt_cmpR (op_neD hr.units) (pe_ix ix_list (pv 0) pe_int (fun _ _ => rfl)) (pe_lst pa_nil) (nomark _)) (pss_one (ps_set (i := 4) sc__law_draw.nd rfl (.inl rfl) (pe_ix ix_list (pe_ix ix_list (pv 0) pe_int (fun _ _ => rfl)) (pe_op op_mod (pe_callTy call_int1 (by rfl) T.n_int bt_int (pa_cons (pv 3) pa_nil)) (pe_callB call_len_seq (by rfl) T.n_len bt_len (pa_cons (pe_ix ix_list (pv 0) pe_int (fun _ _ => rfl)) pa_nil))) (fun _ _ => rfl)))) pss_nil)
      (pss_cons (ps_if (PW.pt (pw_and (pt_cmpR op_lt (pv 3) (pe_callB call_len_seq (by rfl) T.n_len bt_len (pa_cons (pe_ix ix_list (pv 0) pe_int (fun _ _ => rfl)) pa_nil)) (nomark _)) (pw_and1 (pt_cmpR op_ge (pe_callB call_abs (by rfl) T.n_abs bt_abs (pa_cons (pv 4) pa_nil)) (pe_op op_pow pe_int pe_int) (nomark _))))) (pss_cons (ps_set (i := 2) sc__law_draw.nd rfl (.inl rfl) (pe_op op_add (pe_op op_mul pe_int (pe_op op_sub (pe_callB call_abs (by rfl) T.n_abs bt_abs (pa_cons (pe_callTy call_int1 (by rfl) T.n_int bt_int (pa_cons (pv 4) pa_nil)) pa_nil)) (pe_op op_pow pe_int pe_int))) (pe_callTy call_int1 (by rfl) T.n_int bt_int (pa_cons (pe_cmpR op_lt (pv 4) pe_int (nomark _)) pa_nil))))
      (pss_cons (ps_asg (pe_op op_fdiv (pv 2) (pv 1)) (pg_sub (pv 0) pe_int set_list))
      (pss_one (ps_ret (pe_op op_mod (pe_callTy call_int1 (by rfl) T.n_int bt_int (pa_cons (pv 2) pa_nil)) (pv 1)))))) pss_nil)
      (pss_cons (ps_set (i := 5) sc__law_draw.nd rfl (.inl rfl) (pe_op op_mod (pe_callTy call_int1 (by rfl) T.n_int bt_int (pa_cons (pe_op op_pow (pe_op op_add (pe_op op_add (pe_op op_mod (pe_callTy call_int1 (by rfl) T.n_int bt_int (pa_cons (pv 4) pa_nil)) pe_int) (pe_op op_mul pe_int (pv 3))) pe_int) pe_int) pa_nil)) pe_int))
      (pss_cons (ps_set (i := 5) sc__law_draw.nd rfl (.inl rfl) (pe_op op_mod (pe_callTy call_int1 (by rfl) T.n_int bt_int (pa_cons (pe_op op_pow (pe_op op_add (pe_op op_add (pe_op op_mul (pv 5) (pe_op op_add (pe_op op_mul pe_int (pv 3)) pe_int)) (pe_op op_mul (pe_op op_mul pe_int (pv 3)) (pv 3))) pe_int) pe_int) pa_nil)) pe_int))
      (pss_one (ps_ret (pe_op op_mod (pe_callTy call_int1 (by rfl) T.n_int bt_int (pa_cons (pe_op op_fdiv (pv 5) pe_int) pa_nil)) (pv 1)))))))))))), ?_⟩
    have huc : u ≠ c := ne_of h1 h2 (by cases cells <;> (intro z; cases z))
    refine seq_by fun N hN => ?_
    walk_at "vc"
    refine ixL (sl_of h1) rfl ⟨_, rfl, ?_⟩
    split
    · -- a digit of what is left
      rename_i hr0
      refine ixL (sl_of h1) rfl ?_
      refine .inl ⟨r, rfl, ⟨hm, hm2⟩, ?_⟩
      refine ⟨_, h1, _, rfl, hm, ?_⟩
      refine q _ _ (but_upd h1) ⟨c, n, r / many, cells, upd_same, ?_, h3, by omega, Int.ediv_nonneg h5 (by omega)⟩ (Int.emod_nonneg _ (by omega)) (Int.emod_lt_of_pos _ hm)
      rw [upd_ne huc.symm]
      exact h2
    · -- at = urn[1]; urn[1] = at + 1; cell = ..
      rename_i hr0
      subst hN
      refine seq_by fun N hN => ?_
      walk_at "vc"
      refine ixL (sl_of h1) rfl ?_
      subst hN
      refine seq_by fun N hN => ?_
      walk_at "vc"
      refine ⟨_, h1, _, rfl, ?_⟩
      subst hN
      refine seq_by fun N hN => ?_
      walk_at "vc"
      refine ⟨.inl (by decide), ?_⟩
      subst hN
      refine seq_by fun N hN => ?_
      have b1 : But u H (upd H u (.lst [.ref c, .int (n + 1), .int r])) := but_upd h1
      have rest : ∀ (cell : Int) H2, But u H H2 → H2 u = some (.lst [.ref c, .int (n + 1), .int r]) → H2 c = some (.lst (cells.map V.int)) → N [some (.ref u), some (.int many), none, some (.int n), some (.int cell), none] H2 := by
        intro cell H2 b2 g1 g2
        subst hN
        refine seq_by fun N hN => ?_
        have last : N [some (.ref u), some (.int many), none, some (.int n), some (.int cell), none] H2 := by
          subst hN
          refine seq_by fun N hN => ?_
          walk_at "vc"
          have e1 : 0 ≤ cell % 2147483587 := Int.emod_nonneg _ (by decide)
          have e2 : cell % 2147483587 < 2147483587 := Int.emod_lt_of_pos _ (by decide)
          refine ⟨by decide, .inl (by decide), ⟨by decide, by decide, by omega⟩, by decide, ?_⟩
          generalize hmix : (cell % 2147483587 + 92431 * n + 5081) ^ Int.toNat 5 % 2147483629 = mixed
          have f1 : 0 ≤ mixed := by rw [← hmix]; exact Int.emod_nonneg _ (by decide)
          have f2 : mixed < 2147483629 := by rw [← hmix]; exact Int.emod_lt_of_pos _ (by decide)
          subst hN
          refine seq_by fun N hN => ?_
          walk_at "vc"
          have m1 : mixed * (2 * n + 5081) ≤ 2147483629 * 2005081 := Int.mul_le_mul (by omega) (by omega) (by omega) (by decide)
          have m2 : 0 ≤ mixed * (2 * n + 5081) := Int.mul_nonneg f1 (by omega)
          have m3 : 76801 * n * n ≤ 76801000000 * 1000000 := Int.mul_le_mul (by omega) (by omega) (by omega) (by decide)
          have m4 : 0 ≤ 76801 * n * n := Int.mul_nonneg (by omega) (by omega)
          refine ⟨.inl (by decide), .inl ⟨by omega, by omega⟩, .inl (by decide), .inl ⟨by omega, by omega⟩, ⟨by decide, by decide, by omega⟩, by decide, ?_⟩
          subst hN
          walk_at "vc"
          refine ⟨⟨by decide, by decide⟩, hm, ?_⟩
          exact q _ _ b2 ⟨c, n + 1, r, cells, g1, g2, by omega, by omega, h5⟩ (Int.emod_nonneg _ (by omega)) (Int.emod_lt_of_pos _ hm)
        walk_at "vc"
        refine ixL (sl_of g1) rfl ⟨c, rfl, _, .inl (sl_of g2), ?_⟩
        have p18 : CPow 10 18 := ⟨by decide, by decide, by decide⟩
        split
        · refine ⟨p18, ?_⟩
          generalize (10 : Int) ^ Int.toNat 18 = e
          have hs : 0 ≤ (if cell < 0 then 1 else 0 : Int) := by split <;> decide
          generalize (if cell < 0 then 1 else 0 : Int) = sg at *
          generalize (if cell < 0 then -cell else cell) = ab at *
          split
          · rename_i hc
            refine ⟨p18, .inl (by decide), ⟨hm, hm2⟩, _, g1, _, rfl, hm, ?_⟩
            refine q _ _ (b2.trans (but_upd g1)) ⟨c, n + 1, _, cells, upd_same, ?_, by omega, by omega, Int.ediv_nonneg ?_ (by omega)⟩ (Int.emod_nonneg _ (by omega)) (Int.emod_lt_of_pos _ hm)
            · rw [upd_ne huc.symm]
              exact g2
            · omega
          · exact last
        · exact last
      walk_at "vc"
      have g1 : upd H u (.lst [.ref c, .int (n + 1), .int r]) u = some (.lst [.ref c, .int (n + 1), .int r]) := upd_same
      have g2 : upd H u (.lst [.ref c, .int (n + 1), .int r]) c = some (.lst (cells.map V.int)) := by rw [upd_ne huc.symm]; exact h2
      refine ixL (sl_of g1) rfl ⟨by decide, fun p hp => ?_⟩
      have sp := same_upd (o := .lst []) hp
      have g3 := sp _ _ g1
      have g4 := sp _ _ g2
      refine ⟨_, _, dp_ints (sl_of g4), dp_ints (ns := []) (sl_of upd_same), sh_ints _, sh_ints [], _, rfl, ?_⟩
      split
      · rename_i hne
        have hcells : cells ≠ [] := by
          intro z
          subst z
          exact absurd hne (by decide)
        have hl : 0 < cells.length := List.length_pos_iff.mpr hcells
        refine ixL (sl_of g3) rfl (ixL (sl_of g3) rfl ⟨c, rfl, _, .inl (sl_of g4), ?_⟩)
        rw [List.length_map]
        have a1 : 0 ≤ n % (cells.length : Int) := Int.emod_nonneg _ (by omega)
        have a2 : n % (cells.length : Int) < cells.length := Int.emod_lt_of_pos _ (by omega)
        obtain ⟨j, hj⟩ := Int.eq_ofNat_of_zero_le a1
        have hjl : j < cells.length := by omega
        refine ⟨by omega, ?_⟩
        rw [hj]
        refine ixL (sl_of g4) (v := .int cells[j]) (atI_nat ?_) ?_
        · rw [List.getElem?_map, List.getElem?_eq_getElem hjl]
          rfl
        · exact rest _ _ (b1.trans (same_but sp)) g3 g4
      · exact rest _ _ (b1.trans (same_but sp)) g3 g4

/-! ### Euclid -/
theorem euc_step {a b i : Nat} (hb : b ≠ 0) (h : (i = 0 ∧ b < 2 ^ 190) ∨ (b ≤ a ∧ a * b * 2 ^ i < 2 ^ 381)) : a % b ≤ b ∧ b * (a % b) * 2 ^ (i + 1) < 2 ^ 381 := by
  have hm : a % b < b := Nat.mod_lt _ (by omega)
  refine ⟨by omega, ?_⟩
  rcases h with ⟨rfl, h⟩ | ⟨h1, h2⟩
  · have l : b * (a % b) < 2 ^ 380 := by
      rw [show (2 : Nat) ^ 380 = 2 ^ 190 * 2 ^ 190 from (Nat.pow_add 2 190 190)]
      exact Nat.mul_lt_mul'' h (Nat.lt_trans hm h)
    have : b * (a % b) * 2 ^ (0 + 1) = b * (a % b) * 2 := rfl
    rw [this]
    have e : (2 : Nat) ^ 381 = 2 ^ 380 * 2 := rfl
    rw [e]
    omega
  · have l1 : 2 * (a % b) ≤ a := by
      have e := Nat.div_add_mod a b
      have q : 1 ≤ a / b := (Nat.one_le_div_iff (by omega)).mpr h1
      have : b * 1 ≤ b * (a / b) := Nat.mul_le_mul_left _ q
      omega
    have l2 : b * (a % b) * 2 ≤ a * b := by
      rw [Nat.mul_assoc, Nat.mul_comm (a % b) 2, Nat.mul_comm a b]
      exact Nat.mul_le_mul_left _ l1
    have e : b * (a % b) * 2 ^ (i + 1) = b * (a % b) * 2 * 2 ^ i := by
      rw [Nat.pow_succ, Nat.mul_comm (2 ^ i) 2, ← Nat.mul_assoc]
    rw [e]
    exact Nat.lt_of_le_of_lt (Nat.mul_le_mul_right _ l2) h2
theorem euc_end {a b : Nat} (h : b ≤ a ∧ a * b * 2 ^ 400 < 2 ^ 381) : b = 0 := by
  rcases Nat.eq_zero_or_pos b with z | z
  · exact z
  · exfalso
    have h1 : 1 ≤ a * b := Nat.mul_pos (by omega) z
    have h2 : 1 * 2 ^ 400 ≤ a * b * 2 ^ 400 := Nat.mul_le_mul_right _ h1
    have h3 : (2 : Nat) ^ 381 ≤ 1 * 2 ^ 400 := by decide +kernel
    omega
theorem gcd_step (a b : Nat) : Nat.gcd b (a % b) = Nat.gcd a b := by
  rw [Nat.gcd_comm b (a % b), ← Nat.gcd_rec, Nat.gcd_comm]
theorem abs_nat (a : Int) : (if a < 0 then -a else a) = (a.natAbs : Int) := by split <;> omega
def spUrn (K : PySem.W.Frag) : Sp := fun vs H Q _ => ∃ (a : Addr) (ns : List Int), vs = [.ref a] ∧ SqL K H a (ns.map V.int) ∧ ns.length ≤ 63 ∧ ∀ H' u, Same H H' → Urn H' u 900000 → Q (.ref u) H'
theorem ok__law_store (T : Txt K mg A) : FnOk P w K mg base CX0 1 A.f__law_store A.d__law_store ["script"] (spUrn K) := by
  refine T._law_store.F.ok sc__law_store (fun vs H Q E h => ?_) (fun cdv A' outer s H vs Q E hr h => ?_)
  · obtain ⟨_, _, rfl, _⟩ := h; rfl
  · obtain ⟨a, ns, rfl, hS, hl, q⟩ := h
    refine ⟨_, (pss_one (ps_ret (pe_lst (pa_cons (pe_lc (own := [("cell", 1)]) (g := gName 1) (tt := tYes) rfl sc__law_store.nd (pi_list (pe_slice sl_list (pv 0) po_none (po_some pe_int))) (blkOk_by (N := ["script", "cell"]) (sc := defScope s__law_store) (by decide +kernel)) (fun _ _ _ _ _ => pg_name (i := 1) sc__law_store.nd rfl (Or.inl rfl)) (fun _ _ _ _ _ => pts_nil) (fun _ _ _ _ _ => pe_callTy call_int1 (by rfl) T.n_int bt_int (pa_cons (pv 1) pa_nil))) (pa_cons pe_int (pa_cons pe_int pa_nil)))))), ?_⟩
    refine ⟨_, rfl, 61, rfl, a, _, rfl, hS, fun p hp => ?_⟩
    obtain ⟨cs, hcs, hcl⟩ : ∃ cs : List Int, cutV (ns.map V.int) none (some 61) = cs.map V.int ∧ cs.length ≤ 63 := by
      refine ⟨(ns.drop (HT.sIx (ns.map V.int).length 0 none)).take (HT.sIx (ns.map V.int).length (ns.map V.int).length (some 61) - HT.sIx (ns.map V.int).length 0 none), ?_, ?_⟩
      · unfold cutV
        rw [List.map_take, List.map_drop]
      · rw [List.length_take, List.length_drop]
        omega
    have sp := same_upd (o := .lst (cutV (ns.map V.int) none (some 61))) hp
    refine ⟨p, rfl, ⟨_, sl_of upd_same⟩, fun D hD => ?_⟩
    have sD := same_upd (o := .lst []) hD
    have hpD : p ≠ D := ne_of_none (o := .lst (cutV (ns.map V.int) none (some 61))) upd_same hD
    refine lc_list (xs := cutV (ns.map V.int) none (some 61)) (fun i H2 => Same H H2 ∧ H2 p = some (.lst (cutV (ns.map V.int) none (some 61))) ∧ H2 D = some (.lst ((cs.take i).map V.int)) ∧ H D = none) ⟨sp.trans sD, sD _ _ upd_same, upd_same, sp.free hD⟩ (fun i H2 _ h => sl_of h.2.1) ?_ ?_
    · rintro i x H2 hx ⟨s2, e1, e2, e3⟩
      rw [hcs, List.getElem?_map] at hx
      cases ec : cs[i]? with
      | none => rw [ec] at hx; cases hx
      | some z =>
        rw [ec] at hx
        obtain rfl : V.int z = x := Option.some.inj hx
        refine ⟨rfl, ?_⟩
        simp only [tYes, if_true]
        refine ⟨_, rfl, .inl ⟨z, rfl, _, e2, ?_, ?_⟩⟩
        · rw [List.length_map, List.length_take]
          exact small1000 (by omega)
        · refine ⟨fun b o e => ?_, ?_, ?_, e3⟩
          · rw [upd_ne (ne_of_none e e3)]
            exact s2 _ _ e
          · rw [upd_ne hpD]
            exact e1
          · rw [upd_same, List.take_add_one, ec, List.map_append]
            rfl
    · rintro H2 ⟨s2, e1, e2, e3⟩
      refine ⟨(by show 3 ≤ sizeLine; decide), fun u hu => ?_⟩
      have hu2 := same_upd (o := .lst [.ref D, .int 0, .int 0]) hu
      exact q _ u (s2.trans hu2) ⟨D, 0, 0, _, upd_same, hu2 _ _ e2, by omega, by omega, by omega⟩
def spOneOf : Sp := fun vs H Q _ => ∃ (u p : Addr) (xs : List V) (k : Nat), vs = [.ref u, .ref p] ∧ p ≠ u ∧ H p = some (.lst xs) ∧ 0 < xs.length ∧ xs.length < 1073741824 ∧ Urn H u (k + 1) ∧ ∀ H' v, But u H H' → Urn H' u k → v ∈ xs → Q v H'
theorem ok__law_pick (T : Txt K mg A) : FnOk P w K mg base CX0 2 A.f__law_pick A.d__law_pick ["store", "some"] spOneOf := by
  refine T._law_pick.F.ok sc__law_pick (fun vs H Q E h => ?_) (fun cdv A' outer s H vs Q E hr h => ?_)
  · obtain ⟨_, _, _, _, rfl, _⟩ := h; rfl
  · obtain ⟨u, p, xs, k, rfl, hpu, hp, hl, hl2, hu, q⟩ := h
    refine ⟨_, (pss_one (ps_ret (pe_ix ix_list (pv 1) (pe_call (ok__law_draw T) (hr.mono (by decide)) (by rfl) T._law_draw.g T._law_draw.F.kp T._law_draw.b .nil pass0 (pa_cons (pv 0) (pa_cons (pe_callB call_len_seq (by rfl) T.n_len bt_len (pa_cons (pv 1) pa_nil)) pa_nil))) (fun _ _ => rfl)))), ?_⟩
    walk_at "vc"
    refine ⟨xs, .inl (sl_of hp), u, _, k, rfl, by omega, by omega, hu, fun H' m b hu' m0 m1 => ?_⟩
    obtain ⟨j, rfl⟩ := Int.eq_ofNat_of_zero_le m0
    have hj : j < xs.length := by omega
    exact ixL (sl_of (b.1 _ hpu _ hp)) (atI_nat (List.getElem?_eq_getElem hj)) (q _ _ b hu' (List.getElem_mem hj))

end
end Odd
namespace Odd
open PySem PySem.Spec PyProof.Rows L2
local macro_rules | `(tactic| walk_at "vc") => `(tactic| simp only [tSeq, tAsg, gName, tCB, tCons, tNil, tVar, tC, tOp, tUn, rI0, rI, rU, tTup, tLst, tIfS, tTest, tB, tRet, tNext, rGcd, L2.start, List.map, List.set, List.replicate, List.cons_append, List.nil_append, List.length_cons, List.length_nil, List.getElem?_cons_succ, List.getElem?_cons_zero, Option.some.injEq, exists_eq_left', exists_eq_left, List.append_nil, List.cons.injEq, V.int.injEq, exists_and_left, and_true, true_and, and_assoc, exists_const, V.bl.injEq, V.ref.injEq, Nat.sub_self, Nat.reduceAdd, Nat.reduceSub, List.replicate_succ, List.replicate_zero, tAnd, tOr, tNot, tAndV, tOrV, tNotV, tIf, tCall, tCallK, tDrop, rEq, rNe, decide_eq_true_eq, Bool.not_eq_true', decide_eq_false_iff_not, Bool.false_eq_true, if_true, if_false, reduceIte, reduceCtorEq, tMkLow, tRaiseLow, rIsB, rNotB, tBreak, tPar, gSub, rSetL, tChain, gTup, gCons, gNil, gSeq, cx_K, cx_Kn, optV, V.str.injEq, Bool.not_true, Bool.not_false, false_and, and_false, or_false, false_or, exists_false, tCallN, tCallS, tPairs])
section
variable {P : Program} {w : World} {K : PySem.W.Frag} {mg : Str → Option Value} {base : Heap} {A : Ads}
theorem gcd_step14 (a b : Nat) : Nat.gcd b (a % b) = Nat.gcd a b := by
  rw [Nat.gcd_comm b (a % b), ← Nat.gcd_rec, Nat.gcd_comm]
theorem abs_nat14 (a : Int) : (if a < 0 then -a else a) = (a.natAbs : Int) := by split <;> omega
def spGcd : Sp := fun vs H Q _ => ∃ a b : Int, vs = [.int a, .int b] ∧ Q (.int (Nat.gcd a.natAbs b.natAbs : Nat)) H
theorem ok__law_gcd (T : Txt K mg A) : FnOk P w K mg base CX0 1 A.f__law_gcd A.d__law_gcd ["one", "two"] spGcd := by
  refine T._law_gcd.F.ok sc__law_gcd (fun vs H Q E h => ?_) (fun cdv A' outer s H vs Q E hr h => ?_)
  · obtain ⟨_, _, rfl, _⟩ := h; rfl
  · obtain ⟨a, b, rfl, q⟩ := h
    refine ⟨_, (pss_cons (ps_par (i := 0) (j := 1) rfl sc__law_gcd.nd rfl rfl (by decide) rfl rfl (pa_cons (pe_callB call_abs (by rfl) T.n_abs bt_abs (pa_cons (pv 0) pa_nil)) (pa_cons (pe_callB call_abs (by rfl) T.n_abs bt_abs (pa_cons (pv 1) pa_nil)) pa_nil)) rfl)
      (pss_cons (ps_while PassesOwn.never (pt_cmpR op_gt (pv 1) pe_int (nomark _)) (pss_one (ps_par (i := 0) (j := 1) rfl sc__law_gcd.nd rfl rfl (by decide) rfl rfl (pa_cons (pv 1) (pa_cons (pe_op op_mod (pe_callTy call_int1 (by rfl) T.n_int bt_int (pa_cons (pv 0) pa_nil)) (pv 1)) pa_nil)) rfl)))
      (pss_one (ps_ret (pv 0))))), ?_⟩
    refine seq_by fun N hN => ?_
    walk_at "vc"
    rw [abs_nat14, abs_nat14]
    subst hN
    refine seq_by fun N hN => ?_
    refine ⟨fun m σ H' => H' = H ∧ ∃ x y : Nat, σ = [some (.int x), some (.int y)] ∧ m = y ∧ Nat.gcd x y = Nat.gcd a.natAbs b.natAbs, ⟨_, rfl, _, _, rfl, rfl, rfl⟩, ?_⟩
    rintro m σ H' ⟨rfl, x, y, rfl, rfl, hg⟩
    walk_at "vc"
    split
    · rename_i hm
      refine ⟨fun σ' H'' => H'' = H' ∧ ∃ x' y' : Nat, σ' = [some (.int x'), some (.int y')] ∧ y' < m ∧ Nat.gcd x' y' = Nat.gcd a.natAbs b.natAbs, ?_, hm, rfl, m, x % m, rfl, Nat.mod_lt _ (by omega), (gcd_step14 _ _).trans hg⟩
      rintro σ' H'' ⟨rfl, x', y', rfl, hl, hg'⟩
      exact ⟨y', hl, rfl, x', y', rfl, rfl, hg'⟩
    · rename_i hm
      have : m = 0 := by omega
      subst this
      rw [Nat.gcd_zero_right] at hg
      subst hN
      walk_at "vc"
      rw [hg]
      exact q
theorem ok__law_low (T : Txt K mg A) : FnOk P w K mg base CX0 2 A.f__law_low A.d__law_low ["top", "under"] (spLowest K) := by
  refine T._law_low.F.ok sc__law_low (fun vs H Q E h => ?_) (fun cdv A' outer s H vs Q E hr h => ?_)
  · obtain ⟨t, u, rfl, _⟩ := h; rfl
  · obtain ⟨t, u, rfl, hu, hb, q⟩ := h
    refine ⟨_, (pss_cons (ps_set (i := 2) sc__law_low.nd rfl (.inl rfl) (pe_call (ok__law_gcd T) (hr.mono (by decide)) (by rfl) T._law_gcd.g T._law_gcd.F.kp T._law_gcd.b .nil pass0 (pa_cons (pv 0) (pa_cons (pv 1) pa_nil))))
      (pss_cons (ps_if (pt_cmpR op_lt (pv 1) pe_int (nomark _)) (pss_one (ps_set (i := 2) sc__law_low.nd rfl (.inl rfl) (pe_un un_neg (pv 2)))) pss_nil)
      (pss_one (ps_ret (pe_tup (pa_cons (pe_op op_fdivX (pe_callTy call_int1 (by rfl) T.n_int bt_int (pa_cons (pv 0) pa_nil)) (pv 2)) (pa_cons (pe_op op_fdivX (pe_callTy call_int1 (by rfl) T.n_int bt_int (pa_cons (pv 1) pa_nil)) (pv 2)) pa_nil))))))), ?_⟩
    refine seq_by fun N hN => ?_
    walk_at "vc"
    refine ⟨t, u, rfl, ?_⟩
    have hg : 0 < Nat.gcd t.natAbs u.natAbs := Nat.gcd_pos_of_pos_right _ (by omega)
    have hl : Nat.gcd t.natAbs u.natAbs ≤ u.natAbs := Nat.le_of_dvd (by omega) (Nat.gcd_dvd_right _ _)
    have hd : Nat.gcd t.natAbs u.natAbs < 2 ^ 8000 := Nat.lt_of_le_of_lt hl hb
    subst hN
    refine seq_by fun N hN => ?_
    walk_at "vc"
    split
    · rename_i hn
      have d : ∀ x, CDivX x (-((Nat.gcd t.natAbs u.natAbs : Nat) : Int)) := fun x => divx (by omega) (b := 8000) (by rw [Int.natAbs_neg]; exact hd) (by decide) (by decide)
      subst hN
      walk_at "vc"
      refine ⟨d _, d _, by decide, fun p hp => q _ p (same_upd hp) (st_of ?_)⟩
      unfold low
      rw [if_pos hn, upd_same]
    · rename_i hn
      have d : ∀ x, CDivX x ((Nat.gcd t.natAbs u.natAbs : Nat) : Int) := fun x => divx (by omega) (b := 8000) hd (by decide) (by decide)
      subst hN
      walk_at "vc"
      refine ⟨d _, d _, by decide, fun p hp => q _ p (same_upd hp) (st_of ?_)⟩
      unfold low
      rw [if_neg hn, upd_same]
def spLawPt (K : PySem.W.Frag) : Sp := fun vs H Q _ => ∃ p x y u, vs = [.ref p, .int u] ∧ SqT K H p [.int x, .int y] ∧ u ≠ 0 ∧ u.natAbs < 2 ^ 8000 ∧ RetPP K H (low x u, low y u) Q
theorem ok__law_pt (T : Txt K mg A) : FnOk P w K mg base CX0 3 A.f__law_pt A.d__law_pt ["point", "under"] (spLawPt K) := by
  refine T._law_pt.F.ok sc__law_pt (fun vs H Q E h => ?_) (fun cdv A' outer s H vs Q E hr h => ?_)
  · obtain ⟨_, _, _, _, rfl, _⟩ := h; rfl
  · obtain ⟨p, x, y, u, rfl, hp, hu, hb, q⟩ := h
    refine ⟨_, (pss_one (ps_ret (pe_tup (pa_cons (pe_call (ok__law_low T) (hr.mono (by decide)) (by rfl) T._law_low.g T._law_low.F.kp T._law_low.b .nil pass0 (pa_cons (pe_ix ix_tup (pv 0) pe_int (fun _ _ => rfl)) (pa_cons (pv 1) pa_nil))) (pa_cons (pe_call (ok__law_low T) (hr.mono (by decide)) (by rfl) T._law_low.g T._law_low.F.kp T._law_low.b .nil pass0 (pa_cons (pe_ix ix_tup (pv 0) pe_int (fun _ _ => rfl)) (pa_cons (pv 1) pa_nil))) pa_nil))))), ?_⟩
    walk_at "vc"
    refine ixT hp rfl ⟨x, u, rfl, hu, hb, fun H1 r1 s1 h1 => ?_⟩
    refine ixT (same_tup s1 hp) rfl ⟨y, u, rfl, hu, hb, fun H2 r2 s2 h2 => ⟨by decide, fun t ht => ?_⟩⟩
    have s3 := same_upd (o := .tup [.ref r1, .ref r2]) ht
    exact q _ _ ((s1.trans s2).trans s3) ⟨t, _, _, rfl, st_of upd_same, ⟨r1, rfl, same_tup (s2.trans s3) h1⟩, ⟨r2, rfl, same_tup s3 h2⟩⟩
end
end Odd
namespace Odd
open PySem PySem.Spec PyProof.Rows L2
local macro_rules | `(tactic| walk_at "vc") => `(tactic| simp only [tSeq, tAsg, gName, tCB, tCons, tNil, tVar, tC, tOp, tUn, rI0, rI, rU, tTup, tLst, tIfS, tTest, tB, tRet, tNext, rGcd, L2.start, List.map, List.set, List.replicate, List.cons_append, List.nil_append, List.length_cons, List.length_nil, List.getElem?_cons_succ, List.getElem?_cons_zero, Option.some.injEq, exists_eq_left', exists_eq_left, List.append_nil, List.cons.injEq, V.int.injEq, exists_and_left, and_true, true_and, and_assoc, exists_const, V.bl.injEq, V.ref.injEq, Nat.sub_self, Nat.reduceAdd, Nat.reduceSub, List.replicate_succ, List.replicate_zero, tAnd, tOr, tNot, tAndV, tOrV, tNotV, tIf, tCall, tCallK, tDrop, rEq, rNe, decide_eq_true_eq, Bool.not_eq_true', decide_eq_false_iff_not, Bool.false_eq_true, if_true, if_false, reduceIte, reduceCtorEq, tMkLow, tRaiseLow, rIsB, rNotB, tBreak, tPar, gSub, rSetL, tChain, gTup, gCons, gNil, gSeq, cx_K, cx_Kn, optV, V.str.injEq, Bool.not_true, Bool.not_false, false_and, and_false, or_false, false_or, exists_false, tCallN, tCallS, tPairs])
section
variable {P : Program} {w : World} {K : PySem.W.Frag} {mg : Str → Option Value} {base : Heap} {A : Ads}
/-- a point of integers -/
def ZP (K : PySem.W.Frag) (H : Hp) (v : V) (p : Int × Int) : Prop := ∃ a, v = .ref a ∧ SqT K H a [.int p.1, .int p.2]
theorem ZP.same {H H' : Hp} {v : V} {p : Int × Int} (s : Same H H') (h : ZP K H v p) : ZP K H' v p := by
  obtain ⟨a, e, h⟩ := h
  exact ⟨a, e, same_tup s h⟩
theorem ZP.keep {H : Hp} {D : Addr} {acc acc' : List V} {v : V} {p : Int × Int} (hD : H D = some (.lst acc)) (h : ZP K H v p) : ZP K (upd H D (.lst acc')) v p := by
  obtain ⟨a, e, h⟩ := h
  exact ⟨a, e, keep_tup hD h⟩
theorem ZP.but {u : Addr} {H H' : Hp} {v : V} {p : Int × Int} {ys : List V} (s : But u H H') (hu : H u = some (.lst ys)) (h : ZP K H v p) : ZP K H' v p := by
  obtain ⟨a, e, h⟩ := h
  exact ⟨a, e, s.tup hu h⟩
def spLawRatio (K : PySem.W.Frag) : Sp := fun vs H Q _ => ∃ u k, vs = [.ref u] ∧ Urn H u (k + 1) ∧ ∀ H' v q, But u H H' → Urn H' u k → ZP K H' v q → q ∈ [((1 : Int), (1 : Int)), (2, 1), (1, 2), (3, 2), (2, 3), (3, 1), (1, 3)] → Q v H'
theorem ok__law_ratio (T : Txt K mg A) : FnOk P w K mg base CX0 3 A.f__law_ratio A.d__law_ratio ["store"] (spLawRatio K) := by
  refine T._law_ratio.F.ok sc__law_ratio (fun vs H Q E h => ?_) (fun cdv A' outer s H vs Q E hr h => ?_)
  · obtain ⟨_, _, rfl, _⟩ := h; rfl
  · obtain ⟨u, k, rfl, hu, q⟩ := h
    refine ⟨_, (pss_one (ps_ret (pe_call (ok__law_pick T) (hr.mono (by decide)) (by rfl) T._law_pick.g T._law_pick.F.kp T._law_pick.b .nil pass0 (pa_cons (pv 0) (pa_cons (pe_lst (pa_cons (pe_tup (pa_cons pe_int (pa_cons pe_int pa_nil))) (pa_cons (pe_tup (pa_cons pe_int (pa_cons pe_int pa_nil))) (pa_cons (pe_tup (pa_cons pe_int (pa_cons pe_int pa_nil))) (pa_cons (pe_tup (pa_cons pe_int (pa_cons pe_int pa_nil))) (pa_cons (pe_tup (pa_cons pe_int (pa_cons pe_int pa_nil))) (pa_cons (pe_tup (pa_cons pe_int (pa_cons pe_int pa_nil))) (pa_cons (pe_tup (pa_cons pe_int (pa_cons pe_int pa_nil))) (pa_cons (pe_tup (pa_cons pe_int (pa_cons pe_int pa_nil))) pa_nil))))))))) pa_nil))))), ?_⟩
    walk_at "vc"
    refine ⟨by decide, fun p0 e0 => ?_⟩
    have s0 := same_upd (o := .tup [.int 1, .int 1]) e0
    have z0 : ZP K (upd H p0 (.tup [.int 1, .int 1])) (.ref p0) (1, 1) := ⟨p0, rfl, st_of upd_same⟩
    generalize upd H p0 (.tup [.int 1, .int 1]) = G0 at *
    have S0 := s0
    refine ⟨by decide, fun p1 e1 => ?_⟩
    have s1 := same_upd (o := .tup [.int 1, .int 1]) e1
    have z1 : ZP K (upd G0 p1 (.tup [.int 1, .int 1])) (.ref p1) (1, 1) := ⟨p1, rfl, st_of upd_same⟩
    have z0 := z0.same s1
    generalize upd G0 p1 (.tup [.int 1, .int 1]) = G1 at *
    have S1 := S0.trans s1
    refine ⟨by decide, fun p2 e2 => ?_⟩
    have s2 := same_upd (o := .tup [.int 2, .int 1]) e2
    have z2 : ZP K (upd G1 p2 (.tup [.int 2, .int 1])) (.ref p2) (2, 1) := ⟨p2, rfl, st_of upd_same⟩
    have z0 := z0.same s2
    have z1 := z1.same s2
    generalize upd G1 p2 (.tup [.int 2, .int 1]) = G2 at *
    have S2 := S1.trans s2
    refine ⟨by decide, fun p3 e3 => ?_⟩
    have s3 := same_upd (o := .tup [.int 1, .int 2]) e3
    have z3 : ZP K (upd G2 p3 (.tup [.int 1, .int 2])) (.ref p3) (1, 2) := ⟨p3, rfl, st_of upd_same⟩
    have z0 := z0.same s3
    have z1 := z1.same s3
    have z2 := z2.same s3
    generalize upd G2 p3 (.tup [.int 1, .int 2]) = G3 at *
    have S3 := S2.trans s3
    refine ⟨by decide, fun p4 e4 => ?_⟩
    have s4 := same_upd (o := .tup [.int 3, .int 2]) e4
    have z4 : ZP K (upd G3 p4 (.tup [.int 3, .int 2])) (.ref p4) (3, 2) := ⟨p4, rfl, st_of upd_same⟩
    have z0 := z0.same s4
    have z1 := z1.same s4
    have z2 := z2.same s4
    have z3 := z3.same s4
    generalize upd G3 p4 (.tup [.int 3, .int 2]) = G4 at *
    have S4 := S3.trans s4
    refine ⟨by decide, fun p5 e5 => ?_⟩
    have s5 := same_upd (o := .tup [.int 2, .int 3]) e5
    have z5 : ZP K (upd G4 p5 (.tup [.int 2, .int 3])) (.ref p5) (2, 3) := ⟨p5, rfl, st_of upd_same⟩
    have z0 := z0.same s5
    have z1 := z1.same s5
    have z2 := z2.same s5
    have z3 := z3.same s5
    have z4 := z4.same s5
    generalize upd G4 p5 (.tup [.int 2, .int 3]) = G5 at *
    have S5 := S4.trans s5
    refine ⟨by decide, fun p6 e6 => ?_⟩
    have s6 := same_upd (o := .tup [.int 3, .int 1]) e6
    have z6 : ZP K (upd G5 p6 (.tup [.int 3, .int 1])) (.ref p6) (3, 1) := ⟨p6, rfl, st_of upd_same⟩
    have z0 := z0.same s6
    have z1 := z1.same s6
    have z2 := z2.same s6
    have z3 := z3.same s6
    have z4 := z4.same s6
    have z5 := z5.same s6
    generalize upd G5 p6 (.tup [.int 3, .int 1]) = G6 at *
    have S6 := S5.trans s6
    refine ⟨by decide, fun p7 e7 => ?_⟩
    have s7 := same_upd (o := .tup [.int 1, .int 3]) e7
    have z7 : ZP K (upd G6 p7 (.tup [.int 1, .int 3])) (.ref p7) (1, 3) := ⟨p7, rfl, st_of upd_same⟩
    have z0 := z0.same s7
    have z1 := z1.same s7
    have z2 := z2.same s7
    have z3 := z3.same s7
    have z4 := z4.same s7
    have z5 := z5.same s7
    have z6 := z6.same s7
    generalize upd G6 p7 (.tup [.int 1, .int 3]) = G7 at *
    have S7 := S6.trans s7
    refine ⟨by decide, fun d hd => ?_⟩
    have s8 := S7.trans (same_upd (o := .lst [.ref p0, .ref p1, .ref p2, .ref p3, .ref p4, .ref p5, .ref p6, .ref p7]) hd)
    obtain ⟨uc, uys, hux⟩ := hu.at
    have hdu : d ≠ u := fun z => by
      have := S7 _ _ hux
      rw [← z, hd] at this
      cases this
    refine ⟨u, d, _, k, rfl, hdu, upd_same, (by show 0 < 8; decide), (by show 8 < 1073741824; decide), hu.same s8, fun H' v b hu' hv => ?_⟩
    have b' : But u H H' := (same_but s8).trans b
    have kz : ∀ {v q}, ZP K G7 v q → ZP K H' v q := fun {v q} h => (h.same (same_upd (o := .lst [.ref p0, .ref p1, .ref p2, .ref p3, .ref p4, .ref p5, .ref p6, .ref p7]) hd)).but b (s8 _ _ hux)
    simp only [List.mem_cons, List.not_mem_nil, or_false] at hv
    rcases hv with rfl | rfl | rfl | rfl | rfl | rfl | rfl | rfl
    · exact q _ _ _ b' hu' (kz z0) (by simp)
    · exact q _ _ _ b' hu' (kz z1) (by simp)
    · exact q _ _ _ b' hu' (kz z2) (by simp)
    · exact q _ _ _ b' hu' (kz z3) (by simp)
    · exact q _ _ _ b' hu' (kz z4) (by simp)
    · exact q _ _ _ b' hu' (kz z5) (by simp)
    · exact q _ _ _ b' hu' (kz z6) (by simp)
    · exact q _ _ _ b' hu' (kz z7) (by simp)
end
end Odd
namespace Odd
open PySem PySem.Spec PyProof.Rows L2
local macro_rules | `(tactic| walk_at "vc") => `(tactic| simp only [tSeq, tAsg, gName, tCB, tCons, tNil, tVar, tC, tOp, tUn, rI0, rI, rU, tTup, tLst, tIfS, tTest, tB, tRet, tNext, rGcd, L2.start, List.map, List.set, List.replicate, List.cons_append, List.nil_append, List.length_cons, List.length_nil, List.getElem?_cons_succ, List.getElem?_cons_zero, Option.some.injEq, exists_eq_left', exists_eq_left, List.append_nil, List.cons.injEq, V.int.injEq, exists_and_left, and_true, true_and, and_assoc, exists_const, V.bl.injEq, V.ref.injEq, Nat.sub_self, Nat.reduceAdd, Nat.reduceSub, List.replicate_succ, List.replicate_zero, tAnd, tOr, tNot, tAndV, tOrV, tNotV, tIf, tCall, tCallK, tDrop, rEq, rNe, decide_eq_true_eq, Bool.not_eq_true', decide_eq_false_iff_not, Bool.false_eq_true, if_true, if_false, reduceIte, reduceCtorEq, tMkLow, tRaiseLow, rIsB, rNotB, tBreak, tPar, gSub, rSetL, tChain, gTup, gCons, gNil, gSeq, cx_K, cx_Kn, optV, V.str.injEq, Bool.not_true, Bool.not_false, false_and, and_false, or_false, false_or, exists_false, tCallN, tCallS, tPairs])
section
variable {P : Program} {w : World} {K : PySem.W.Frag} {mg : Str → Option Value} {base : Heap} {A : Ads}
/-- twelve directions -/
def wayL : List (Int × Int) := [(12, 1), (9, 7), (5, 11), (-2, 12), (-7, 9), (-11, 4), (-12, -3), (-8, -9), (-3, -12), (4, -11), (9, -8), (12, -4)]
/-- where a corner goes that is told by its direction and how far it is -/
def cornerZ (h : Int × Int) (d : Nat) (f : Int) : Int × Int := (h.1 + (wayL.getD d (0, 0)).1 * f, h.2 + (wayL.getD d (0, 0)).2 * f)
/-- a drawn star: a corner for each of m directions, each one or none behind its twelfth -/
inductive Star (m : Nat) (h : Int × Int) (lo sp : Int) (st : Nat) : Nat → List (Int × Int) → Prop
  | nil : Star m h lo sp st 0 []
  | snoc {i : Nat} {ps : List (Int × Int)} {e : Nat} {f : Int} (t : Star m h lo sp st i ps) (he : e < 2) (h1 : lo ≤ f) (h2 : f < lo + sp) : Star m h lo sp st (i + 1) (ps ++ [cornerZ h ((st + 12 * i / m + e) % 12) f])
theorem Star.len {m : Nat} {h : Int × Int} {lo sp : Int} {st i : Nat} {ps : List (Int × Int)} (s : Star m h lo sp st i ps) : ps.length = i := by
  induction s with
  | nil => rfl
  | snoc t he h1 h2 ih => rw [List.length_append, ih]; rfl
def spStar (K : PySem.W.Frag) : Sp := fun vs H Q _ => ∃ u hv h m lo sp k, vs = [.ref u, .int (m : Nat), hv, .int lo, .int sp] ∧ ZP K H hv h ∧ 0 < m ∧ m ≤ 12 ∧ 0 < lo ∧ 0 < sp ∧ lo < 2 ^ 40 ∧ sp < 1073741824 ∧ Urn H u (k + 2 * m + 1) ∧
  ∀ H' L vs st ps, But u H H' → Urn H' u k → H L = none → H' L = some (.lst vs) → Each (ZP K H') vs ps → st < 12 → Star m h lo sp st m ps → Q (.ref L) H'
theorem ok__law_star (T : Txt K mg A) : FnOk P w K mg base CX0 3 A.f__law_star A.d__law_star ["store", "many", "heart", "least", "span"] (spStar K) := by
  refine T._law_star.F.ok sc__law_star (fun vs H Q E h => ?_) (fun cdv A' outer s H vs Q E hr h => ?_)
  · obtain ⟨_, _, _, _, _, _, _, rfl, _⟩ := h; rfl
  · obtain ⟨u, hv, h, m, lo, sp, k, rfl, hh, hm0, hm, hlo, hsp, hlo2, hsp2, hu, q⟩ := h
    refine ⟨_, (pss_cons (ps_set (i := 5) sc__law_star.nd rfl (.inl rfl) (pe_lst (pa_cons (pe_tup (pa_cons pe_int (pa_cons pe_int pa_nil))) (pa_cons (pe_tup (pa_cons pe_int (pa_cons pe_int pa_nil))) (pa_cons (pe_tup (pa_cons pe_int (pa_cons pe_int pa_nil))) (pa_cons (pe_tup (pa_cons (pe_un un_neg pe_int) (pa_cons pe_int pa_nil))) (pa_cons (pe_tup (pa_cons (pe_un un_neg pe_int) (pa_cons pe_int pa_nil))) (pa_cons (pe_tup (pa_cons (pe_un un_neg pe_int) (pa_cons pe_int pa_nil))) (pa_cons (pe_tup (pa_cons (pe_un un_neg pe_int) (pa_cons (pe_un un_neg pe_int) pa_nil))) (pa_cons (pe_tup (pa_cons (pe_un un_neg pe_int) (pa_cons (pe_un un_neg pe_int) pa_nil))) (pa_cons (pe_tup (pa_cons (pe_un un_neg pe_int) (pa_cons (pe_un un_neg pe_int) pa_nil))) (pa_cons (pe_tup (pa_cons pe_int (pa_cons (pe_un un_neg pe_int) pa_nil))) (pa_cons (pe_tup (pa_cons pe_int (pa_cons (pe_un un_neg pe_int) pa_nil))) (pa_cons (pe_tup (pa_cons pe_int (pa_cons (pe_un un_neg pe_int) pa_nil))) pa_nil))))))))))))))
      (pss_cons (ps_set (i := 6) sc__law_star.nd rfl (.inl rfl) (pe_call (ok__law_draw T) (hr.mono (by decide)) (by rfl) T._law_draw.g T._law_draw.F.kp T._law_draw.b .nil pass0 (pa_cons (pv 0) (pa_cons pe_int pa_nil))))
      (pss_cons (ps_set (i := 7) sc__law_star.nd rfl (.inl rfl) (pe_lst pa_nil))
      (pss_cons (ps_for PassesOwn.never rfl (pi_range1 rfl T.n_range (pa_cons (pv 1) pa_nil)) (pg_name (i := 8) sc__law_star.nd rfl (.inl rfl)) (pss_cons (ps_set (i := 9) sc__law_star.nd rfl (.inl rfl) (pe_ix ix_list (pv 5) (pe_op op_mod (pe_callTy call_int1 (by rfl) T.n_int bt_int (pa_cons (pe_op op_add (pe_op op_add (pv 6) (pe_op op_fdiv (pe_op op_mul pe_int (pv 8)) (pv 1))) (pe_call (ok__law_draw T) (hr.mono (by decide)) (by rfl) T._law_draw.g T._law_draw.F.kp T._law_draw.b .nil pass0 (pa_cons (pv 0) (pa_cons pe_int pa_nil)))) pa_nil)) pe_int) (fun _ _ => rfl)))
      (pss_cons (ps_set (i := 10) sc__law_star.nd rfl (.inl rfl) (pe_op op_add (pv 3) (pe_call (ok__law_draw T) (hr.mono (by decide)) (by rfl) T._law_draw.g T._law_draw.F.kp T._law_draw.b .nil pass0 (pa_cons (pv 0) (pa_cons (pv 4) pa_nil)))))
      (pss_one (ps_expr (pe_bm F.plainAttrs_list F.slot_list_append F.type_list_append mt_append (pv 7) (pa_cons (pe_tup (pa_cons (pe_op op_add (pe_ix ix_tup (pv 2) pe_int (fun _ _ => rfl)) (pe_op op_mul (pe_ix ix_tup (pv 9) pe_int (fun _ _ => rfl)) (pv 10))) (pa_cons (pe_op op_add (pe_ix ix_tup (pv 2) pe_int (fun _ _ => rfl)) (pe_op op_mul (pe_ix ix_tup (pv 9) pe_int (fun _ _ => rfl)) (pv 10))) pa_nil))) pa_nil)))))))
      (pss_one (ps_ret (pv 7))))))), ?_⟩
    refine seq_by fun N hN => ?_
    walk_at "vc"
    refine ⟨by decide, fun p0 e0 => ?_⟩
    have s0 := same_upd (o := .tup [.int (12), .int (1)]) e0
    have z0 : ZP K (upd H p0 (.tup [.int (12), .int (1)])) (.ref p0) (12, 1) := ⟨p0, rfl, st_of upd_same⟩
    generalize upd H p0 (.tup [.int (12), .int (1)]) = G0 at *
    have S0 := s0
    refine ⟨by decide, fun p1 e1 => ?_⟩
    have s1 := same_upd (o := .tup [.int (9), .int (7)]) e1
    have z1 : ZP K (upd G0 p1 (.tup [.int (9), .int (7)])) (.ref p1) (9, 7) := ⟨p1, rfl, st_of upd_same⟩
    have z0 := z0.same s1
    generalize upd G0 p1 (.tup [.int (9), .int (7)]) = G1 at *
    have S1 := S0.trans s1
    refine ⟨by decide, fun p2 e2 => ?_⟩
    have s2 := same_upd (o := .tup [.int (5), .int (11)]) e2
    have z2 : ZP K (upd G1 p2 (.tup [.int (5), .int (11)])) (.ref p2) (5, 11) := ⟨p2, rfl, st_of upd_same⟩
    have z0 := z0.same s2
    have z1 := z1.same s2
    generalize upd G1 p2 (.tup [.int (5), .int (11)]) = G2 at *
    have S2 := S1.trans s2
    refine ⟨by decide, fun p3 e3 => ?_⟩
    have s3 := same_upd (o := .tup [.int (-2), .int (12)]) e3
    have z3 : ZP K (upd G2 p3 (.tup [.int (-2), .int (12)])) (.ref p3) (-2, 12) := ⟨p3, rfl, st_of upd_same⟩
    have z0 := z0.same s3
    have z1 := z1.same s3
    have z2 := z2.same s3
    generalize upd G2 p3 (.tup [.int (-2), .int (12)]) = G3 at *
    have S3 := S2.trans s3
    refine ⟨by decide, fun p4 e4 => ?_⟩
    have s4 := same_upd (o := .tup [.int (-7), .int (9)]) e4
    have z4 : ZP K (upd G3 p4 (.tup [.int (-7), .int (9)])) (.ref p4) (-7, 9) := ⟨p4, rfl, st_of upd_same⟩
    have z0 := z0.same s4
    have z1 := z1.same s4
    have z2 := z2.same s4
    have z3 := z3.same s4
    generalize upd G3 p4 (.tup [.int (-7), .int (9)]) = G4 at *
    have S4 := S3.trans s4
    refine ⟨by decide, fun p5 e5 => ?_⟩
    have s5 := same_upd (o := .tup [.int (-11), .int (4)]) e5
    have z5 : ZP K (upd G4 p5 (.tup [.int (-11), .int (4)])) (.ref p5) (-11, 4) := ⟨p5, rfl, st_of upd_same⟩
    have z0 := z0.same s5
    have z1 := z1.same s5
    have z2 := z2.same s5
    have z3 := z3.same s5
    have z4 := z4.same s5
    generalize upd G4 p5 (.tup [.int (-11), .int (4)]) = G5 at *
    have S5 := S4.trans s5
    refine ⟨by decide, fun p6 e6 => ?_⟩
    have s6 := same_upd (o := .tup [.int (-12), .int (-3)]) e6
    have z6 : ZP K (upd G5 p6 (.tup [.int (-12), .int (-3)])) (.ref p6) (-12, -3) := ⟨p6, rfl, st_of upd_same⟩
    have z0 := z0.same s6
    have z1 := z1.same s6
    have z2 := z2.same s6
    have z3 := z3.same s6
    have z4 := z4.same s6
    have z5 := z5.same s6
    generalize upd G5 p6 (.tup [.int (-12), .int (-3)]) = G6 at *
    have S6 := S5.trans s6
    refine ⟨by decide, fun p7 e7 => ?_⟩
    have s7 := same_upd (o := .tup [.int (-8), .int (-9)]) e7
    have z7 : ZP K (upd G6 p7 (.tup [.int (-8), .int (-9)])) (.ref p7) (-8, -9) := ⟨p7, rfl, st_of upd_same⟩
    have z0 := z0.same s7
    have z1 := z1.same s7
    have z2 := z2.same s7
    have z3 := z3.same s7
    have z4 := z4.same s7
    have z5 := z5.same s7
    have z6 := z6.same s7
    generalize upd G6 p7 (.tup [.int (-8), .int (-9)]) = G7 at *
    have S7 := S6.trans s7
    refine ⟨by decide, fun p8 e8 => ?_⟩
    have s8 := same_upd (o := .tup [.int (-3), .int (-12)]) e8
    have z8 : ZP K (upd G7 p8 (.tup [.int (-3), .int (-12)])) (.ref p8) (-3, -12) := ⟨p8, rfl, st_of upd_same⟩
    have z0 := z0.same s8
    have z1 := z1.same s8
    have z2 := z2.same s8
    have z3 := z3.same s8
    have z4 := z4.same s8
    have z5 := z5.same s8
    have z6 := z6.same s8
    have z7 := z7.same s8
    generalize upd G7 p8 (.tup [.int (-3), .int (-12)]) = G8 at *
    have S8 := S7.trans s8
    refine ⟨by decide, fun p9 e9 => ?_⟩
    have s9 := same_upd (o := .tup [.int (4), .int (-11)]) e9
    have z9 : ZP K (upd G8 p9 (.tup [.int (4), .int (-11)])) (.ref p9) (4, -11) := ⟨p9, rfl, st_of upd_same⟩
    have z0 := z0.same s9
    have z1 := z1.same s9
    have z2 := z2.same s9
    have z3 := z3.same s9
    have z4 := z4.same s9
    have z5 := z5.same s9
    have z6 := z6.same s9
    have z7 := z7.same s9
    have z8 := z8.same s9
    generalize upd G8 p9 (.tup [.int (4), .int (-11)]) = G9 at *
    have S9 := S8.trans s9
    refine ⟨by decide, fun p10 e10 => ?_⟩
    have s10 := same_upd (o := .tup [.int (9), .int (-8)]) e10
    have z10 : ZP K (upd G9 p10 (.tup [.int (9), .int (-8)])) (.ref p10) (9, -8) := ⟨p10, rfl, st_of upd_same⟩
    have z0 := z0.same s10
    have z1 := z1.same s10
    have z2 := z2.same s10
    have z3 := z3.same s10
    have z4 := z4.same s10
    have z5 := z5.same s10
    have z6 := z6.same s10
    have z7 := z7.same s10
    have z8 := z8.same s10
    have z9 := z9.same s10
    generalize upd G9 p10 (.tup [.int (9), .int (-8)]) = G10 at *
    have S10 := S9.trans s10
    refine ⟨by decide, fun p11 e11 => ?_⟩
    have s11 := same_upd (o := .tup [.int (12), .int (-4)]) e11
    have z11 : ZP K (upd G10 p11 (.tup [.int (12), .int (-4)])) (.ref p11) (12, -4) := ⟨p11, rfl, st_of upd_same⟩
    have z0 := z0.same s11
    have z1 := z1.same s11
    have z2 := z2.same s11
    have z3 := z3.same s11
    have z4 := z4.same s11
    have z5 := z5.same s11
    have z6 := z6.same s11
    have z7 := z7.same s11
    have z8 := z8.same s11
    have z9 := z9.same s11
    have z10 := z10.same s11
    generalize upd G10 p11 (.tup [.int (12), .int (-4)]) = G11 at *
    have S11 := S10.trans s11
    refine ⟨by decide, fun d hd => ?_⟩
    have s12 := same_upd (o := .lst [.ref p0, .ref p1, .ref p2, .ref p3, .ref p4, .ref p5, .ref p6, .ref p7, .ref p8, .ref p9, .ref p10, .ref p11]) hd
    have S12 := S11.trans s12
    have hW : upd G11 d (.lst [.ref p0, .ref p1, .ref p2, .ref p3, .ref p4, .ref p5, .ref p6, .ref p7, .ref p8, .ref p9, .ref p10, .ref p11]) d = some (.lst [.ref p0, .ref p1, .ref p2, .ref p3, .ref p4, .ref p5, .ref p6, .ref p7, .ref p8, .ref p9, .ref p10, .ref p11]) := upd_same
    have eW : Each (ZP K (upd G11 d (.lst [.ref p0, .ref p1, .ref p2, .ref p3, .ref p4, .ref p5, .ref p6, .ref p7, .ref p8, .ref p9, .ref p10, .ref p11]))) [.ref p0, .ref p1, .ref p2, .ref p3, .ref p4, .ref p5, .ref p6, .ref p7, .ref p8, .ref p9, .ref p10, .ref p11] wayL := by
      refine ⟨rfl, fun i v x e1 e2 => ?_⟩
      rcases i with _ | _ | _ | _ | _ | _ | _ | _ | _ | _ | _ | _ | i <;> first | (cases e1; cases e2; first | exact z0.same s12 | exact z1.same s12 | exact z2.same s12 | exact z3.same s12 | exact z4.same s12 | exact z5.same s12 | exact z6.same s12 | exact z7.same s12 | exact z8.same s12 | exact z9.same s12 | exact z10.same s12 | exact z11.same s12) | (simp at e1)
    obtain ⟨uc, uys, hux⟩ := hu.at
    have hdu : d ≠ u := fun z => by
      have := S11 _ _ hux
      rw [← z, hd] at this
      cases this
    generalize hws : ([.ref p0, .ref p1, .ref p2, .ref p3, .ref p4, .ref p5, .ref p6, .ref p7, .ref p8, .ref p9, .ref p10, .ref p11] : List V) = wv at *
    have lW : wv.length = 12 := by rw [← hws]; rfl
    generalize upd G11 d (.lst wv) = G at *
    clear z0 z1 z2 z3 z4 z5 z6 z7 z8 z9 z10 z11 s0 s1 s2 s3 s4 s5 s6 s7 s8 s9 s10 s11 S0 S1 S2 S3 S4 S5 S6 S7 S8 S9 S10 S11 s12 hd
    subst hN
    -- the first direction
    refine seq_by fun N hN => ?_
    walk_at "vc"
    refine ⟨u, 12, k + 2 * m, rfl, by decide, by decide, hu.same S12, fun H1 st0 b1 hu1 g0 g1 => ?_⟩
    obtain ⟨st, rfl⟩ := Int.eq_ofNat_of_zero_le g0
    have hux2 := S12 _ _ hux
    have B1 : But u H H1 := (same_but S12).trans b1
    have hW1 : H1 d = some (.lst wv) := b1.1 _ hdu _ hW
    have eW1 : Each (ZP K H1) wv wayL := eW.imp fun v x z => z.but b1 hux2
    have hh1 : ZP K H1 hv h := (hh.same S12).but b1 hux2
    clear hW eW S12 b1 hux2
    subst hN
    refine seq_by fun N hN => ?_
    walk_at "vc"
    refine ⟨by decide, fun D hD => ?_⟩
    have s2 := same_upd (o := .lst []) hD
    obtain ⟨uc1, uys1, hux1⟩ := hu1.at
    have hDu : D ≠ u := fun z => by rw [z, hux1] at hD; cases hD
    have hDd : D ≠ d := fun z => by rw [z, hW1] at hD; cases hD
    have hDH : H D = none := by
      cases e : H D with
      | none => rfl
      | some o => rw [B1.1 D hDu o e] at hD; cases hD
    have urnD : ∀ {H' : Hp} {n : Nat} {x : HO}, But u H H' → Urn H' u n → Urn (upd H' D x) u n := by
      intro H' n x B hU
      obtain ⟨c0, n0, r0, cells0, e1, e2, _⟩ := hu
      obtain ⟨c, n', r', cells, f1, f2, f3, f4, f5⟩ := hU
      obtain ⟨ys', g⟩ := B.2 _ _ e1
      rw [f1] at g
      cases g
      exact ⟨_, n', r', cells, by rw [upd_ne (Ne.symm hDu)]; exact f1, by rw [upd_ne (ne_of_none e2 hDH)]; exact f2, f3, f4, f5⟩
    subst hN
    refine seq_by fun N hN => ?_
    walk_at "vc"
    refine ⟨_, rfl, _, rfl, by omega, by omega, for_range (n := ((m : Nat) : Int).toNat) (fun i σ H' => ∃ o8 o9 o10 acc ps, σ = [some (.ref u), some (.int (m : Nat)), some hv, some (.int lo), some (.int sp), some (.ref d), some (.int (st : Nat)), some (.ref D), o8, o9, o10] ∧ But u H H' ∧ H' d = some (.lst wv) ∧ Each (ZP K H') wv wayL ∧ ZP K H' hv h ∧ Urn H' u (k + 2 * (m - i)) ∧ H' D = some (.lst acc) ∧ Each (ZP K H') acc ps ∧ Star m h lo sp st i ps) ?_ ?_ ?_⟩
    · refine ⟨none, none, none, [], [], rfl, B1.trans (same_but s2), s2 _ _ hW1, eW1.imp fun v x z => z.same s2, hh1.same s2, hu1.same s2, upd_same, ⟨rfl, fun i v x e => by simp at e⟩, .nil⟩
    · rintro i σ H2 hi ⟨o8, o9, o10, acc, ps, rfl, B2, hW2, eW2, hh2, hu2, hD2, ea, star⟩
      have hi : i < m := by omega
      rw [show ((0 : Int) + (i : Nat)) = (i : Nat) by omega]
      walk_at "vc"
      refine ⟨.inl ⟨by omega, by omega⟩, ⟨by omega, by omega⟩, u, 2, k + 2 * (m - i) - 1, rfl, by decide, by decide, hu2.mono (by omega), fun H3 e' b3 hu3 e0 e1 => ?_⟩
      obtain ⟨e, rfl⟩ := Int.eq_ofNat_of_zero_le e0
      obtain ⟨uc2, uys2, hux2⟩ := hu2.at
      have hW3 := b3.1 _ hdu _ hW2
      have hD3 := b3.1 _ hDu _ hD2
      have hlt : (st + 12 * i / m + e) % 12 < 12 := Nat.mod_lt _ (by decide)
      have ei : ((st : Int) + 12 * (i : Int) / (m : Int) + (e : Int)) % 12 = (((st + 12 * i / m + e) % 12 : Nat) : Int) := by push_cast; rfl
      obtain ⟨wy, hwy⟩ : ∃ wy, wayL[(st + 12 * i / m + e) % 12]? = some wy := ⟨_, List.getElem?_eq_getElem hlt⟩
      obtain ⟨wv1, hwv1, hZ⟩ := eW2.at hwy
      refine ⟨_, rfl, by decide, ?_⟩
      show rIxL K (.ref d) (.int (((st : Int) + 12 * (i : Int) / (m : Int) + (e : Int)) % 12)) H3 _
      rw [ei]
      refine ixL (sl_of hW3) (atI_nat hwv1) ?_
      obtain ⟨uc3, uys3, hux3⟩ := hu3.at
      refine ⟨u, sp, k + 2 * (m - (i + 1)), rfl, hsp, hsp2, hu3.mono (by omega), fun H4 f b4 hu4 f0 f1 => ⟨_, rfl, ?_⟩⟩
      obtain ⟨uc4, uys4, hux4⟩ := hu4.at
      have hZ4 := (hZ.but b3 hux2).but b4 hux3
      have hh4 := (hh2.but b3 hux2).but b4 hux3
      have hD4 := b4.1 _ hDu _ hD3
      have hW4 := b4.1 _ hdu _ hW3
      have ea4 : Each (ZP K H4) acc ps := ea.imp fun v x z => (z.but b3 hux2).but b4 hux3
      have eW4 : Each (ZP K H4) wv wayL := eW2.imp fun v x z => (z.but b3 hux2).but b4 hux3
      have B4 := (B2.trans b3).trans b4
      obtain ⟨ha, rfl, hA⟩ := id hh4
      obtain ⟨wa, rfl, hWa⟩ := id hZ4
      simp only [tBM]
      walk_at "vc"
      refine ⟨.inl ⟨rfl, acc, sl_of hD4⟩, ?_⟩
      refine ixT hA rfl ?_
      refine ixT hWa rfl ?_
      refine ⟨_, rfl, .inr ⟨by omega, by omega⟩, _, rfl, ?_⟩
      refine ixT hA rfl ?_
      refine ixT hWa rfl ?_
      refine ⟨_, rfl, .inr ⟨by omega, by omega⟩, _, rfl, by decide, fun p hp => ?_⟩
      have s5 := same_upd (o := .tup [.int (h.1 + wy.1 * (lo + f)), .int (h.2 + wy.2 * (lo + f))]) hp
      have hp5 : SqT K (upd H4 p (.tup [.int (h.1 + wy.1 * (lo + f)), .int (h.2 + wy.2 * (lo + f))])) p [.int (h.1 + wy.1 * (lo + f)), .int (h.2 + wy.2 * (lo + f))] := st_of upd_same
      generalize upd H4 p (.tup [.int (h.1 + wy.1 * (lo + f)), .int (h.2 + wy.2 * (lo + f))]) = H5 at *
      have hD5 := s5 _ _ hD4
      have la : acc.length = i := by rw [ea.1, star.len]
      refine ⟨D, acc, _, rfl, rfl, hD5, by rw [la]; exact small1000 (by omega), ?_⟩
      have egd : wayL.getD ((st + 12 * i / m + e) % 12) (0, 0) = wy := by rw [List.getD_eq_getElem?_getD, hwy]; rfl
      refine ⟨?_, ?_, ?_, ?_, ?_, _, upd_same, ps ++ [cornerZ h ((st + 12 * i / m + e) % 12) (lo + f)], ?_, .snoc star (by omega) (by omega) (by omega)⟩
      · have B5 := B4.trans (same_but s5)
        refine ⟨fun b nb o ho => by rw [upd_ne (ne_of_none ho hDH)]; exact B5.1 b nb o ho, fun c ys ho => ?_⟩
        obtain ⟨ys', g⟩ := B5.2 c ys ho
        exact ⟨ys', by rw [upd_ne (Ne.symm hDu)]; exact g⟩
      · rw [upd_ne (Ne.symm hDd)]
        exact s5 _ _ hW4
      · exact eW4.imp fun v x z => (z.same s5).keep hD5
      · exact (hh4.same s5).keep hD5
      · exact urnD (B4.trans (same_but s5)) (hu4.same s5)
      · unfold cornerZ
        rw [egd]
        exact each_snoc (ea4.imp fun v x z => (z.same s5).keep hD5) (ZP.keep hD5 ⟨p, rfl, hp5⟩)
    · rintro σ H2 ⟨o8, o9, o10, acc, ps, rfl, B2, hW2, eW2, hh2, hu2, hD2, ea, star⟩
      rw [show (((m : Nat) : Int).toNat) = m by omega] at star hu2
      subst hN
      walk_at "vc"
      exact q H2 D acc st ps B2 (by rw [Nat.sub_self] at hu2; exact hu2) hDH hD2 ea (by omega) star
end
end Odd
namespace Odd
open PySem PySem.Spec PyProof.Rows L2
local macro_rules | `(tactic| walk_at "vc") => `(tactic| simp only [tSeq, tAsg, gName, tCB, tCons, tNil, tVar, tC, tOp, tUn, rI0, rI, rU, tTup, tLst, tIfS, tTest, tB, tRet, tNext, rGcd, L2.start, List.map, List.set, List.replicate, List.cons_append, List.nil_append, List.length_cons, List.length_nil, List.getElem?_cons_succ, List.getElem?_cons_zero, Option.some.injEq, exists_eq_left', exists_eq_left, List.append_nil, List.cons.injEq, V.int.injEq, exists_and_left, and_true, true_and, and_assoc, exists_const, V.bl.injEq, V.ref.injEq, Nat.sub_self, Nat.reduceAdd, Nat.reduceSub, List.replicate_succ, List.replicate_zero, tAnd, tOr, tNot, tAndV, tOrV, tNotV, tIf, tCall, tCallK, tDrop, rEq, rNe, decide_eq_true_eq, Bool.not_eq_true', decide_eq_false_iff_not, Bool.false_eq_true, if_true, if_false, reduceIte, reduceCtorEq, tMkLow, tRaiseLow, rIsB, rNotB, tBreak, tPar, gSub, rSetL, tChain, gTup, gCons, gNil, gSeq, cx_K, cx_Kn, optV, V.str.injEq, Bool.not_true, Bool.not_false, false_and, and_false, or_false, false_or, exists_false, tCallN, tCallS, tPairs])
section
variable {P : Program} {w : World} {K : PySem.W.Frag} {mg : Str → Option Value} {base : Heap} {A : Ads}
/-- at v: a list of integer points, none of these addresses -/
def RowV (K : PySem.W.Frag) (X : List Addr) (H : Hp) (v : V) (ps : List (Int × Int)) : Prop := ∃ a ws, v = .ref a ∧ H a = some (.lst ws) ∧ a ∉ X ∧ Each (ZP K H) ws ps
theorem RowV.same {X : List Addr} {H H' : Hp} {v : V} {ps : List (Int × Int)} (s : Same H H') (h : RowV K X H v ps) : RowV K X H' v ps := by
  obtain ⟨a, ws, e, h1, h2, h3⟩ := h
  exact ⟨a, ws, e, s _ _ h1, h2, h3.imp fun v x z => z.same s⟩
theorem RowV.but {X : List Addr} {u : Addr} {H H' : Hp} {v : V} {ps : List (Int × Int)} {ys : List V} (hX : u ∈ X) (s : But u H H') (hu : H u = some (.lst ys)) (h : RowV K X H v ps) : RowV K X H' v ps := by
  obtain ⟨a, ws, e, h1, h2, h3⟩ := h
  exact ⟨a, ws, e, s.1 _ (fun z => h2 (by rw [z]; exact hX)) _ h1, h2, h3.imp fun v x z => z.but s hu⟩
theorem RowV.keep {X : List Addr} {H : Hp} {D : Addr} {acc acc' : List V} {v : V} {ps : List (Int × Int)} (hX : D ∈ X) (hD : H D = some (.lst acc)) (h : RowV K X H v ps) : RowV K X (upd H D (.lst acc')) v ps := by
  obtain ⟨a, ws, e, h1, h2, h3⟩ := h
  exact ⟨a, ws, e, by rw [upd_ne (fun z => h2 (by rw [z]; exact hX))]; exact h1, h2, h3.imp fun v x z => z.keep hD⟩
theorem but_keep {u D : Addr} {H H' : Hp} {x : HO} (B : But u H H') (hD : H D = none) (hu : D ≠ u) : But u H (upd H' D x) :=
  ⟨fun b nb o ho => by rw [upd_ne (ne_of_none ho hD)]; exact B.1 b nb o ho, fun c ys ho => by
    obtain ⟨ys', g⟩ := B.2 c ys ho
    exact ⟨ys', by rw [upd_ne (Ne.symm hu)]; exact g⟩⟩
theorem urn_keep {u D : Addr} {H H' : Hp} {x : HO} {n n0 : Nat} (h : Urn H u n0) (B : But u H H') (hU : Urn H' u n) (hD : H D = none) (hu : D ≠ u) : Urn (upd H' D x) u n := by
  obtain ⟨c0, n0, r0, cells0, e1, e2, _⟩ := h
  obtain ⟨c, n', r', cells, f1, f2, f3, f4, f5⟩ := hU
  obtain ⟨ys', g⟩ := B.2 _ _ e1
  rw [f1] at g
  cases g
  exact ⟨_, n', r', cells, by rw [upd_ne (Ne.symm hu)]; exact f1, by rw [upd_ne (ne_of_none e2 hD)]; exact f2, f3, f4, f5⟩
/-- the drawn rows: one fence or two, the second one far to the right -/
def RowOk (i : Nat) (ps : List (Int × Int)) : Prop := ∃ m lo sp st, (m = 3 ∨ m = 4 ∨ m = 5) ∧ 0 < lo ∧ lo + sp ≤ 1000000 ∧ st < 12 ∧ Star m (40000000 * (i : Int), 5 * (i : Int)) lo sp st m ps
def spRows (K : PySem.W.Frag) : Sp := fun vs H Q _ => ∃ u k, vs = [.ref u] ∧ Urn H u (k + 40) ∧
  ∀ H' L vs rows, But u H H' → Urn H' u k → H L = none → H' L = some (.lst vs) → Each (RowV K [u, L] H') vs rows → (rows.length = 1 ∨ rows.length = 2) → (∀ i ps, rows[i]? = some ps → RowOk i ps) → Q (.ref L) H'
theorem ok__law_rows (T : Txt K mg A) : FnOk P w K mg base CX0 4 A.f__law_rows A.d__law_rows ["store"] (spRows K) := by
  refine T._law_rows.F.ok sc__law_rows (fun vs H Q E h => ?_) (fun cdv A' outer s H vs Q E hr h => ?_)
  · obtain ⟨_, _, rfl, _⟩ := h; rfl
  · obtain ⟨u, k, rfl, hu, q⟩ := h
    refine ⟨_, (pss_cons (ps_set (i := 1) sc__law_rows.nd rfl (.inl rfl) (pe_lst pa_nil))
      (pss_cons (ps_for PassesOwn.never rfl (pi_range1 rfl T.n_range (pa_cons (pe_op op_add pe_int (pe_call (ok__law_draw T) (hr.mono (by decide)) (by rfl) T._law_draw.g T._law_draw.F.kp T._law_draw.b .nil pass0 (pa_cons (pv 0) (pa_cons pe_int pa_nil)))) pa_nil)) (pg_name (i := 2) sc__law_rows.nd rfl (.inl rfl)) (pss_cons (ps_asg (pe_call (ok__law_pick T) (hr.mono (by decide)) (by rfl) T._law_pick.g T._law_pick.F.kp T._law_pick.b .nil pass0 (pa_cons (pv 0) (pa_cons (pe_lst (pa_cons (pe_tup (pa_cons pe_int (pa_cons pe_int pa_nil))) (pa_cons (pe_tup (pa_cons pe_int (pa_cons pe_int pa_nil))) (pa_cons (pe_tup (pa_cons pe_int (pa_cons pe_int pa_nil))) (pa_cons (pe_tup (pa_cons pe_int (pa_cons pe_int pa_nil))) pa_nil))))) pa_nil))) (pg_tup rfl (pgs_cons (pg_name (i := 3) sc__law_rows.nd rfl (.inl rfl)) (pgs_cons (pg_name (i := 4) sc__law_rows.nd rfl (.inl rfl)) pgs_nil))))
      (pss_one (ps_expr (pe_bm F.plainAttrs_list F.slot_list_append F.type_list_append mt_append (pv 1) (pa_cons (pe_call (ok__law_star T) (hr.mono (by decide)) (by rfl) T._law_star.g T._law_star.F.kp T._law_star.b .nil pass0 (pa_cons (pv 0) (pa_cons (pe_op op_add pe_int (pe_call (ok__law_draw T) (hr.mono (by decide)) (by rfl) T._law_draw.g T._law_draw.F.kp T._law_draw.b .nil pass0 (pa_cons (pv 0) (pa_cons pe_int pa_nil)))) (pa_cons (pe_tup (pa_cons (pe_op op_mul (pe_op op_mul pe_int (pe_op op_pow pe_int pe_int)) (pv 2)) (pa_cons (pe_op op_mul pe_int (pv 2)) pa_nil))) (pa_cons (pv 3) (pa_cons (pv 4) pa_nil)))))) pa_nil))))))
      (pss_one (ps_ret (pv 1))))), ?_⟩
    refine seq_by fun N hN => ?_
    walk_at "vc"
    refine ⟨by decide, fun D hD => ?_⟩
    have s1 := same_upd (o := .lst []) hD
    subst hN
    refine seq_by fun N hN => ?_
    walk_at "vc"
    obtain ⟨uc, uys, hux⟩ := hu.at
    have hDu : D ≠ u := fun z => by rw [z, hux] at hD; cases hD
    refine ⟨_, rfl, u, 2, k + 39, rfl, by decide, by decide, (hu.same s1).mono (by omega), fun H2 f b2 hu2 f0 f1 => ⟨_, _, rfl, rfl, _, rfl, by omega, by omega, ?_⟩⟩
    have B2 : But u H H2 := (same_but s1).trans b2
    have hD2 : H2 D = some (.lst []) := b2.1 _ hDu _ upd_same
    refine for_range (n := (1 + f).toNat) (fun i σ H3 => ∃ o2 o3 o4 acc rows, σ = [some (.ref u), some (.ref D), o2, o3, o4] ∧ But u H H3 ∧ Urn H3 u (k + 39 - 13 * i) ∧ H3 D = some (.lst acc) ∧ Each (RowV K [u, D] H3) acc rows ∧ rows.length = i ∧ ∀ j ps, rows[j]? = some ps → RowOk j ps) ?_ ?_ ?_
    · exact ⟨none, none, none, [], [], rfl, B2, hu2.mono (by omega), hD2, ⟨rfl, fun i v x e => by simp at e⟩, rfl, fun j ps e => by simp at e⟩
    · rintro i σ H3 hi ⟨o2, o3, o4, acc, rows, rfl, B3, hu3, hD3, ea, hlen, hok⟩
      have hi : i < 2 := by omega
      rw [show ((0 : Int) + (i : Nat)) = (i : Nat) by omega]
      walk_at "vc"
      refine ⟨by decide, fun p0 e0 => ?_⟩
      have s0 := same_upd (o := .tup [.int (1), .int (3)]) e0
      have z0 : ZP K (upd H3 p0 (.tup [.int (1), .int (3)])) (.ref p0) (1, 3) := ⟨p0, rfl, st_of upd_same⟩
      generalize upd H3 p0 (.tup [.int (1), .int (3)]) = G0 at *
      have S0 := s0
      refine ⟨by decide, fun p1 e1 => ?_⟩
      have s1 := same_upd (o := .tup [.int (20), .int (80)]) e1
      have z1 : ZP K (upd G0 p1 (.tup [.int (20), .int (80)])) (.ref p1) (20, 80) := ⟨p1, rfl, st_of upd_same⟩
      have z0 := z0.same s1
      generalize upd G0 p1 (.tup [.int (20), .int (80)]) = G1 at *
      have S1 := S0.trans s1
      refine ⟨by decide, fun p2 e2 => ?_⟩
      have s2 := same_upd (o := .tup [.int (100), .int (900)]) e2
      have z2 : ZP K (upd G1 p2 (.tup [.int (100), .int (900)])) (.ref p2) (100, 900) := ⟨p2, rfl, st_of upd_same⟩
      have z0 := z0.same s2
      have z1 := z1.same s2
      generalize upd G1 p2 (.tup [.int (100), .int (900)]) = G2 at *
      have S2 := S1.trans s2
      refine ⟨by decide, fun p3 e3 => ?_⟩
      have s3 := same_upd (o := .tup [.int (100000), .int (900000)]) e3
      have z3 : ZP K (upd G2 p3 (.tup [.int (100000), .int (900000)])) (.ref p3) (100000, 900000) := ⟨p3, rfl, st_of upd_same⟩
      have z0 := z0.same s3
      have z1 := z1.same s3
      have z2 := z2.same s3
      generalize upd G2 p3 (.tup [.int (100000), .int (900000)]) = G3 at *
      have S3 := S2.trans s3
      refine ⟨by decide, fun d hd => ?_⟩
      have s8 := S3.trans (same_upd (o := .lst [.ref p0, .ref p1, .ref p2, .ref p3]) hd)
      obtain ⟨uc3, uys3, hux3⟩ := hu3.at
      have hdu : d ≠ u := fun z => by
        have := S3 _ _ hux3
        rw [← z, hd] at this
        cases this
      refine ⟨u, d, _, k + 38 - 13 * i, rfl, hdu, upd_same, (by show 0 < 4; decide), (by show 4 < 1073741824; decide), (hu3.same s8).mono (by omega), fun H4 v b4 hu4 hv => ?_⟩
      have B4 : But u H H4 := (B3.trans (same_but s8)).trans b4
      have kz : ∀ {v q}, ZP K G3 v q → ZP K H4 v q := fun {v q} h => (h.same (same_upd (o := .lst [.ref p0, .ref p1, .ref p2, .ref p3]) hd)).but b4 (s8 _ _ hux3)
      have hD4 : H4 D = some (.lst acc) := b4.1 _ hDu _ (s8 _ _ hD3)
      have ea4 : Each (RowV K [u, D] H4) acc rows := ea.imp fun v x z => (z.same s8).but (by simp) b4 (s8 _ _ hux3)
      obtain ⟨lo, sp, hlo, hls, hsp, hZ⟩ : ∃ lo sp : Int, 0 < lo ∧ lo + sp ≤ 1000000 ∧ 0 < sp ∧ ZP K H4 v (lo, sp) := by
        simp only [List.mem_cons, List.not_mem_nil, or_false] at hv
        rcases hv with rfl | rfl | rfl | rfl
        · exact ⟨_, _, by decide, by decide, by decide, kz z0⟩
        · exact ⟨_, _, by decide, by decide, by decide, kz z1⟩
        · exact ⟨_, _, by decide, by decide, by decide, kz z2⟩
        · exact ⟨_, _, by decide, by decide, by decide, kz z3⟩
      clear z0 z1 z2 z3 s0 s1 s2 s3 S0 S1 S2 S3 kz
      obtain ⟨zp, rfl, hz⟩ := hZ
      refine ⟨zp, rfl, _, hz, rfl, _, _, rfl, _, _, rfl, rfl, ?_⟩
      simp only [tBM]
      walk_at "vc"
      obtain ⟨uc4, uys4, hux4⟩ := hu4.at
      refine ⟨.inl ⟨rfl, acc, sl_of hD4⟩, u, 3, k + 37 - 13 * i, rfl, by decide, by decide, hu4.mono (by omega), fun H5 g b5 hu5 g0 g1 => ⟨_, rfl, ⟨by decide, by decide, by decide⟩, .inl ⟨by decide, by decide⟩, .inl ⟨by decide, by decide⟩, .inl ⟨by decide, by decide⟩, by decide, fun t ht => ?_⟩⟩
      obtain ⟨uc5, uys5, hux5⟩ := hu5.at
      obtain ⟨gn, rfl⟩ := Int.eq_ofNat_of_zero_le g0
      have e7 : (4 * 10 ^ Int.toNat 7 * (i : Int)) = 40000000 * (i : Int) := by
        have : (4 * 10 ^ Int.toNat 7 : Int) = 40000000 := by decide
        rw [this]
      rw [e7]
      have s6 := same_upd (o := .tup [.int (40000000 * (i : Int)), .int (5 * (i : Int))]) ht
      have ht6 : ZP K (upd H5 t (.tup [.int (40000000 * (i : Int)), .int (5 * (i : Int))])) (.ref t) (40000000 * (i : Int), 5 * (i : Int)) := ⟨t, rfl, st_of upd_same⟩
      have hD5 : H5 D = some (.lst acc) := b5.1 _ hDu _ hD4
      have ea5 : Each (RowV K [u, D] H5) acc rows := ea4.imp fun v x z => z.but (by simp) b5 hux4
      have B6 : But u H (upd H5 t (.tup [.int (40000000 * (i : Int)), .int (5 * (i : Int))])) := (B4.trans b5).trans (same_but s6)
      have hu6 := hu5.same s6
      have hD6 := s6 _ _ hD5
      have ea6 : Each (RowV K [u, D] (upd H5 t (.tup [.int (40000000 * (i : Int)), .int (5 * (i : Int))]))) acc rows := ea5.imp fun v x z => z.same s6
      have hux6 := s6 _ _ hux5
      generalize upd H5 t (.tup [.int (40000000 * (i : Int)), .int (5 * (i : Int))]) = H6 at *
      have em : (3 : Int) + (gn : Int) = ((3 + gn : Nat) : Int) := by omega
      rw [em]
      refine ⟨u, .ref t, _, 3 + gn, lo, sp, k + 39 - 13 * (i + 1), rfl, ht6, by omega, by omega, hlo, hsp, by omega, by omega, hu6.mono (by omega), fun H7 L ws st ps b7 hu7 hL hL7 eL hst star => ?_⟩
      have B7 := B6.trans b7
      have hD7 := b7.1 _ hDu _ hD6
      have ea7 : Each (RowV K [u, D] H7) acc rows := ea6.imp fun v x z => z.but (by simp) b7 hux6
      have hLD : L ≠ D := fun z => by rw [z, hD6] at hL; cases hL
      have hLu : L ≠ u := fun z => by rw [z, hux6] at hL; cases hL
      have hDH : H D = none := hD
      refine ⟨D, acc, _, rfl, rfl, hD7, by rw [ea7.1, hlen]; exact small1000 (by omega), ?_⟩
      refine ⟨but_keep B7 hDH hDu, urn_keep hu B7 hu7 hDH hDu, _, upd_same, rows ++ [ps], ?_, by rw [List.length_append, hlen]; rfl, fun j qs hj => ?_⟩
      · exact each_snoc (ea7.imp fun v x z => z.keep (by simp) hD7) (RowV.keep (by simp) hD7 ⟨L, ws, rfl, hL7, by simp [hLu, hLD], eL⟩)
      · by_cases c : j < rows.length
        · rw [List.getElem?_append_left c] at hj
          exact hok j qs hj
        · have hj2 := (List.getElem?_eq_some_iff.mp hj).1
          rw [List.length_append] at hj2
          simp at hj2
          have ej : j = rows.length := by omega
          subst ej
          rw [List.getElem?_append_right (Nat.le_refl _), Nat.sub_self] at hj
          obtain rfl := Option.some.inj hj
          rw [hlen]
          exact ⟨3 + gn, lo, sp, st, by omega, hlo, hls, hst, star⟩
    · rintro σ H3 ⟨o2, o3, o4, acc, rows, rfl, B3, hu3, hD3, ea, hlen, hok⟩
      show N _ _
      subst hN
      walk_at "vc"
      have hDH : H D = none := hD
      exact q H3 D acc rows B3 (hu3.mono (by omega)) hD hD3 ea (by omega) hok
end
end Odd
namespace Odd
open PySem PySem.Spec PyProof.Rows L2
local macro_rules | `(tactic| walk_at "vc") => `(tactic| simp only [tSeq, tAsg, gName, tCB, tCons, tNil, tVar, tC, tOp, tUn, rI0, rI, rU, tTup, tLst, tIfS, tTest, tB, tRet, tNext, rGcd, L2.start, List.map, List.set, List.replicate, List.cons_append, List.nil_append, List.length_cons, List.length_nil, List.getElem?_cons_succ, List.getElem?_cons_zero, Option.some.injEq, exists_eq_left', exists_eq_left, List.append_nil, List.cons.injEq, V.int.injEq, exists_and_left, and_true, true_and, and_assoc, exists_const, V.bl.injEq, V.ref.injEq, Nat.sub_self, Nat.reduceAdd, Nat.reduceSub, List.replicate_succ, List.replicate_zero, tAnd, tOr, tNot, tAndV, tOrV, tNotV, tIf, tCall, tCallK, tDrop, rEq, rNe, decide_eq_true_eq, Bool.not_eq_true', decide_eq_false_iff_not, Bool.false_eq_true, if_true, if_false, reduceIte, reduceCtorEq, tMkLow, tRaiseLow, rIsB, rNotB, tBreak, tPar, gSub, rSetL, tChain, gTup, gCons, gNil, gSeq, cx_K, cx_Kn, optV, V.str.injEq, Bool.not_true, Bool.not_false, false_and, and_false, or_false, false_or, exists_false, tCallN, tCallS, tPairs])
section
variable {w : World} {K : PySem.W.Frag} {mg : Str → Option Value} {base : Heap} {A : Ads}
theorem pi_listK {X : Cx} {K : PySem.W.Frag} {tg l : Expr} {tl : TE} (e : X.K = K) (hl : PE X l tl) : PI X tg l (iList K tl) := by subst e; exact pi_list hl
/-- integers divided by one -/
def scP (un : Int) (p : Int × Int) : P2 := (low p.1 un, low p.2 un)
theorem FenceAt.keepL {C : Addr} {H : Hp} {D : Addr} {acc acc' : List V} {y : Addr} {ps : List P2} (hD : H D = some (.lst acc)) (h : FenceAt K C H y ps) : FenceAt K C (upd H D (.lst acc')) y ps := by
  obtain ⟨dx, gs, a, us, b, ws, h1, h2, h3, h4, h5, h6, h7⟩ := h
  have ne : y ≠ D := fun z => by
    rw [z, hD] at h1
    cases h1
  exact ⟨dx, gs, a, us, b, ws, by rw [upd_ne ne]; exact h1, h2, keep_tup hD h3, h4.imp fun v z => pp_keep hD, h5, keep_tup hD h6, h7.imp fun v z => sd_keep hD⟩
theorem FenceV.keepL {C : Addr} {H : Hp} {D : Addr} {acc acc' : List V} {v : V} {ps : List P2} (hD : H D = some (.lst acc)) (h : FenceV K C H v ps) : FenceV K C (upd H D (.lst acc')) v ps := by
  obtain ⟨x, e, h⟩ := h
  exact ⟨x, e, h.keepL hD⟩
theorem pp_pt {H : Hp} {v : V} {p : P2} (h : PP K H v p) (c : CanonP p) : Pt K H v p := by
  obtain ⟨a, x, y, rfl, ha, hx, hy⟩ := h
  exact ⟨a, x, y, rfl, .inr ha, hx.num c.1, hy.num c.2⟩
/-- a new object and its dict are laid -/
theorem same_two {H : Hp} {x dx : Addr} {o o' : HO} (hx : H x = none) (hd : H dx = none) : Same H (upd (upd H dx o) x o') := fun c u e => by
  rw [upd_ne (ne_of_none e hx), upd_ne (ne_of_none e hd)]
  exact e
structure LotOk (un : Int) (rows : List (List (Int × Int))) : Prop where
  lot : WholeLot (rows.map fun r => r.map (scP un))
  whole : ∀ r ∈ rows, ∃ N, Whole N (r.map (scP un)) ∧ 0 < (areaL (sideL (r.map (scP un)))).1
  many : (numP (rows.map fun r => r.map (scP un)) rows.length).length ≤ 60
def spLawLot (K : PySem.W.Frag) (CF CL : Addr) : Sp := fun vs H Q _ => ∃ D X us un rows, vs = [.ref D, .int un] ∧ H D = some (.lst us) ∧ Each (RowV K X H) us rows ∧ 0 < un ∧ un.natAbs < 2 ^ 8000 ∧ LotOk un rows ∧
  ∀ H' x, Same H H' → H x = none → LotAt K CF CL H' x (rows.map fun r => r.map (scP un)) → Q (.ref x) H'
theorem ok__law_lot (T : Txt K mg A) : FnOk PG w K mg base CX0 12 A.f__law_lot A.d__law_lot ["rows", "under"] (spLawLot K A.C_Fence A.C_Lot) := by
  refine T._law_lot.F.ok sc__law_lot (fun vs H Q E h => ?_) (fun cdv A' outer s H vs Q E hr h => ?_)
  · obtain ⟨_, _, _, _, _, rfl, _⟩ := h; rfl
  · obtain ⟨D, X, us, un, rows, rfl, hD, he, hu0, hub, ok, q⟩ := h
    refine ⟨_, (pss_one (ps_ret (pe_make T.mk_Lot (ok_Lot_init T) (hr.mono (by decide)) (by rfl) T.m_Lot T.Lot_init.b .nil pass0 (pa_cons (pe_lc (own := [("row", 3)]) (g := gName 3) (tt := tYes) rfl sc__law_lot.nd (pi_list (pv 0)) (blkOk_by (N := ["rows", "under", "corner", "row"]) (sc := defScope s__law_lot) (by decide +kernel)) (fun _ _ _ _ _ => pg_name (i := 3) sc__law_lot.nd rfl (Or.inl rfl)) (fun _ _ _ _ _ => pts_nil) (fun _ _ _ _ _ => pe_make T.mk_Fence (ok_Fence_init T) (hr.mono (by decide)) (by rfl) T.m_Fence T.Fence_init.b .nil pass0 (pa_cons (pe_lc (own := [("corner", 2)]) (g := gName 2) (tt := tYes) rfl sc__law_lot.nd (pi_listK (K := K) rfl (pv 3)) (blkOk_by (N := ["rows", "under", "corner", "row"]) (sc := { kind := .function, names := [(".0", .local), ("row", .local), ("Fence", .globalImplicit), ("under", .cell)], isGenerator := false, isCoroutine := false }) (by decide +kernel)) (fun _ _ _ _ _ => pg_name (i := 2) sc__law_lot.nd rfl (Or.inl rfl)) (fun _ _ _ _ _ => pts_nil) (fun _ _ _ _ _ => pe_call (ok__law_pt T) (hr.mono (by decide)) (by rfl) T._law_pt.g T._law_pt.F.kp T._law_pt.b .nil pass0 (pa_cons (pv 2) (pa_cons (pv 1) pa_nil)))) pa_nil))) pa_nil)))), ?_⟩
    walk_at "vc"
    simp only [tMake]
    refine ⟨_, rfl, D, rfl, ⟨us, sl_of hD⟩, fun L hL => lc_list (xs := us) (fun i H3 => Same H H3 ∧ ∃ acc, H3 L = some (.lst acc) ∧ Each (FenceV K A.C_Fence H3) acc ((rows.take i).map fun r => r.map (scP un))) ⟨same_upd hL, _, upd_same, rfl, fun i v x e => by simp at e⟩ (fun i H3 _ h => sl_of (h.1 _ _ hD)) ?_ ?_⟩
    · rintro i x H3 hx ⟨s3, acc, e3, ea⟩
      obtain ⟨r, hr, a, ws, rfl, ha, _, hw⟩ := he.of hx
      have ha3 := s3 _ _ ha
      obtain ⟨N, wh, hpos⟩ := ok.whole r (List.mem_of_getElem? hr)
      have wl := wh.len
      rw [List.length_map] at wl
      refine ⟨rfl, ?_⟩
      simp only [tYes, if_true, tMake]
      refine ⟨_, rfl, a, rfl, ⟨ws, sl_of ha3⟩, fun L2 hL2 => lc_list (xs := ws) (fun j H4 => Same H3 H4 ∧ ∃ acc2, H4 L2 = some (.lst acc2) ∧ Each (PP K H4) acc2 ((r.take j).map (scP un))) ⟨same_upd hL2, _, upd_same, rfl, fun i v x e => by simp at e⟩ (fun j H4 _ h => sl_of (h.1 _ _ ha3)) ?_ ?_⟩
      · rintro j y H4 hy ⟨s4, acc2, e4, ea2⟩
        obtain ⟨p, hp, z, rfl, hz⟩ := hw.of hy
        refine ⟨rfl, ?_⟩
        simp only [tYes, if_true]
        refine ⟨_, rfl, _, rfl, z, p.1, p.2, un, rfl, same_tup (s3.trans s4) hz, by omega, hub, fun H5 v s5 hv => ⟨acc2, s5 _ _ e4, ?_, fun c o ec => ?_, _, upd_same, ?_⟩⟩
        · rw [ea2.1, List.length_map, List.length_take]
          exact small1000 (by omega)
        · rw [upd_ne (ne_of_none ec hL2)]
          exact s5 _ _ (s4 _ _ ec)
        · rw [List.take_add_one, hp, List.map_append]
          exact each_snoc (ea2.imp fun v x z => pp_keep (s5 _ _ e4) (z.same s5)) (pp_keep (s5 _ _ e4) hv)
      · rintro H4 ⟨s4, acc2, e4, ea2⟩
        rw [hw.1, List.take_length] at ea2
        intro y dy hy hdy hne
        have s5 := same_two (o := .own y) (o' := .ins A.C_Fence dy []) hy hdy
        refine ⟨y, dy, L2, acc2, r.map (scP un), N, rfl, upd_same, .inl (sl_of (s5 _ _ e4)), ?_, wh, hpos, fun H6 kp hF => ⟨rfl, ?_⟩⟩
        · refine ⟨ea2.1, fun i v x e1 e2 => pp_pt ((ea2.2 i v x e1 e2).same s5) ((wh.pts x (List.mem_of_getElem? e2)).1)⟩
        · have s6 : Same H4 H6 := fun c o e => kp c o (ne_of_none e hy) (s5 _ _ e)
          have s36 := s4.trans s6
          refine ⟨acc, s36 _ _ e3, ?_, fun c o ec => ?_, _, upd_same, ?_⟩
          · rw [ea.1, List.length_map, List.length_take]
            have := ok.lot.many
            rw [List.length_map] at this
            exact small1000 (by omega)
          · rw [upd_ne (ne_of_none ec hL)]
            exact s36 _ _ (s3 _ _ ec)
          · rw [List.take_add_one, hr, List.map_append]
            exact each_snoc (ea.imp fun v x z => (z.same s36).keepL (s36 _ _ e3)) (FenceV.keepL (s36 _ _ e3) ⟨y, rfl, hF⟩)
    · rintro H3 ⟨s3, acc, e3, ea⟩
      rw [he.1, List.take_length] at ea
      intro x dx hx hdx hne
      have s4 := same_two (o := .own x) (o' := .ins A.C_Lot dx []) hx hdx
      refine ⟨x, dx, L, acc, _, rfl, upd_same, .inl (sl_of (s4 _ _ e3)), ea.imp fun v x z => z.same s4, ok.lot, by rw [List.length_map]; exact ok.many, fun H6 kp hLt => ⟨rfl, ?_⟩⟩
      refine q H6 x (fun c o e => kp c o (ne_of_none (s3 _ _ e) hx) (s4 _ _ (s3 _ _ e))) ?_ hLt
      cases e : H x with
      | none => rfl
      | some o =>
        rw [s3 x o e] at hx
        cases hx
end
end Odd
namespace Odd
open PySem PySem.Spec PyProof.Rows L2
local macro_rules | `(tactic| walk_at "vc") => `(tactic| simp only [tSeq, tAsg, gName, tCB, tCons, tNil, tVar, tC, tOp, tUn, rI0, rI, rU, tTup, tLst, tIfS, tTest, tB, tRet, tNext, rGcd, L2.start, List.map, List.set, List.replicate, List.cons_append, List.nil_append, List.length_cons, List.length_nil, List.getElem?_cons_succ, List.getElem?_cons_zero, Option.some.injEq, exists_eq_left', exists_eq_left, List.append_nil, List.cons.injEq, V.int.injEq, exists_and_left, and_true, true_and, and_assoc, exists_const, V.bl.injEq, V.ref.injEq, Nat.sub_self, Nat.reduceAdd, Nat.reduceSub, List.replicate_succ, List.replicate_zero, tAnd, tOr, tNot, tAndV, tOrV, tNotV, tIf, tCall, tCallK, tDrop, rEq, rNe, decide_eq_true_eq, Bool.not_eq_true', decide_eq_false_iff_not, Bool.false_eq_true, if_true, if_false, reduceIte, reduceCtorEq, tMkLow, tRaiseLow, rIsB, rNotB, tBreak, tPar, gSub, rSetL, tChain, gTup, gCons, gNil, gSeq, cx_K, cx_Kn, optV, V.str.injEq, Bool.not_true, Bool.not_false, false_and, and_false, or_false, false_or, exists_false, tCallN, tCallS, tPairs])
section
variable {w : World} {K : PySem.W.Frag} {mg : Str → Option Value} {base : Heap} {A : Ads}
def spMirrorSide (K : PySem.W.Frag) : Sp := fun vs H Q _ => ∃ D X us rows v m n ps, vs = [.ref D, v] ∧ H D = some (.lst us) ∧ Each (RowV K X H) us rows ∧ NumV K H v (m, n) ∧ rows[m]? = some ps ∧ n < ps.length ∧ ps.length ≤ 40 ∧
  ∀ H' u, Same H H' → NumV K H' u (m, (2 * ps.length - 2 - n) % ps.length) → Q u H'
theorem ok__law_mirror_side (T : Txt K mg A) : FnOk PG w K mg base CX0 1 A.f__law_mirror_side A.d__law_mirror_side ["rows", "at"] (spMirrorSide K) := by
  refine T._law_mirror_side.F.ok sc__law_mirror_side (fun vs H Q E h => ?_) (fun cdv A' outer s H vs Q E hr h => ?_)
  · obtain ⟨_, _, _, _, _, _, _, _, rfl, _⟩ := h; rfl
  · obtain ⟨D, X, us, rows, v, m, n, ps, rfl, hD, he, ⟨a, rfl, ha⟩, hps, hn, h40, q⟩ := h
    refine ⟨_, (pss_cons (ps_set (i := 2) sc__law_mirror_side.nd rfl (.inl rfl) (pe_callB call_len_seq (by rfl) T.n_len bt_len (pa_cons (pe_ix ix_list (pv 0) (pe_ix ix_tup (pv 1) pe_int (fun _ _ => rfl)) (fun _ _ => rfl)) pa_nil)))
      (pss_one (ps_ret (pe_tup (pa_cons (pe_ix ix_tup (pv 1) pe_int (fun _ _ => rfl)) (pa_cons (pe_op op_mod (pe_callTy call_int1 (by rfl) T.n_int bt_int (pa_cons (pe_op op_sub (pe_op op_sub (pv 2) pe_int) (pe_ix ix_tup (pv 1) pe_int (fun _ _ => rfl))) pa_nil)) (pv 2)) pa_nil)))))), ?_⟩
    refine seq_by fun N hN => ?_
    walk_at "vc"
    obtain ⟨vr, hvr, b, ws, rfl, hb, _, hw⟩ := he.at hps
    have lw := hw.1
    refine ixT (i := 0) ha rfl ?_
    refine ixL (sl_of hD) (atI_nat hvr) ?_
    refine ⟨b, rfl, ws, .inl (sl_of hb), ?_⟩
    rw [lw]
    subst hN
    walk_at "vc"
    refine ixT (i := 0) ha rfl ?_
    refine ixT (i := 1) ha rfl ?_
    refine ⟨_, rfl, by omega, by decide, fun t ht => q _ _ (same_upd ht) ⟨t, rfl, ?_⟩⟩
    have e : ((ps.length : Int) - 2 - (n : Int)) % (ps.length : Int) = (((2 * ps.length - 2 - n) % ps.length : Nat) : Int) := by
      rw [Int.natCast_emod, show ((2 * ps.length - 2 - n : Nat) : Int) = ((ps.length : Int) - 2 - n) + ps.length by omega, Int.add_emod_right]
    show SqT K _ t [.int (m : Nat), .int (((2 * ps.length - 2 - n) % ps.length : Nat) : Int)]
    rw [← e]
    exact st_of upd_same
def sgnZ (a b c d : Int × Int) (r : Int × Int) : Int :=
  -r.1 * r.1 * (a.1 * c.1 + a.2 * c.2) * (b.1 * d.1 + b.2 * d.2) - (r.2 * (b.1 * c.2 - b.2 * c.1) - r.1 * (b.1 * c.1 + b.2 * c.2)) * (r.2 * (a.1 * d.2 - a.2 * d.1) + r.1 * (a.1 * d.1 + a.2 * d.2))
def Sm28 (p : Int × Int) : Prop := p.1.natAbs < 2 ^ 28 ∧ p.2.natAbs < 2 ^ 28
def spSgn (K : PySem.W.Frag) : Sp := fun vs H Q _ => ∃ l v x y z t a b c d r, vs = [.ref l, v] ∧ SqL K H l [x, y, z, t] ∧ ZP K H x a ∧ ZP K H y b ∧ ZP K H z c ∧ ZP K H t d ∧ ZP K H v r ∧ Sm28 a ∧ Sm28 b ∧ Sm28 c ∧ Sm28 d ∧ 0 < r.1 ∧ r.1 ≤ 3 ∧ 0 < r.2 ∧ r.2 ≤ 3 ∧ Q (.int (sgnZ a b c d r)) H
theorem ok__law_sign (T : Txt K mg A) : FnOk PG w K mg base CX0 1 A.f__law_sign A.d__law_sign ["vectors", "ratio"] (spSgn K) := by
  refine T._law_sign.F.ok sc__law_sign (fun vs H Q E h => ?_) (fun cdv A' outer s H vs Q E hr h => ?_)
  · obtain ⟨_, _, _, _, _, _, _, _, _, _, _, rfl, _⟩ := h; rfl
  · obtain ⟨l, v, x, y, z, t, a, b, c, d, r, rfl, hl, ⟨xa, rfl, hx⟩, ⟨ya, rfl, hy⟩, ⟨za, rfl, hz⟩, ⟨ta, rfl, ht⟩, ⟨ra, rfl, hr'⟩, ⟨ma1, ma2⟩, ⟨mb1, mb2⟩, ⟨mc1, mc2⟩, ⟨md1, md2⟩, r1, r2, r3, r4, q⟩ := h
    refine ⟨_, (pss_cons (ps_asg (pv 0) (pg_seq2 rfl (pgs_cons (pg_name (i := 2) sc__law_sign.nd rfl (.inl rfl)) (pgs_cons (pg_name (i := 3) sc__law_sign.nd rfl (.inl rfl)) (pgs_cons (pg_name (i := 4) sc__law_sign.nd rfl (.inl rfl)) (pgs_cons (pg_name (i := 5) sc__law_sign.nd rfl (.inl rfl)) pgs_nil))))))
      (pss_cons (ps_asg (pv 1) (pg_tup rfl (pgs_cons (pg_name (i := 6) sc__law_sign.nd rfl (.inl rfl)) (pgs_cons (pg_name (i := 7) sc__law_sign.nd rfl (.inl rfl)) pgs_nil))))
      (pss_cons (ps_par (i := 8) (j := 9) rfl sc__law_sign.nd rfl rfl (by decide) rfl rfl (pa_cons (pe_op op_add (pe_op op_mul (pe_ix ix_tup (pv 2) pe_int (fun _ _ => rfl)) (pe_ix ix_tup (pv 4) pe_int (fun _ _ => rfl))) (pe_op op_mul (pe_ix ix_tup (pv 2) pe_int (fun _ _ => rfl)) (pe_ix ix_tup (pv 4) pe_int (fun _ _ => rfl)))) (pa_cons (pe_op op_add (pe_op op_mul (pe_ix ix_tup (pv 3) pe_int (fun _ _ => rfl)) (pe_ix ix_tup (pv 5) pe_int (fun _ _ => rfl))) (pe_op op_mul (pe_ix ix_tup (pv 3) pe_int (fun _ _ => rfl)) (pe_ix ix_tup (pv 5) pe_int (fun _ _ => rfl)))) pa_nil)) rfl)
      (pss_cons (ps_par (i := 10) (j := 11) rfl sc__law_sign.nd rfl rfl (by decide) rfl rfl (pa_cons (pe_op op_add (pe_op op_mul (pe_ix ix_tup (pv 3) pe_int (fun _ _ => rfl)) (pe_ix ix_tup (pv 4) pe_int (fun _ _ => rfl))) (pe_op op_mul (pe_ix ix_tup (pv 3) pe_int (fun _ _ => rfl)) (pe_ix ix_tup (pv 4) pe_int (fun _ _ => rfl)))) (pa_cons (pe_op op_add (pe_op op_mul (pe_ix ix_tup (pv 2) pe_int (fun _ _ => rfl)) (pe_ix ix_tup (pv 5) pe_int (fun _ _ => rfl))) (pe_op op_mul (pe_ix ix_tup (pv 2) pe_int (fun _ _ => rfl)) (pe_ix ix_tup (pv 5) pe_int (fun _ _ => rfl)))) pa_nil)) rfl)
      (pss_cons (ps_par (i := 12) (j := 13) rfl sc__law_sign.nd rfl rfl (by decide) rfl rfl (pa_cons (pe_op op_sub (pe_op op_mul (pe_ix ix_tup (pv 3) pe_int (fun _ _ => rfl)) (pe_ix ix_tup (pv 4) pe_int (fun _ _ => rfl))) (pe_op op_mul (pe_ix ix_tup (pv 3) pe_int (fun _ _ => rfl)) (pe_ix ix_tup (pv 4) pe_int (fun _ _ => rfl)))) (pa_cons (pe_op op_sub (pe_op op_mul (pe_ix ix_tup (pv 2) pe_int (fun _ _ => rfl)) (pe_ix ix_tup (pv 5) pe_int (fun _ _ => rfl))) (pe_op op_mul (pe_ix ix_tup (pv 2) pe_int (fun _ _ => rfl)) (pe_ix ix_tup (pv 5) pe_int (fun _ _ => rfl)))) pa_nil)) rfl)
      (pss_one (ps_ret (pe_op op_sub (pe_op op_mul (pe_op op_mul (pe_op op_mul (pe_un un_neg (pv 6)) (pv 6)) (pv 8)) (pv 9)) (pe_op op_mul (pe_op op_sub (pe_op op_mul (pv 7) (pv 12)) (pe_op op_mul (pv 6) (pv 10))) (pe_op op_add (pe_op op_mul (pv 7) (pv 13)) (pe_op op_mul (pv 6) (pv 11)))))))))))), ?_⟩
    refine seq_by fun N hN => ?_
    walk_at "vc"
    refine ⟨_, .inl hl, rfl, _, _, rfl, _, _, rfl, _, _, rfl, _, _, rfl, rfl, ?_⟩
    subst hN
    refine seq_by fun N hN => ?_
    walk_at "vc"
    refine ⟨_, hr', rfl, _, _, rfl, _, _, rfl, rfl, ?_⟩
    subst hN
    refine seq_by fun N hN => ?_
    walk_at "vc"
    refine ixT hx rfl ?_
    refine ixT hz rfl ?_
    refine ⟨_, rfl, _, rfl, .inl ⟨by omega, by omega⟩, ?_⟩
    refine ixT hx rfl ?_
    refine ixT hz rfl ?_
    refine ⟨_, rfl, _, rfl, .inl ⟨by omega, by omega⟩, ?_⟩
    refine ixT hy rfl ?_
    refine ixT ht rfl ?_
    refine ⟨_, rfl, _, rfl, .inl ⟨by omega, by omega⟩, ?_⟩
    refine ixT hy rfl ?_
    refine ixT ht rfl ?_
    refine ⟨_, rfl, _, rfl, .inl ⟨by omega, by omega⟩, ?_⟩
    subst hN
    refine seq_by fun N hN => ?_
    walk_at "vc"
    refine ixT hy rfl ?_
    refine ixT hz rfl ?_
    refine ⟨_, rfl, _, rfl, .inl ⟨by omega, by omega⟩, ?_⟩
    refine ixT hy rfl ?_
    refine ixT hz rfl ?_
    refine ⟨_, rfl, _, rfl, .inl ⟨by omega, by omega⟩, ?_⟩
    refine ixT hx rfl ?_
    refine ixT ht rfl ?_
    refine ⟨_, rfl, _, rfl, .inl ⟨by omega, by omega⟩, ?_⟩
    refine ixT hx rfl ?_
    refine ixT ht rfl ?_
    refine ⟨_, rfl, _, rfl, .inl ⟨by omega, by omega⟩, ?_⟩
    subst hN
    refine seq_by fun N hN => ?_
    walk_at "vc"
    refine ixT hy rfl ?_
    refine ixT hz rfl ?_
    refine ⟨_, rfl, _, rfl, .inl ⟨by omega, by omega⟩, ?_⟩
    refine ixT hy rfl ?_
    refine ixT hz rfl ?_
    refine ⟨_, rfl, _, rfl, .inl ⟨by omega, by omega⟩, ?_⟩
    refine ixT hx rfl ?_
    refine ixT ht rfl ?_
    refine ⟨_, rfl, _, rfl, .inl ⟨by omega, by omega⟩, ?_⟩
    refine ixT hx rfl ?_
    refine ixT ht rfl ?_
    refine ⟨_, rfl, _, rfl, .inl ⟨by omega, by omega⟩, ?_⟩
    subst hN
    walk_at "vc"
    have m2 : ∀ {i j : Int}, i.natAbs < 2 ^ 28 → j.natAbs < 2 ^ 28 → -(2 ^ 56) < i * j ∧ i * j < 2 ^ 56 := fun {i j} h1 h2 => by
      have h3 : (i * j).natAbs < 2 ^ 28 * 2 ^ 28 := by
        rw [Int.natAbs_mul]
        exact Nat.mul_lt_mul'' h1 h2
      have h4 : (2 : Nat) ^ 28 * 2 ^ 28 = 2 ^ 56 := by decide
      rw [h4] at h3
      omega
    have x1 := m2 ma1 mc1; have x2 := m2 ma2 mc2; have x3 := m2 mb1 md1; have x4 := m2 mb2 md2
    have x5 := m2 mb1 mc2; have x6 := m2 mb2 mc1; have x7 := m2 mb1 mc1; have x8 := m2 mb2 mc2
    have x9 := m2 ma1 md2; have x10 := m2 ma2 md1; have x11 := m2 ma1 md1; have x12 := m2 ma2 md2
    unfold sgnZ at q
    obtain ⟨p, o⟩ := r
    dsimp only at r1 r2 r3 r4 q ⊢
    generalize a.1 * c.1 + a.2 * c.2 = A1 at *
    generalize hA2 : b.1 * d.1 + b.2 * d.2 = A2 at *
    generalize hA3 : b.1 * c.2 - b.2 * c.1 = A3 at *
    generalize hA4 : b.1 * c.1 + b.2 * c.2 = A4 at *
    generalize hA5 : a.1 * d.2 - a.2 * d.1 = A5 at *
    generalize hA6 : a.1 * d.1 + a.2 * d.2 = A6 at *
    have y2 : -(2 ^ 58) < A2 ∧ A2 < 2 ^ 58 := by omega
    have y5 : -(2 ^ 58) < A5 ∧ A5 < 2 ^ 58 := by omega
    have y6 : -(2 ^ 58) < A6 ∧ A6 < 2 ^ 58 := by omega
    have hp : p = 1 ∨ p = 2 ∨ p = 3 := by omega
    have ho : o = 1 ∨ o = 2 ∨ o = 3 := by omega
    refine ⟨.inl ⟨by omega, by omega⟩, .inl ?_, .inr ⟨by omega, by omega⟩, .inl ⟨by omega, by omega⟩, .inl ⟨by omega, by omega⟩, .inl ⟨by omega, by omega⟩, .inl ⟨by omega, by omega⟩, .inr ?_, q⟩
    · rcases hp with rfl | rfl | rfl <;> decide
    · rcases hp with rfl | rfl | rfl <;> rcases ho with rfl | rfl | rfl <;> exact ⟨by omega, by omega⟩
end
end Odd
namespace Odd
open PySem PySem.Spec PyProof.Rows L2
local macro_rules | `(tactic| walk_at "vc") => `(tactic| simp only [tSeq, tAsg, gName, tCB, tCons, tNil, tVar, tC, tOp, tUn, rI0, rI, rU, tTup, tLst, tIfS, tTest, tB, tRet, tNext, rGcd, L2.start, List.map, List.set, List.replicate, List.cons_append, List.nil_append, List.length_cons, List.length_nil, List.getElem?_cons_succ, List.getElem?_cons_zero, Option.some.injEq, exists_eq_left', exists_eq_left, List.append_nil, List.cons.injEq, V.int.injEq, exists_and_left, and_true, true_and, and_assoc, exists_const, V.bl.injEq, V.ref.injEq, Nat.sub_self, Nat.reduceAdd, Nat.reduceSub, List.replicate_succ, List.replicate_zero, tAnd, tOr, tNot, tAndV, tOrV, tNotV, tIf, tCall, tCallK, tDrop, rEq, rNe, decide_eq_true_eq, Bool.not_eq_true', decide_eq_false_iff_not, Bool.false_eq_true, if_true, if_false, reduceIte, reduceCtorEq, tMkLow, tRaiseLow, rIsB, rNotB, tBreak, tPar, gSub, rSetL, tChain, gTup, gCons, gNil, gSeq, cx_K, cx_Kn, optV, V.str.injEq, Bool.not_true, Bool.not_false, false_and, and_false, or_false, false_or, exists_false, tCallN, tCallS, tPairs])
section
variable {w : World} {K : PySem.W.Frag} {mg : Str → Option Value} {base : Heap} {A : Ads}
theorem call_isiE {X : Cx} {K : PySem.W.Frag} (e : X.K = K) : CallR X (.builtin "isinstance") (rIsi K) := by subst e; exact call_isi
def spLawNum (K : PySem.W.Frag) : Sp := fun vs H Q _ => ∃ v q, vs = [v] ∧ Pr K H v q ∧ Canon q ∧ RetV H (.bl true) Q
theorem ok__law_is_number (T : Txt K mg A) : FnOk PG w K mg base CX0 2 A.f__law_is_number A.d__law_is_number ["value"] (spLawNum K) := by
  refine T._law_is_number.F.ok sc__law_is_number (fun vs H Q E h => ?_) (fun cdv A' outer s H vs Q E hr h => ?_)
  · obtain ⟨_, _, rfl, _⟩ := h; rfl
  · obtain ⟨v, q, rfl, ⟨p, rfl, hp⟩, hc, ret⟩ := h
    refine ⟨_, (pss_cons (ps_if (PW.pt (pw_or (pt_not (pt_val (pe_callB call_isi (by rfl) T.n_isinstance bt_isinstance (pa_cons (pv 0) (pa_cons (pe_bltn (v := .ty "tuple") (by rfl) T.n_tuple bt_tuple rfl) pa_nil))))) (pw_or1 (pt_cmpR op_ne (pe_callB call_len_seq (by rfl) T.n_len bt_len (pa_cons (pv 0) pa_nil)) pe_int (nomark _))))) (pss_one (ps_ret pe_bl)) pss_nil)
      (pss_cons (ps_if (pt_not (pt_val (pe_callB (cr_all rfl) (by rfl) T.n_all bt_all (pa_cons (pe_lc (own := [("part", 1)]) (g := gName 1) (tt := tYes) rfl sc__law_is_number.nd (pi_tup (pv 0)) (blkOk_by (N := ["value", "part"]) (sc := defScope s__law_is_number) (by decide +kernel)) (fun _ _ _ _ _ => pg_name (i := 1) sc__law_is_number.nd rfl (Or.inl rfl)) (fun _ _ _ _ _ => pts_nil) (fun _ _ _ _ _ => (pe_and (pe_callB (call_isiE (K := K) rfl) (by rfl) T.n_isinstance bt_isinstance (pa_cons (pv 1) (pa_cons (pe_bltn (v := .ty "int") (by rfl) T.n_int bt_int rfl) pa_nil))) (pe_one (pe_not (pe_callB (call_isiE (K := K) rfl) (by rfl) T.n_isinstance bt_isinstance (pa_cons (pv 1) (pa_cons (pe_bltn (v := .ty "bool") (by rfl) T.n_bool bt_bool rfl) pa_nil)))))))) pa_nil)))) (pss_one (ps_ret pe_bl)) pss_nil)
      (pss_one (ps_ret (pe_and (pe_cmpR op_ge (pe_ix ix_tup (pv 0) pe_int (fun _ _ => rfl)) pe_int (nomark _)) (pe_one (pe_cmpR op_eq (pe_call (ok__law_gcd T) (hr.mono (by decide)) (by rfl) T._law_gcd.g T._law_gcd.F.kp T._law_gcd.b .nil pass0 (pa_cons (pe_ix ix_tup (pv 0) pe_int (fun _ _ => rfl)) (pa_cons (pe_ix ix_tup (pv 0) pe_int (fun _ _ => rfl)) pa_nil))) pe_int (nomark _)))))))), ?_⟩
    refine seq_by fun N hN => ?_
    walk_at "vc"
    refine ty_tuple (.tup hp) ⟨_, rfl, ?_⟩
    refine iteF' rfl ⟨[.int q.1, .int q.2], .inr hp, rfl, ?_⟩
    rw [if_neg (show ¬ ¬ ((([V.int q.1, V.int q.2] : List V).length : Nat) : Int) = 2 from fun z => z rfl)]
    subst hN
    refine seq_by fun N hN => ?_
    walk_at "vc"
    refine ⟨_, rfl, p, rfl, ⟨_, hp⟩, fun D hD => lc_tup (xs := [.int q.1, .int q.2]) (fun i H3 => Same H H3 ∧ H3 D = some (.lst ((List.replicate i true).map V.bl))) ⟨same_upd hD, upd_same⟩ (fun i H3 _ h => same_tup h.1 hp) ?_ ?_⟩
    · rintro i x H3 hx ⟨s3, e3⟩
      obtain ⟨z, rfl⟩ : ∃ z, x = V.int z := by
        rcases i with _ | _ | i
        · exact ⟨_, (Option.some.inj hx).symm⟩
        · exact ⟨_, (Option.some.inj hx).symm⟩
        · simp at hx
      have hi := (List.getElem?_eq_some_iff.mp hx).1
      refine ⟨rfl, ?_⟩
      simp only [tYes, if_true]
      show tAndV _ _ [some (.ref p), some (.int z)] H3 _
      walk_at "vc"
      refine ty_int (.int z) ?_
      refine ⟨_, rfl, ?_⟩
      rw [if_pos (by decide)]
      refine ty_bool (.int z) ⟨_, rfl, ?_⟩
      refine ⟨_, e3, ?_, fun c o ec => ?_, ?_⟩
      · rw [List.length_map, List.length_replicate]
        have : i < 2 := hi
        exact small1000 (by omega)
      · rw [upd_ne (ne_of_none ec hD)]
        exact s3 _ _ ec
      · rw [upd_same]
        have e9 : (List.replicate (i + 1) true).map V.bl = (List.replicate i true).map V.bl ++ [V.bl true] := by rw [List.replicate_succ', List.map_append]; rfl
        exact congrArg (fun l => some (HO.lst l)) e9.symm
    · rintro H3 ⟨s3, e3⟩
      refine ⟨D, _, rfl, sl_of e3, _, rfl, ?_⟩
      rw [if_neg (by simp)]
      subst hN
      walk_at "vc"
      refine ixT (i := 1) (same_tup s3 hp) rfl ⟨_, rfl, ?_⟩
      rw [if_pos hc.1]
      refine ixT (i := 0) (same_tup s3 hp) rfl ?_
      refine ixT (i := 1) (same_tup s3 hp) rfl ⟨q.1, q.2, rfl, ?_⟩
      rw [hc.2]
      exact ⟨rfl, ret _ s3⟩
end
end Odd
namespace Odd
open PySem PySem.Spec PyProof.Rows L2
local macro_rules | `(tactic| walk_at "vc") => `(tactic| simp only [tSeq, tAsg, gName, tCB, tCons, tNil, tVar, tC, tOp, tUn, rI0, rI, rU, tTup, tLst, tIfS, tTest, tB, tRet, tNext, rGcd, L2.start, List.map, List.set, List.replicate, List.cons_append, List.nil_append, List.length_cons, List.length_nil, List.getElem?_cons_succ, List.getElem?_cons_zero, Option.some.injEq, exists_eq_left', exists_eq_left, List.append_nil, List.cons.injEq, V.int.injEq, exists_and_left, and_true, true_and, and_assoc, exists_const, V.bl.injEq, V.ref.injEq, Nat.sub_self, Nat.reduceAdd, Nat.reduceSub, List.replicate_succ, List.replicate_zero, tAnd, tOr, tNot, tAndV, tOrV, tNotV, tIf, tCall, tCallK, tDrop, rEq, rNe, decide_eq_true_eq, Bool.not_eq_true', decide_eq_false_iff_not, Bool.false_eq_true, if_true, if_false, reduceIte, reduceCtorEq, tMkLow, tRaiseLow, rIsB, rNotB, tBreak, tPar, gSub, rSetL, tChain, gTup, gCons, gNil, gSeq, cx_K, cx_Kn, optV, V.str.injEq, Bool.not_true, Bool.not_false, false_and, and_false, or_false, false_or, exists_false, tCallN, tCallS, tPairs])
section
variable {w : World} {K : PySem.W.Frag} {mg : Str → Option Value} {base : Heap} {A : Ads}
structure SideZ where
  m : Nat
  n : Nat
  p : Int × Int
  d : Int × Int
def SideV (K : PySem.W.Frag) (H : Hp) (v : V) (s : SideZ) : Prop := ∃ a x y z, v = .ref a ∧ SqT K H a [x, y, z] ∧ NumV K H x (s.m, s.n) ∧ ZP K H y s.p ∧ ZP K H z s.d
theorem SideV.same {H H' : Hp} {v : V} {q : SideZ} (s : Same H H') (h : SideV K H v q) : SideV K H' v q := by
  obtain ⟨a, x, y, z, e, h1, h2, h3, h4⟩ := h
  exact ⟨a, x, y, z, e, same_tup s h1, h2.same s, h3.same s, h4.same s⟩
theorem SideV.keep {H : Hp} {D : Addr} {acc acc' : List V} {v : V} {q : SideZ} (hD : H D = some (.lst acc)) (h : SideV K H v q) : SideV K (upd H D (.lst acc')) v q := by
  obtain ⟨a, x, y, z, e, h1, h2, h3, h4⟩ := h
  exact ⟨a, x, y, z, e, keep_tup hD h1, h2.keep hD, h3.keep hD, h4.keep hD⟩
/-- the sides of one row -/
def sidesOf (m : Nat) (r : List (Int × Int)) (j : Nat) : List SideZ := (List.range j).map fun n => ⟨m, n, r.getD n (0, 0), ((r.getD ((n + 1) % r.length) (0, 0)).1 - (r.getD n (0, 0)).1, (r.getD ((n + 1) % r.length) (0, 0)).2 - (r.getD n (0, 0)).2)⟩
theorem sidesOf_len (m : Nat) (r : List (Int × Int)) (j : Nat) : (sidesOf m r j).length = j := by
  unfold sidesOf
  rw [List.length_map, List.length_range]
def sidesZ (rows : List (List (Int × Int))) (i : Nat) : List SideZ := (List.range i).flatMap fun m => sidesOf m (rows.getD m []) (rows.getD m []).length
def spSides (K : PySem.W.Frag) : Sp := fun vs H Q _ => ∃ D X us rows, vs = [.ref D] ∧ H D = some (.lst us) ∧ Each (RowV K X H) us rows ∧ rows.length ≤ 6 ∧ (∀ r ∈ rows, r.length ≤ 40) ∧
  ∀ H' L vs, Same H H' → H L = none → H' L = some (.lst vs) → Each (SideV K H') vs (sidesZ rows rows.length) → Q (.ref L) H'
theorem ok__law_sides (T : Txt K mg A) : FnOk PG w K mg base CX0 1 A.f__law_sides A.d__law_sides ["rows"] (spSides K) := by
  refine T._law_sides.F.ok sc__law_sides (fun vs H Q E h => ?_) (fun cdv A' outer s H vs Q E hr h => ?_)
  · obtain ⟨_, _, _, _, rfl, _⟩ := h; rfl
  · obtain ⟨D, X, us, rows, rfl, hD, he, h6, h40, q⟩ := h
    have l1 := he.1
    refine ⟨_, (pss_cons (ps_set (i := 1) sc__law_sides.nd rfl (.inl rfl) (pe_lst pa_nil))
      (pss_cons (ps_for PassesOwn.never rfl (pi_range1 rfl T.n_range (pa_cons (pe_callB call_len_seq (by rfl) T.n_len bt_len (pa_cons (pv 0) pa_nil)) pa_nil)) (pg_name (i := 2) sc__law_sides.nd rfl (.inl rfl)) (pss_cons (ps_set (i := 3) sc__law_sides.nd rfl (.inl rfl) (pe_ix ix_list (pv 0) (pv 2) (fun _ _ => rfl)))
      (pss_one (ps_for PassesOwn.never rfl (pi_range1 rfl T.n_range (pa_cons (pe_callB call_len_seq (by rfl) T.n_len bt_len (pa_cons (pv 3) pa_nil)) pa_nil)) (pg_name (i := 4) sc__law_sides.nd rfl (.inl rfl)) (pss_cons (ps_asg (pe_ix ix_list (pv 3) (pv 4) (fun _ _ => rfl)) (pg_tup rfl (pgs_cons (pg_name (i := 5) sc__law_sides.nd rfl (.inl rfl)) (pgs_cons (pg_name (i := 6) sc__law_sides.nd rfl (.inl rfl)) pgs_nil))))
      (pss_cons (ps_asg (pe_ix ix_list (pv 3) (pe_op op_mod (pe_callTy call_int1 (by rfl) T.n_int bt_int (pa_cons (pe_op op_add (pv 4) pe_int) pa_nil)) (pe_callB call_len_seq (by rfl) T.n_len bt_len (pa_cons (pv 3) pa_nil))) (fun _ _ => rfl)) (pg_tup rfl (pgs_cons (pg_name (i := 7) sc__law_sides.nd rfl (.inl rfl)) (pgs_cons (pg_name (i := 8) sc__law_sides.nd rfl (.inl rfl)) pgs_nil))))
      (pss_one (ps_expr (pe_bm F.plainAttrs_list F.slot_list_append F.type_list_append mt_append (pv 1) (pa_cons (pe_tup (pa_cons (pe_tup (pa_cons (pv 2) (pa_cons (pv 4) pa_nil))) (pa_cons (pe_tup (pa_cons (pv 5) (pa_cons (pv 6) pa_nil))) (pa_cons (pe_tup (pa_cons (pe_op op_sub (pv 7) (pv 5)) (pa_cons (pe_op op_sub (pv 8) (pv 6)) pa_nil))) pa_nil)))) pa_nil))))))))))
      (pss_one (ps_ret (pv 1))))), ?_⟩
    refine seq_by fun N hN => ?_
    walk_at "vc"
    refine ⟨by decide, fun L hL => ?_⟩
    have s1 := same_upd (o := .lst []) hL
    subst hN
    refine seq_by fun N hN => ?_
    walk_at "vc"
    refine ⟨_, rfl, D, rfl, us, .inl (sl_of (s1 _ _ hD)), _, rfl, by omega, by omega, for_range (n := ((us.length : Nat) : Int).toNat) (fun i σ H3 => ∃ o2 o3 o4 o5 o6 o7 o8 acc, σ = [some (.ref D), some (.ref L), o2, o3, o4, o5, o6, o7, o8] ∧ (∀ b o, H b = some o → H3 b = some o) ∧ H3 L = some (.lst acc) ∧ Each (SideV K H3) acc (sidesZ rows i)) ?_ ?_ ?_⟩
    · exact ⟨none, none, none, none, none, none, none, [], rfl, s1, upd_same, rfl, fun i v x e => by simp at e⟩
    · rintro i σ H3 hi ⟨o2, o3, o4, o5, o6, o7, o8, acc, rfl, s3, e3, ea⟩
      have hi : i < us.length := by omega
      rw [show ((0 : Int) + (i : Nat)) = (i : Nat) by omega]
      walk_at "vc"
      have hi2 : i < rows.length := by omega
      obtain ⟨r, hr⟩ : ∃ r, rows[i]? = some r := ⟨_, List.getElem?_eq_getElem hi2⟩
      have egd : rows.getD i [] = r := by rw [List.getD_eq_getElem?_getD, hr]; rfl
      have rl : r.length ≤ 40 := h40 r (List.mem_of_getElem? hr)
      obtain ⟨vr, hvr, a, ws, rfl, ha, _, hw⟩ := he.at hr
      have lw := hw.1
      have slen : ∀ k, (sidesZ rows k).length ≤ 40 * k := by
        intro k
        induction k with
        | zero => simp [sidesZ]
        | succ k ih =>
          unfold sidesZ at ih ⊢
          rw [List.range_succ, List.flatMap_append, List.length_append]
          have : ((rows.getD k [])).length ≤ 40 := by
            rw [List.getD_eq_getElem?_getD]
            cases e : rows[k]? with
            | none => simp
            | some ps => exact h40 ps (List.mem_of_getElem? e)
          simp only [List.flatMap_cons, List.flatMap_nil, List.append_nil]
          rw [sidesOf_len]
          omega
      refine ixL (sl_of (s3 _ _ hD)) (atI_nat hvr) ?_
      refine ⟨_, rfl, a, rfl, ws, .inl (sl_of (s3 _ _ ha)), _, rfl, by omega, by omega, for_range (n := ((ws.length : Nat) : Int).toNat) (fun j σ H4 => ∃ o4 o5 o6 o7 o8 acc, σ = [some (.ref D), some (.ref L), some (.int (i : Nat)), some (.ref a), o4, o5, o6, o7, o8] ∧ (∀ b o, H b = some o → H4 b = some o) ∧ H4 L = some (.lst acc) ∧ Each (SideV K H4) acc (sidesZ rows i ++ sidesOf i r j)) ?_ ?_ ?_⟩
      · exact ⟨_, _, _, _, _, acc, rfl, s3, e3, by rw [show sidesOf i r 0 = [] from rfl, List.append_nil]; exact ea⟩
      · rintro j σ H4 hj ⟨p4, p5, p6, p7, p8, acc4, rfl, s4, e4, ea4⟩
        have hj : j < r.length := by omega
        rw [show ((0 : Int) + (j : Nat)) = (j : Nat) by omega]
        obtain ⟨v1, hv1, z1, rfl, hz1⟩ := hw.at (List.getElem?_eq_getElem hj)
        obtain ⟨v2, hv2, z2, rfl, hz2⟩ := hw.at (List.getElem?_eq_getElem (Nat.mod_lt (j + 1) (show 0 < r.length by omega)))
        have ei : ((j : Int) + 1) % (ws.length : Int) = (((j + 1) % r.length : Nat) : Int) := by rw [lw]; push_cast; rfl
        walk_at "vc"
        refine ixL (sl_of (s4 _ _ ha)) (atI_nat hv1) ?_
        refine ⟨z1, rfl, _, same_tup s4 hz1, rfl, _, _, rfl, _, _, rfl, rfl, ?_⟩
        refine ⟨ws, .inl (sl_of (s4 _ _ ha)), by omega, ?_⟩
        rw [ei]
        refine ixL (sl_of (s4 _ _ ha)) (atI_nat hv2) ?_
        refine ⟨z2, rfl, _, same_tup s4 hz2, rfl, _, _, rfl, _, _, rfl, rfl, ?_⟩
        simp only [tBM]
        walk_at "vc"
        have g1 : r.getD j (0, 0) = r[j] := by rw [List.getD_eq_getElem?_getD, List.getElem?_eq_getElem hj]; rfl
        have hj2 : (j + 1) % r.length < r.length := Nat.mod_lt _ (by omega)
        have g2 : r.getD ((j + 1) % r.length) (0, 0) = r[(j + 1) % r.length] := by rw [List.getD_eq_getElem?_getD, List.getElem?_eq_getElem hj2]; rfl
        have eS : sidesOf i r (j + 1) = sidesOf i r j ++ [⟨i, j, r[j], (r[(j + 1) % r.length].1 - r[j].1, r[(j + 1) % r.length].2 - r[j].2)⟩] := by
          unfold sidesOf
          rw [List.range_succ, List.map_append]
          simp only [List.map_cons, List.map_nil]
          rw [g1, g2]
        refine ⟨.inl ⟨rfl, acc4, sl_of e4⟩, by decide, fun p1 h1 => ?_⟩
        have t1 := same_upd (o := .tup [.int (i : Nat), .int (j : Nat)]) h1
        have n1 : NumV K (upd H4 p1 (.tup [.int (i : Nat), .int (j : Nat)])) (.ref p1) (i, j) := ⟨p1, rfl, st_of upd_same⟩
        generalize upd H4 p1 (.tup [.int (i : Nat), .int (j : Nat)]) = G1 at *
        refine ⟨by decide, fun p2 h2 => ?_⟩
        have t2 := same_upd (o := .tup [.int r[j].1, .int r[j].2]) h2
        have n2 : ZP K (upd G1 p2 (.tup [.int r[j].1, .int r[j].2])) (.ref p2) r[j] := ⟨p2, rfl, st_of upd_same⟩
        generalize upd G1 p2 (.tup [.int r[j].1, .int r[j].2]) = G2 at *
        refine ⟨by decide, fun p3 h3 => ?_⟩
        have t3 := same_upd (o := .tup [.int (r[(j + 1) % r.length].1 - r[j].1), .int (r[(j + 1) % r.length].2 - r[j].2)]) h3
        have n3 : ZP K (upd G2 p3 (.tup [.int (r[(j + 1) % r.length].1 - r[j].1), .int (r[(j + 1) % r.length].2 - r[j].2)])) (.ref p3) (r[(j + 1) % r.length].1 - r[j].1, r[(j + 1) % r.length].2 - r[j].2) := ⟨p3, rfl, st_of upd_same⟩
        generalize upd G2 p3 (.tup [.int (r[(j + 1) % r.length].1 - r[j].1), .int (r[(j + 1) % r.length].2 - r[j].2)]) = G3 at *
        refine ⟨by decide, fun p4 h4 => ?_⟩
        have t4 := same_upd (o := .tup [.ref p1, .ref p2, .ref p3]) h4
        have n4 : SideV K (upd G3 p4 (.tup [.ref p1, .ref p2, .ref p3])) (.ref p4) ⟨i, j, r[j], (r[(j + 1) % r.length].1 - r[j].1, r[(j + 1) % r.length].2 - r[j].2)⟩ := ⟨p4, _, _, _, rfl, st_of upd_same, n1.same ((t2.trans t3).trans t4), n2.same (t3.trans t4), n3.same t4⟩
        generalize upd G3 p4 (.tup [.ref p1, .ref p2, .ref p3]) = G4 at *
        have T4 := ((t1.trans t2).trans t3).trans t4
        have e5 := T4 _ _ e4
        refine ⟨L, acc4, _, rfl, rfl, e5, ?_, fun c o ec => ?_, _, upd_same, ?_⟩
        · rw [ea4.1, List.length_append, sidesOf_len]
          have := slen i
          exact small1000 (by omega)
        · rw [upd_ne (ne_of_none ec hL)]
          exact T4 _ _ (s4 _ _ ec)
        · rw [eS, ← List.append_assoc]
          exact each_snoc (ea4.imp fun v x z => (z.same T4).keep e5) (n4.keep e5)
      · rintro σ H4 ⟨p4, p5, p6, p7, p8, acc4, rfl, s4, e4, ea4⟩
        refine ⟨_, _, _, _, _, _, _, rfl, s4, acc4, e4, ?_⟩
        rw [show ((ws.length : Nat) : Int).toNat = r.length by omega] at ea4
        unfold sidesZ at ea4 ⊢
        rw [List.range_succ, List.flatMap_append]
        simp only [List.flatMap_cons, List.flatMap_nil, List.append_nil]
        rw [egd]
        exact ea4
    · rintro σ H3 ⟨o2, o3, o4, o5, o6, o7, o8, acc, rfl, s3, e3, ea⟩
      show N _ _
      subst hN
      walk_at "vc"
      rw [show ((us.length : Nat) : Int).toNat = rows.length by omega] at ea
      exact q H3 L acc s3 hL e3 ea
end
end Odd
namespace Odd
open PySem PySem.Spec PyProof.Rows L2
local macro_rules | `(tactic| walk_at "vc") => `(tactic| simp only [tSeq, tAsg, gName, tCB, tCons, tNil, tVar, tC, tOp, tUn, rI0, rI, rU, tTup, tLst, tIfS, tTest, tB, tRet, tNext, rGcd, L2.start, List.map, List.set, List.replicate, List.cons_append, List.nil_append, List.length_cons, List.length_nil, List.getElem?_cons_succ, List.getElem?_cons_zero, Option.some.injEq, exists_eq_left', exists_eq_left, List.append_nil, List.cons.injEq, V.int.injEq, exists_and_left, and_true, true_and, and_assoc, exists_const, V.bl.injEq, V.ref.injEq, Nat.sub_self, Nat.reduceAdd, Nat.reduceSub, List.replicate_succ, List.replicate_zero, tAnd, tOr, tNot, tAndV, tOrV, tNotV, tIf, tCall, tCallK, tDrop, rEq, rNe, decide_eq_true_eq, Bool.not_eq_true', decide_eq_false_iff_not, Bool.false_eq_true, if_true, if_false, reduceIte, reduceCtorEq, tMkLow, tRaiseLow, rIsB, rNotB, tBreak, tPar, gSub, rSetL, tChain, gTup, gCons, gNil, gSeq, cx_K, cx_Kn, optV, V.str.injEq, Bool.not_true, Bool.not_false, false_and, and_false, or_false, false_or, exists_false, tCallN, tCallS, tPairs])
section
variable {w : World} {K : PySem.W.Frag} {mg : Str → Option Value} {base : Heap} {A : Ads}
theorem call_len_seqK {X : Cx} {K : PySem.W.Frag} (e : X.K = K) : CallR X (.builtin "len") (fun xs H Q => ∃ p ys, xs = [.ref p] ∧ (SqL K H p ys ∨ SqT K H p ys) ∧ Q (.int ys.length) H) := by subst e; exact call_len_seq
def mirL (r : List (Int × Int)) : List (Int × Int) := r.reverse.map fun p => (-p.1, p.2)
theorem Each.imp2 {α : Type} {R R' : V → α → Prop} {vs : List V} {xs : List α} (h : Each R vs xs) (f : ∀ v x, v ∈ vs → R v x → R' v x) : Each R' vs xs := ⟨h.1, fun i v x e1 e2 => f _ _ (List.mem_of_getElem? e1) (h.2 i v x e1 e2)⟩
theorem mirL_at {r : List (Int × Int)} {k : Nat} (h : k < r.length) : (mirL r)[k]? = some (-(r[r.length - 1 - k]'(by omega)).1, (r[r.length - 1 - k]'(by omega)).2) := by
  unfold mirL
  rw [List.getElem?_map, List.getElem?_reverse h, List.getElem?_eq_getElem (by omega)]
  rfl
theorem mirL_len (r : List (Int × Int)) : (mirL r).length = r.length := by
  unfold mirL
  rw [List.length_map, List.length_reverse]
theorem RowV.keepL {H : Hp} {D : Addr} {acc acc' : List V} {v : V} {r : List (Int × Int)} (hD : H D = some (.lst acc)) (hv : v ≠ .ref D) (h : RowV K [] H v r) : RowV K [] (upd H D (.lst acc')) v r := by
  obtain ⟨a, ws, rfl, h1, h2, h3⟩ := h
  exact ⟨a, ws, rfl, by rw [upd_ne (fun z => hv (by rw [z]))]; exact h1, h2, h3.imp fun v x z => z.keep hD⟩
def spMirrored (K : PySem.W.Frag) : Sp := fun vs H Q _ => ∃ D X us rows, vs = [.ref D] ∧ H D = some (.lst us) ∧ Each (RowV K X H) us rows ∧ rows.length ≤ 6 ∧ (∀ r ∈ rows, r.length ≤ 40) ∧
  ∀ H' L vs, Same H H' → H L = none → H' L = some (.lst vs) → Each (RowV K [] H') vs (rows.map mirL) → Q (.ref L) H'
theorem ok__law_mirrored (T : Txt K mg A) : FnOk PG w K mg base CX0 1 A.f__law_mirrored A.d__law_mirrored ["rows"] (spMirrored K) := by
  refine T._law_mirrored.F.ok sc__law_mirrored (fun vs H Q E h => ?_) (fun cdv A' outer s H vs Q E hr h => ?_)
  · obtain ⟨_, _, _, _, rfl, _⟩ := h; rfl
  · obtain ⟨D, X, us, rows, rfl, hD, he, h6, h40, q⟩ := h
    refine ⟨_, (pss_one (ps_ret (pe_lc (own := [("row", 2)]) (g := gName 2) (tt := tYes) rfl sc__law_mirrored.nd (pi_list (pv 0)) (blkOk_by (N := ["rows", "k", "row"]) (sc := defScope s__law_mirrored) (by decide +kernel)) (fun _ _ _ _ _ => pg_name (i := 2) sc__law_mirrored.nd rfl (Or.inr rfl)) (fun _ _ _ _ _ => pts_nil) (fun _ _ _ _ _ => (pe_lc (own := [("k", 1)]) (g := gName 1) (tt := tYes) rfl sc__law_mirrored.nd (pi_range1 (by rfl) T.n_range (pa_cons (pe_callB (call_len_seqK (K := K) rfl) (by rfl) T.n_len bt_len (pa_cons (pv 2) pa_nil)) pa_nil)) (blkOk_by (N := ["rows", "k", "row"]) (sc := { kind := .function, names := [(".0", .local), ("row", .cell), ("range", .globalImplicit), ("len", .globalImplicit)], isGenerator := false, isCoroutine := false }) (by decide +kernel)) (fun _ _ _ _ _ => pg_name (i := 1) sc__law_mirrored.nd rfl (Or.inl rfl)) (fun _ _ _ _ _ => pts_nil) (fun _ _ _ _ _ => (pe_tup (pa_cons (pe_un un_neg (pe_ix (OZ.ix_tupK (K := K) rfl) (pe_ix (OZ.ix_listK (K := K) rfl) (pv 2) (pe_op op_sub (pe_op op_sub (pe_callB (call_len_seqK (K := K) rfl) (by rfl) T.n_len bt_len (pa_cons (pv 2) pa_nil)) pe_int) (pv 1)) (fun _ _ => rfl)) pe_int (fun _ _ => rfl))) (pa_cons (pe_ix (OZ.ix_tupK (K := K) rfl) (pe_ix (OZ.ix_listK (K := K) rfl) (pv 2) (pe_op op_sub (pe_op op_sub (pe_callB (call_len_seqK (K := K) rfl) (by rfl) T.n_len bt_len (pa_cons (pv 2) pa_nil)) pe_int) (pv 1)) (fun _ _ => rfl)) pe_int (fun _ _ => rfl)) pa_nil))))))))), ?_⟩
    walk_at "vc"
    refine ⟨_, rfl, D, rfl, ⟨us, sl_of hD⟩, fun L hL => lc_list (xs := us) (fun i H3 => Same H H3 ∧ ∃ acc, H3 L = some (.lst acc) ∧ (∀ v ∈ acc, v ≠ .ref L) ∧ Each (RowV K [] H3) acc ((rows.take i).map mirL)) ⟨same_upd hL, _, upd_same, by simp, rfl, fun i v x e => by simp at e⟩ (fun i H3 _ h => sl_of (h.1 _ _ hD)) ?_ ?_⟩
    · rintro i x H3 hx ⟨s3, acc, e3, en, ea⟩
      obtain ⟨r, hr, a, ws, rfl, ha, _, hw⟩ := he.of hx
      have ha3 := s3 _ _ ha
      have lw := hw.1
      have rl := h40 r (List.mem_of_getElem? hr)
      refine ⟨rfl, ?_⟩
      simp only [tYes, if_true]
      refine ⟨_, rfl, a, rfl, ws, .inl (sl_of ha3), _, rfl, by omega, by omega, fun L2 hL2 => lc_range (n := ((ws.length : Nat) : Int).toNat) (fun j H4 => Same H3 H4 ∧ ∃ acc2, H4 L2 = some (.lst acc2) ∧ Each (ZP K H4) acc2 ((mirL r).take j)) ⟨same_upd hL2, _, upd_same, rfl, fun i v x e => by simp at e⟩ ?_ ?_⟩
      · rintro j H4 hj ⟨s4, acc2, e4, ea2⟩
        have hj : j < r.length := by omega
        have hj2 : r.length - 1 - j < r.length := by omega
        rw [show ((0 : Int) + (j : Nat)) = (j : Nat) by omega]
        refine ⟨rfl, ?_⟩
        simp only [tYes, if_true]
        obtain ⟨v1, hv1, z1, rfl, hz1⟩ := hw.at (List.getElem?_eq_getElem hj2)
        have ei : ((ws.length : Int) - 1 - (j : Nat)) = ((r.length - 1 - j : Nat) : Int) := by omega
        have ha4 := s4 _ _ ha3
        have ix : ∀ {Q : VK}, Q (.ref z1) H4 → rIxL K (.ref a) (.int ((ws.length : Int) - 1 - (j : Nat))) H4 Q := fun {Q} h => by
          rw [ei]
          exact ixL (sl_of ha4) (atI_nat hv1) h
        have hz4 := same_tup (s3.trans s4) hz1
        have e := mirL_at hj
        rw [show List.set (wipe (List.set (wipe [some (V.ref D), none, none] [2]) 2 (some (V.ref a))) [1]) 1 (some (V.int (j : Nat))) = [some (V.ref D), some (V.int (j : Nat)), some (V.ref a)] from rfl]
        walk_at "vc"
        refine ⟨ws, .inl (sl_of ha4), ix ?_⟩
        refine ixT hz4 rfl ?_
        refine ⟨_, rfl, ws, .inl (sl_of ha4), ix ?_⟩
        refine ixT hz4 rfl ?_
        refine ⟨by decide, fun p hp => ?_⟩
        have s5 := same_upd (o := .tup [.int (-(r[r.length - 1 - j]).1), .int (r[r.length - 1 - j]).2]) hp
        have n5 : ZP K (upd H4 p (.tup [.int (-(r[r.length - 1 - j]).1), .int (r[r.length - 1 - j]).2])) (.ref p) (-(r[r.length - 1 - j]).1, (r[r.length - 1 - j]).2) := ⟨p, rfl, st_of upd_same⟩
        generalize upd H4 p (.tup [.int (-(r[r.length - 1 - j]).1), .int (r[r.length - 1 - j]).2]) = G at *
        have e5 := s5 _ _ e4
        refine ⟨acc2, e5, ?_, fun c o ec => ?_, _, upd_same, ?_⟩
        · rw [ea2.1, List.length_take, mirL_len]
          exact small1000 (by omega)
        · rw [upd_ne (ne_of_none ec hL2)]
          exact s5 _ _ (s4 _ _ ec)
        · rw [List.take_add_one, e]
          exact each_snoc (ea2.imp fun v x z => (z.same s5).keep e5) (n5.keep e5)
      · rintro H4 ⟨s4, acc2, e4, ea2⟩
        rw [show ((ws.length : Nat) : Int).toNat = (mirL r).length by rw [mirL_len]; omega, List.take_length] at ea2
        refine ⟨acc, s4 _ _ e3, ?_, fun c o ec => ?_, _, upd_same, ?_, ?_⟩
        · rw [ea.1, List.length_map, List.length_take]
          exact small1000 (by omega)
        · rw [upd_ne (ne_of_none ec hL)]
          exact s4 _ _ (s3 _ _ ec)
        · intro v hv
          rcases List.mem_append.mp hv with h | h
          · exact en v h
          · rw [List.mem_singleton.mp h]
            intro z
            injection z with z
            rw [z, e3] at hL2
            cases hL2
        · have nL : L2 ≠ L := fun z => by rw [z, e3] at hL2; cases hL2
          rw [List.take_add_one, hr, List.map_append]
          exact each_snoc (ea.imp2 fun v x hv z => (z.same s4).keepL (s4 _ _ e3) (en v hv)) ⟨L2, acc2, rfl, by rw [upd_ne nL]; exact e4, by simp, ea2.imp fun v x z => z.keep (s4 _ _ e3)⟩
    · rintro H3 ⟨s3, acc, e3, en, ea⟩
      rw [he.1, List.take_length] at ea
      exact q H3 L acc s3 hL e3 ea
end
end Odd
namespace Odd
open PySem PySem.Spec PyProof.Rows L2
local macro_rules | `(tactic| walk_at "vc") => `(tactic| simp only [tSeq, tAsg, gName, tCB, tCons, tNil, tVar, tC, tOp, tUn, rI0, rI, rU, tTup, tLst, tIfS, tTest, tB, tRet, tNext, rGcd, L2.start, List.map, List.set, List.replicate, List.cons_append, List.nil_append, List.length_cons, List.length_nil, List.getElem?_cons_succ, List.getElem?_cons_zero, Option.some.injEq, exists_eq_left', exists_eq_left, List.append_nil, List.cons.injEq, V.int.injEq, exists_and_left, and_true, true_and, and_assoc, exists_const, V.bl.injEq, V.ref.injEq, Nat.sub_self, Nat.reduceAdd, Nat.reduceSub, List.replicate_succ, List.replicate_zero, tAnd, tOr, tNot, tAndV, tOrV, tNotV, tIf, tCall, tCallK, tDrop, rEq, rNe, decide_eq_true_eq, Bool.not_eq_true', decide_eq_false_iff_not, Bool.false_eq_true, if_true, if_false, reduceIte, reduceCtorEq, tMkLow, tRaiseLow, rIsB, rNotB, tBreak, tPar, gSub, rSetL, tChain, gTup, gCons, gNil, gSeq, cx_K, cx_Kn, optV, V.str.injEq, Bool.not_true, Bool.not_false, false_and, and_false, or_false, false_or, exists_false, tCallN, tCallS, tPairs])
section
variable {w : World} {K : PySem.W.Frag} {mg : Str → Option Value} {base : Heap} {A : Ads}
def RetW (H : Hp) (a b : Str) (Q : VK) : Prop := ∀ H' p, Same H H' → H' p = some (.tup [.str a, .str b]) → Q (.ref p) H'
def spRefused (K : PySem.W.Frag) (CF CL : Addr) : Sp := fun vs H Q _ => ∃ v f r, vs = [v, f, r] ∧
  ((∃ U, TyN K H v U ∧ (U = "NoneType" ∨ U = "list" ∨ U = "int") ∧ RetW H "LOT" "lot" Q) ∨
   (∃ l pss, v = .ref l ∧ LotAt K CF CL H l pss ∧
     ((BadFour K pss H f ∧ RetW H "SIDES" "four" Q) ∨
      (∃ p us rs sds, f = .ref p ∧ Sq K H p us ∧ Each (AtJ K pss H) us (rs.map some) ∧ Told4 pss rs sds ∧
        (Bad K H r ∨ ∃ q, Num K H r q ∧ q.1 ≤ 0) ∧ RetW H "RATIO" "ratio" Q))))
theorem ok__law_refused (T : Txt K mg A) : FnOk PG w K mg base CX0 8 A.f__law_refused A.d__law_refused ["lot", "four", "ratio"] (spRefused K A.C_Fence A.C_Lot) := by
  refine T._law_refused.F.ok sc__law_refused (fun vs H Q E h => ?_) (fun cdv A' outer s H vs Q E hr h => ?_)
  · obtain ⟨_, _, _, rfl, _⟩ := h; rfl
  · obtain ⟨v, f, r, rfl, h⟩ := h
    have hr1 : Room 7 _ := hr
    refine ⟨_, (pss_cons (ps_set (i := 3) sc__law_refused.nd rfl (.inl rfl) pe_non)
      (pss_cons (oddTry (i := 4) (tb := fun W => tDrop (tCallS (spDet K A.C_Fence A.C_Lot A.c_BadLot A.c_BadSides A.c_BadRatio) (WE W) (tCons (tVar 0) (tCons (tVar 1) (tCons (tVar 2) tNil))))) (Wout := fun _ _ _ _ => False) rfl rfl sc__law_refused.nd rfl rfl takes0 (fun W pn xe tk _ => by exact (pss_one (ps_expr (by exact (pe_callS (ok_determinant T) (hr1.mono (by decide)) rfl T.determinant.g T.determinant.F.kp T.determinant.b (fun σ => passAt tk σ) (pa_cons (pv 0) (pa_cons (pv 1) (pa_cons (pv 2) pa_nil)))))))) (by exact OddCls.one (c := .ref A.c_BadLot) (ts := (fun a cls d => tAsg (tTup (tCons (tC (.str "LOT")) (tCons (tByLow A.c_BadLot a cls d (tVar 4)) tNil))) (gName 3))) (by exact ⟨rfl, by decide, Or.inl T.low_BadLot.gC⟩) (by exact fun a oe cls d pn hz hf => pss_one (ps_set (i := 3) sc__law_refused.nd rfl (Or.inl rfl) (by exact (pe_tup (pa_cons pe_str (pa_cons (by exact pe_byLow T.low_BadLot hz hf (pv 4)) pa_nil)))))) (by exact OddCls.one (c := .ref A.c_BadSides) (ts := (fun a cls d => tAsg (tTup (tCons (tC (.str "SIDES")) (tCons (tByLow A.c_BadSides a cls d (tVar 4)) tNil))) (gName 3))) (by exact ⟨rfl, by decide, Or.inl T.low_BadSides.gC⟩) (by exact fun a oe cls d pn hz hf => pss_one (ps_set (i := 3) sc__law_refused.nd rfl (Or.inl rfl) (by exact (pe_tup (pa_cons pe_str (pa_cons (by exact pe_byLow T.low_BadSides hz hf (pv 4)) pa_nil)))))) (by exact OddCls.one (c := .ref A.c_BadRatio) (ts := (fun a cls d => tAsg (tTup (tCons (tC (.str "RATIO")) (tCons (tByLow A.c_BadRatio a cls d (tVar 4)) tNil))) (gName 3))) (by exact ⟨rfl, by decide, Or.inl T.low_BadRatio.gC⟩) (by exact fun a oe cls d pn hz hf => pss_one (ps_set (i := 3) sc__law_refused.nd rfl (Or.inl rfl) (by exact (pe_tup (pa_cons pe_str (pa_cons (by exact pe_byLow T.low_BadRatio hz hf (pv 4)) pa_nil)))))) OddCls.nil))))
      (pss_one (ps_ret (pv 3))))), ?_⟩
    walk_at "vc"
    have exL : ∀ (part : Str), RetW H "LOT" part Q → RaiseP H A.c_BadLot (.str part) (WE (oddWish K 4 (fun x x_1 x_2 x_3 => False)
            { nx := tRet (tVar 3) { nx := fun x H' => Q V.non H', rt := Q }, rt := Q }
            [(Value.ref A.c_BadLot, fun a cls d => tAsg (tTup (tCons (tC (V.str "LOT")) (tCons (tByLow A.c_BadLot a cls d (tVar 4)) tNil))) (gName 3)),
              (Value.ref A.c_BadSides, fun a cls d => tAsg (tTup (tCons (tC (V.str "SIDES")) (tCons (tByLow A.c_BadSides a cls d (tVar 4)) tNil))) (gName 3)),
              (Value.ref A.c_BadRatio, fun a cls d => tAsg (tTup (tCons (tC (V.str "RATIO")) (tCons (tByLow A.c_BadRatio a cls d (tVar 4)) tNil))) (gName 3))])
          [some v, some f, some r, some V.non, none]) := by
      intro part rt H' d s e
      refine ⟨true, T.low_BadLot.te, fun _ a ha => ?_, fun z => Bool.noConfusion z⟩
      refine ⟨_, rfl, rfl, rfl, d, _, rfl, e, (by show 2 ≤ sizeLine; decide), fun p hp => ⟨_, rfl, rt _ p (s.trans (same_upd hp)) upd_same⟩⟩
    have exS : ∀ (part : Str), RetW H "SIDES" part Q → RaiseP H A.c_BadSides (.str part) (WE (oddWish K 4 (fun x x_1 x_2 x_3 => False)
            { nx := tRet (tVar 3) { nx := fun x H' => Q V.non H', rt := Q }, rt := Q }
            [(Value.ref A.c_BadLot, fun a cls d => tAsg (tTup (tCons (tC (V.str "LOT")) (tCons (tByLow A.c_BadLot a cls d (tVar 4)) tNil))) (gName 3)),
              (Value.ref A.c_BadSides, fun a cls d => tAsg (tTup (tCons (tC (V.str "SIDES")) (tCons (tByLow A.c_BadSides a cls d (tVar 4)) tNil))) (gName 3)),
              (Value.ref A.c_BadRatio, fun a cls d => tAsg (tTup (tCons (tC (V.str "RATIO")) (tCons (tByLow A.c_BadRatio a cls d (tVar 4)) tNil))) (gName 3))])
          [some v, some f, some r, some V.non, none]) := by
      intro part rt H' d s e
      refine ⟨false, T.te_SL, fun z => Bool.noConfusion z, fun _ => ⟨true, T.low_BadSides.te, fun _ a ha => ?_, fun z => Bool.noConfusion z⟩⟩
      refine ⟨_, rfl, rfl, rfl, d, _, rfl, e, (by show 2 ≤ sizeLine; decide), fun p hp => ⟨_, rfl, rt _ p (s.trans (same_upd hp)) upd_same⟩⟩
    have exR : ∀ (part : Str), RetW H "RATIO" part Q → RaiseP H A.c_BadRatio (.str part) (WE (oddWish K 4 (fun x x_1 x_2 x_3 => False)
            { nx := tRet (tVar 3) { nx := fun x H' => Q V.non H', rt := Q }, rt := Q }
            [(Value.ref A.c_BadLot, fun a cls d => tAsg (tTup (tCons (tC (V.str "LOT")) (tCons (tByLow A.c_BadLot a cls d (tVar 4)) tNil))) (gName 3)),
              (Value.ref A.c_BadSides, fun a cls d => tAsg (tTup (tCons (tC (V.str "SIDES")) (tCons (tByLow A.c_BadSides a cls d (tVar 4)) tNil))) (gName 3)),
              (Value.ref A.c_BadRatio, fun a cls d => tAsg (tTup (tCons (tC (V.str "RATIO")) (tCons (tByLow A.c_BadRatio a cls d (tVar 4)) tNil))) (gName 3))])
          [some v, some f, some r, some V.non, none]) := by
      intro part rt H' d s e
      refine ⟨false, T.te_RL, fun z => Bool.noConfusion z, fun _ => ⟨false, T.te_RS, fun z => Bool.noConfusion z, fun _ => ⟨true, T.low_BadRatio.te, fun _ a ha => ?_, fun z => Bool.noConfusion z⟩⟩⟩
      refine ⟨_, rfl, rfl, rfl, d, _, rfl, e, (by show 2 ≤ sizeLine; decide), fun p hp => ⟨_, rfl, rt _ p (s.trans (same_upd hp)) upd_same⟩⟩
    refine ⟨v, f, r, rfl, ?_⟩
    rcases h with ⟨U, h1, h2, rt⟩ | ⟨l, pss, rfl, hl, h⟩
    · exact .inl ⟨U, h1, h2, exL _ rt⟩
    · refine .inr ⟨l, pss, rfl, hl, ?_⟩
      rcases h with ⟨hb, rt⟩ | ⟨p, us, rs, sds, rfl, h1, h2, h3, h4, rt⟩
      · exact .inl ⟨hb, exS _ rt⟩
      · exact .inr ⟨p, us, rs, sds, rfl, h1, h2, h3, .inl ⟨h4, exR _ rt⟩⟩
end
end Odd
/-! integer points: sides told apart by an affine function -/
namespace GeoZ
abbrev Z2 := Int × Int
/-- twice the area of p, q, r -/
def cr (p q r : Z2) : Int := (q.1 - p.1) * (r.2 - p.2) - (q.2 - p.2) * (r.1 - p.1)
def af (α β γ : Int) (p : Z2) : Int := α * p.1 + β * p.2 + γ
theorem af_id (α β γ : Int) (s1 s2 t1 t2 : Z2) : cr s1 s2 t2 * af α β γ t1 - cr s1 s2 t1 * af α β γ t2 = -(cr t1 t2 s2 * af α β γ s1 - cr t1 t2 s1 * af α β γ s2) := by
  unfold cr af
  grind
theorem cr_id (s1 s2 t1 t2 : Z2) : cr s1 s2 t2 - cr s1 s2 t1 = -(cr t1 t2 s2 - cr t1 t2 s1) := by
  unfold cr
  grind
/-- b1 ≤ 0 ≤ b2: no common point -/
theorem sep_one {b1 b2 c1 c2 f1 f2 g1 g2 : Int} (e1 : b2 * g1 - b1 * g2 = -(c2 * f1 - c1 * f2)) (e2 : b2 - b1 = -(c2 - c1)) (hf1 : 0 < f1) (hf2 : 0 < f2) (hg1 : g1 < 0) (hg2 : g2 < 0) (hb1 : b1 ≤ 0) (hb2 : 0 ≤ b2) (hb : b1 < b2) (hc1 : 0 ≤ c1) (hc2 : c2 ≤ 0) : False := by
  have h1 : b2 * g1 ≤ 0 := Int.mul_nonpos_of_nonneg_of_nonpos hb2 (by omega)
  have h2 : 0 ≤ b1 * g2 := Int.mul_nonneg_of_nonpos_of_nonpos hb1 (by omega)
  have h3 : 0 ≤ c1 * f2 := Int.mul_nonneg hc1 (by omega)
  have h4 : c2 * f1 ≤ 0 := Int.mul_nonpos_of_nonpos_of_nonneg hc2 (by omega)
  have z1 : b2 * g1 = 0 := by omega
  have z2 : b1 * g2 = 0 := by omega
  have y1 : b2 = 0 := by
    rcases Int.mul_eq_zero.mp z1 with h | h
    · exact h
    · omega
  have y2 : b1 = 0 := by
    rcases Int.mul_eq_zero.mp z2 with h | h
    · exact h
    · omega
  omega
theorem sep_cross {s1 s2 t1 t2 : Z2} {α β γ : Int} (hs1 : 0 < af α β γ s1) (hs2 : 0 < af α β γ s2) (ht1 : af α β γ t1 < 0) (ht2 : af α β γ t2 < 0) (hne : ¬ ((cr s1 s2 t1).sign = 0 ∧ (cr s1 s2 t2).sign = 0)) :
    (cr s1 s2 t1).sign = (cr s1 s2 t2).sign ∨ 0 < (cr t1 t2 s1).sign * (cr t1 t2 s2).sign := by
  have e1 := af_id α β γ s1 s2 t1 t2
  have e2 := cr_id s1 s2 t1 t2
  generalize cr s1 s2 t1 = b1 at *
  generalize cr s1 s2 t2 = b2 at *
  generalize cr t1 t2 s1 = c1 at *
  generalize cr t1 t2 s2 = c2 at *
  generalize af α β γ s1 = f1 at *
  generalize af α β γ s2 = f2 at *
  generalize af α β γ t1 = g1 at *
  generalize af α β γ t2 = g2 at *
  rcases Int.lt_trichotomy b1 0 with h1 | h1 | h1 <;> rcases Int.lt_trichotomy b2 0 with h2 | h2 | h2
  · exact .inl (by rw [Int.sign_eq_neg_one_of_neg h1, Int.sign_eq_neg_one_of_neg h2])
  all_goals first
    | exact .inl (by rw [Int.sign_eq_one_of_pos h1, Int.sign_eq_one_of_pos h2])
    | (exact absurd ⟨by rw [h1]; rfl, by rw [h2]; rfl⟩ hne)
    | skip
  all_goals
    refine .inr ?_
    rcases Int.lt_trichotomy c1 0 with k1 | k1 | k1 <;> rcases Int.lt_trichotomy c2 0 with k2 | k2 | k2 <;> first
      | (rw [Int.sign_eq_neg_one_of_neg k1, Int.sign_eq_neg_one_of_neg k2]; decide)
      | (rw [Int.sign_eq_one_of_pos k1, Int.sign_eq_one_of_pos k2]; decide)
      | exact (sep_one e1 e2 hs1 hs2 ht1 ht2 (by omega) (by omega) (by omega) (by omega) (by omega)).elim
      | exact (sep_one (b1 := -b1) (b2 := -b2) (c1 := -c1) (c2 := -c2) (by rw [Int.neg_mul, Int.neg_mul, Int.neg_mul, Int.neg_mul]; omega) (by omega) hs1 hs2 ht1 ht2 (by omega) (by omega) (by omega) (by omega) (by omega)).elim
      | (exfalso; omega)
end GeoZ
/-! fractions of integers by one under: sums, crosses, bends, order -/
namespace Odd
open PySem PySem.Spec PyProof.Rows L2 GeoZ
theorem low_eq {t u t' u' : Int} (h : u ≠ 0) (h' : u' ≠ 0) (e : t * u' = t' * u) : low t u = low t' u' := by
  refine IsLow.uniq h (low_is h).1 ⟨(low_is h').1.1, ?_⟩
  have k := (low_is (t := t') h').1.2
  generalize low t' u' = p at *
  refine Int.eq_of_mul_eq_mul_right h' ?_
  grind
theorem low_form {t u : Int} (h : 0 < u) : ∃ g P U : Int, 0 < g ∧ t = g * P ∧ u = g * U ∧ 0 < U ∧ low t u = (P, U) := by
  obtain ⟨g, g0, e1, e2, _⟩ := low_pos (t := t) h
  refine ⟨g, _, _, g0, e1, e2, ?_, rfl⟩
  exact (low_is (by omega)).1.1.1
theorem low_add {a u b v : Int} (hu : 0 < u) (hv : 0 < v) : fAdd (low a u) (low b v) = low (a * v + b * u) (u * v) := by
  obtain ⟨g, A, U, g0, rfl, rfl, U0, e1⟩ := low_form (t := a) hu
  obtain ⟨k, B, V, k0, rfl, rfl, V0, e2⟩ := low_form (t := b) hv
  rw [e1, e2]
  exact low_eq (Int.mul_ne_zero (by omega) (by omega)) (Int.mul_ne_zero (by omega) (by omega)) (by dsimp only; grind)
theorem low_sub {a u b v : Int} (hu : 0 < u) (hv : 0 < v) : fSub (low a u) (low b v) = low (a * v - b * u) (u * v) := by
  obtain ⟨g, A, U, g0, rfl, rfl, U0, e1⟩ := low_form (t := a) hu
  obtain ⟨k, B, V, k0, rfl, rfl, V0, e2⟩ := low_form (t := b) hv
  rw [e1, e2]
  exact low_eq (Int.mul_ne_zero (by omega) (by omega)) (Int.mul_ne_zero (by omega) (by omega)) (by dsimp only; grind)
theorem low_mul {a u b v : Int} (hu : 0 < u) (hv : 0 < v) : fMul (low a u) (low b v) = low (a * b) (u * v) := by
  obtain ⟨g, A, U, g0, rfl, rfl, U0, e1⟩ := low_form (t := a) hu
  obtain ⟨k, B, V, k0, rfl, rfl, V0, e2⟩ := low_form (t := b) hv
  rw [e1, e2]
  exact low_eq (Int.mul_ne_zero (by omega) (by omega)) (Int.mul_ne_zero (by omega) (by omega)) (by dsimp only; grind)
theorem low_negF {a u : Int} (hu : 0 < u) : fNeg (low a u) = low (-a) u := by
  obtain ⟨g, A, U, g0, rfl, rfl, U0, e1⟩ := low_form (t := a) hu
  rw [e1]
  show (-A, U) = _
  have c := (low_is (t := g * A) (u := g * U) (by omega)).1
  rw [e1] at c
  refine (IsLow.uniq (by omega) (low_is (by omega)).1 ⟨fNeg_canon c.1, ?_⟩).symm
  show -A * (g * U) = -(g * A) * U
  grind
theorem low_sign {a u : Int} (hu : 0 < u) : (low a u).1.sign = a.sign := by
  obtain ⟨g, A, U, g0, rfl, rfl, U0, e1⟩ := low_form (t := a) hu
  rw [e1, Int.sign_mul, Int.sign_eq_one_of_pos g0, Int.one_mul]
theorem low_zero {a u : Int} (hu : 0 < u) : low a u = (0, 1) ↔ a = 0 := by
  constructor
  · intro h
    have := low_sign (a := a) hu
    rw [h] at this
    exact Int.sign_eq_zero_iff_zero.mp this.symm
  · rintro rfl
    exact IsLow.uniq (by omega) (low_is (by omega)).1 ⟨⟨by decide, by decide⟩, by simp⟩
theorem low_inj {a b u : Int} (hu : 0 < u) : low a u = low b u ↔ a = b := by
  constructor
  · intro h
    have k1 := (low_is (t := a) (u := u) (by omega)).1.2
    have k2 := (low_is (t := b) (u := u) (by omega)).1
    rw [h] at k1
    have k3 := k2.2
    have k4 := k2.1.1
    generalize low b u = p at *
    refine Int.eq_of_mul_eq_mul_right (show p.2 ≠ 0 by omega) ?_
    rw [← k1, ← k3]
  · rintro rfl; rfl
theorem low_lt {a b u : Int} (hu : 0 < u) : fLt (low a u) (low b u) = decide (a < b) := by
  unfold fLt
  obtain ⟨g, A, U, g0, e1, e2, U0, e3⟩ := low_form (t := a) hu
  obtain ⟨k, B, V, k0, f1, f2, V0, f3⟩ := low_form (t := b) hu
  rw [e3, f3]
  dsimp only
  have key : (A * V < B * U) ↔ a < b := by
    have m : 0 < g * k := Int.mul_pos g0 k0
    have q1 : (A * V) * (g * k) = a * u := by
      calc (A * V) * (g * k) = (g * A) * (k * V) := by grind
        _ = a * u := by rw [← e1, ← f2]
    have q2 : (B * U) * (g * k) = b * u := by
      calc (B * U) * (g * k) = (k * B) * (g * U) := by grind
        _ = b * u := by rw [← f1, ← e2]
    constructor
    · intro h
      have := Int.mul_lt_mul_of_pos_right h m
      rw [q1, q2] at this
      exact Int.lt_of_mul_lt_mul_right this (by omega)
    · intro h
      have := Int.mul_lt_mul_of_pos_right h hu
      rw [← q1, ← q2] at this
      exact Int.lt_of_mul_lt_mul_right this (by omega)
  exact decide_eq_decide.mpr key
def lexZ (p q : Int × Int) : Bool := decide (p.1 < q.1) || (decide (p.1 = q.1) && decide (p.2 < q.2))
theorem lex_sc {un : Int} (h : 0 < un) (p q : Int × Int) : lexB (scP un p) (scP un q) = lexZ p q := by
  unfold lexB lexZ scP
  rw [low_lt h, low_lt h, decide_eq_decide.mpr (low_inj h)]
/-- the sign of a bend is that of the integer points -/
theorem bd_sc {un : Int} (h : 0 < un) (p q r : Int × Int) : (bdN (scP un p) (scP un q) (scP un r)).sign = (cr p q r).sign := by
  obtain ⟨g1, P1, U1, m1, a1, b1, z1, e1⟩ := low_form (t := p.1) h
  obtain ⟨g2, P2, U2, m2, a2, b2, z2, e2⟩ := low_form (t := p.2) h
  obtain ⟨g3, P3, U3, m3, a3, b3, z3, e3⟩ := low_form (t := q.1) h
  obtain ⟨g4, P4, U4, m4, a4, b4, z4, e4⟩ := low_form (t := q.2) h
  obtain ⟨g5, P5, U5, m5, a5, b5, z5, e5⟩ := low_form (t := r.1) h
  obtain ⟨g6, P6, U6, m6, a6, b6, z6, e6⟩ := low_form (t := r.2) h
  unfold bdN scP lsA cr
  rw [e1, e2, e3, e4, e5, e6]
  dsimp only
  have ls : ∀ {a b gA gB A B UA UB : Int}, a = gA * A → un = gA * UA → b = gB * B → un = gB * UB → (A * UB - B * UA) * (gA * gB) = (a - b) * un := by
    intro a b gA gB A B UA UB x1 x2 x3 x4
    have y1 : a * un = (gA * A) * (gB * UB) := by rw [← x1, ← x4]
    have y2 : b * un = (gB * B) * (gA * UA) := by rw [← x3, ← x2]
    rw [Int.sub_mul, Int.sub_mul, y1, y2]
    grind
  have k1 := ls a3 b3 a1 b1
  have k2 := ls a6 b6 a2 b2
  have k3 := ls a4 b4 a2 b2
  have k4 := ls a5 b5 a1 b1
  generalize P3 * U1 - P1 * U3 = L1 at *
  generalize P6 * U2 - P2 * U6 = L2 at *
  generalize P4 * U2 - P2 * U4 = L3 at *
  generalize P5 * U1 - P1 * U5 = L4 at *
  have G0 : 0 < (g3 * g1) * (g6 * g2) * ((g4 * g2) * (g5 * g1)) := Int.mul_pos (Int.mul_pos (Int.mul_pos m3 m1) (Int.mul_pos m6 m2)) (Int.mul_pos (Int.mul_pos m4 m2) (Int.mul_pos m5 m1))
  have u6 : 0 < un * un * un * (un * un * un) := Int.mul_pos (Int.mul_pos (Int.mul_pos h h) h) (Int.mul_pos (Int.mul_pos h h) h)
  have main : (L1 * L2 * (U4 * U2) * (U5 * U1) - L3 * L4 * (U3 * U1) * (U6 * U2)) * ((g3 * g1) * (g6 * g2) * ((g4 * g2) * (g5 * g1))) = (un * un * un * (un * un * un)) * ((q.1 - p.1) * (r.2 - p.2) - (q.2 - p.2) * (r.1 - p.1)) := by
    have w1 : (g4 * U4) * (g2 * U2) * ((g5 * U5) * (g1 * U1)) = un * un * (un * un) := by rw [← b4, ← b2, ← b5, ← b1]
    have w2 : (g3 * U3) * (g1 * U1) * ((g6 * U6) * (g2 * U2)) = un * un * (un * un) := by rw [← b3, ← b1, ← b6, ← b2]
    have s1 : (L1 * L2 * (U4 * U2) * (U5 * U1)) * ((g3 * g1) * (g6 * g2) * ((g4 * g2) * (g5 * g1))) = (L1 * (g3 * g1)) * (L2 * (g6 * g2)) * ((g4 * U4) * (g2 * U2) * ((g5 * U5) * (g1 * U1))) := by grind
    have s2 : (L3 * L4 * (U3 * U1) * (U6 * U2)) * ((g3 * g1) * (g6 * g2) * ((g4 * g2) * (g5 * g1))) = (L3 * (g4 * g2)) * (L4 * (g5 * g1)) * ((g3 * U3) * (g1 * U1) * ((g6 * U6) * (g2 * U2))) := by grind
    rw [Int.sub_mul, s1, s2, k1, k2, k3, k4, w1, w2]
    grind
  have e := congrArg Int.sign main
  rw [Int.sign_mul, Int.sign_eq_one_of_pos G0, Int.mul_one, Int.sign_mul, Int.sign_eq_one_of_pos u6, Int.one_mul] at e
  exact e
end Odd
/-! sides told apart by an affine function have no point in common -/
namespace Odd
open PySem PySem.Spec PyProof.Rows L2 GeoZ
def LexP (v : Int × Int) : Prop := 0 < v.1 ∨ (v.1 = 0 ∧ 0 < v.2)
theorem lexZ_iff (p q : Int × Int) : lexZ p q = true ↔ LexP (q.1 - p.1, q.2 - p.2) := by
  unfold lexZ LexP
  simp only [Bool.or_eq_true, Bool.and_eq_true, decide_eq_true_eq]
  constructor
  · rintro (h | ⟨h1, h2⟩)
    · exact .inl (by omega)
    · exact .inr ⟨by omega, by omega⟩
  · rintro (h | ⟨h1, h2⟩)
    · exact .inl (by omega)
    · exact .inr ⟨by omega, by omega⟩
theorem lexZ_asym {p q : Int × Int} (h : lexZ p q = true) : lexZ q p = false := by
  cases e : lexZ q p with
  | false => rfl
  | true =>
    rw [lexZ_iff] at h e
    unfold LexP at h e
    dsimp only at h e
    omega
theorem pos_of_mul {a W b D : Int} (e : a * W = b * D) (hW : 0 < W) (hD : 0 < D) (hb : 0 < b) : 0 < a := by
  have h : 0 < a * W := by rw [e]; exact Int.mul_pos hb hD
  exact Int.pos_of_mul_pos_left h (by omega) |> fun x => x
theorem lexP_of {v w : Int × Int} {W D : Int} (e1 : v.1 * W = w.1 * D) (e2 : v.2 * W = w.2 * D) (hW : 0 < W) (hD : 0 < D) (h : LexP w) : LexP v := by
  rcases h with h | ⟨h1, h2⟩
  · exact .inl (pos_of_mul e1 hW hD h)
  · refine .inr ⟨?_, pos_of_mul e2 hW hD h2⟩
    rw [h1, Int.zero_mul] at e1
    rcases Int.mul_eq_zero.mp e1 with h | h
    · exact h
    · omega
theorem sq_nonneg' (a : Int) : 0 ≤ a * a := by
  rcases Int.le_total 0 a with h | h
  · exact Int.mul_nonneg h h
  · exact Int.mul_nonneg_of_nonpos_of_nonpos h h
theorem turn1 {u a W q D : Int} (e : (u - a) * W = q * D) : (a - u) * W = -q * D := by
  rw [show a - u = -(u - a) by omega, Int.neg_mul, Int.neg_mul, e]
theorem turn2 {u a W q D : Int} (e : (u - a) * W = q * D) : (a - u) * W = q * -D := by
  rw [show a - u = -(u - a) by omega, Int.neg_mul, Int.mul_neg, e]
theorem turn3 {p W q D : Int} (e : p * W = q * D) : p * W = -q * -D := by
  rw [Int.neg_mul_neg, e]
theorem noShare_ahead {un : Int} (h : 0 < un) {s1 s2 t1 t2 : Int × Int} (a11 : lexZ s1 t1 = true) (a12 : lexZ s1 t2 = true) (a21 : lexZ s2 t1 = true) (a22 : lexZ s2 t2 = true) :
    noShare (scP un s1, scP un s2) (scP un t1, scP un t2) := by
  have b11 := lexZ_asym a11
  have b12 := lexZ_asym a12
  have b21 := lexZ_asym a21
  have b22 := lexZ_asym a22
  unfold noShare ordS
  dsimp only
  rw [lex_sc h, lex_sc h]
  cases e1 : lexZ s2 s1 <;> cases e2 : lexZ t2 t1 <;> simp [lex_sc h, a11, a12, a21, a22, b11, b12, b21, b22]
theorem noShare_behind {un : Int} (h : 0 < un) {s1 s2 t1 t2 : Int × Int} (a11 : lexZ t1 s1 = true) (a12 : lexZ t2 s1 = true) (a21 : lexZ t1 s2 = true) (a22 : lexZ t2 s2 = true) :
    noShare (scP un s1, scP un s2) (scP un t1, scP un t2) := by
  have b11 := lexZ_asym a11
  have b12 := lexZ_asym a12
  have b21 := lexZ_asym a21
  have b22 := lexZ_asym a22
  unfold noShare ordS
  dsimp only
  rw [lex_sc h, lex_sc h]
  cases e1 : lexZ s2 s1 <;> cases e2 : lexZ t2 t1 <;> simp [lex_sc h, a11, a12, a21, a22, b11, b12, b21, b22]
theorem apart_sc {un : Int} (h : 0 < un) {s1 s2 t1 t2 : Int × Int} {α β γ : Int} (hne : s1 ≠ s2) (hs1 : 0 < af α β γ s1) (hs2 : 0 < af α β γ s2) (ht1 : af α β γ t1 < 0) (ht2 : af α β γ t2 < 0) :
    Apart (scP un s1, scP un s2) (scP un t1, scP un t2) := by
  unfold Apart
  dsimp only
  rw [bd_sc h, bd_sc h, bd_sc h, bd_sc h]
  split
  · rename_i c
    obtain ⟨c1, c2⟩ := c
    have c1 := Int.sign_eq_zero_iff_zero.mp c1
    have c2 := Int.sign_eq_zero_iff_zero.mp c2
    obtain ⟨x1, y1⟩ := s1
    obtain ⟨x2, y2⟩ := s2
    obtain ⟨z1, w1⟩ := t1
    obtain ⟨z2, w2⟩ := t2
    unfold cr at c1 c2
    unfold af at hs1 hs2 ht1 ht2
    dsimp only at c1 c2 hs1 hs2 ht1 ht2
    have key : ∀ (a b u v : Int), (x2 - x1) * (v - b) - (y2 - y1) * (u - a) = 0 → α * (u - a) + β * (v - b) < 0 →
        (u - a) * ((x2 - x1) * (x2 - x1) + (y2 - y1) * (y2 - y1)) = (x2 - x1) * ((u - a) * (x2 - x1) + (v - b) * (y2 - y1)) ∧
        (v - b) * ((x2 - x1) * (x2 - x1) + (y2 - y1) * (y2 - y1)) = (y2 - y1) * ((u - a) * (x2 - x1) + (v - b) * (y2 - y1)) ∧
        (α * (x2 - x1) + β * (y2 - y1)) * ((u - a) * (x2 - x1) + (v - b) * (y2 - y1)) < 0 ∨ (x2 - x1) * (x2 - x1) + (y2 - y1) * (y2 - y1) ≤ 0 := by
      intro a b u v hc hf
      generalize u - a = p at *
      generalize v - b = q at *
      generalize x2 - x1 = X at *
      generalize y2 - y1 = Y at *
      by_cases hW : X * X + Y * Y ≤ 0
      · exact .inr hW
      · refine .inl ⟨by grind, by grind, ?_⟩
        have : (α * X + β * Y) * (p * X + q * Y) = (α * p + β * q) * (X * X + Y * Y) := by grind
        rw [this]
        exact Int.mul_neg_of_neg_of_pos hf (by omega)
    have hW : 0 < (x2 - x1) * (x2 - x1) + (y2 - y1) * (y2 - y1) := by
      have q1 : 0 ≤ (x2 - x1) * (x2 - x1) := sq_nonneg' _
      have q2 : 0 ≤ (y2 - y1) * (y2 - y1) := sq_nonneg' _
      refine Int.lt_iff_le_and_ne.mpr ⟨by omega, fun z => hne ?_⟩
      have r1 : (x2 - x1) * (x2 - x1) = 0 := by omega
      have r2 : (y2 - y1) * (y2 - y1) = 0 := by omega
      have r1 := (Int.mul_eq_zero.mp r1).elim id id
      have r2 := (Int.mul_eq_zero.mp r2).elim id id
      rw [show x1 = x2 by omega, show y1 = y2 by omega]
    have no : ¬ ((x2 - x1) * (x2 - x1) + (y2 - y1) * (y2 - y1) ≤ 0) := by omega
    have k11 := (key x1 y1 z1 w1 (by grind) (by grind)).resolve_right no
    have k12 := (key x1 y1 z2 w2 (by grind) (by grind)).resolve_right no
    have k21 := (key x2 y2 z1 w1 (by grind) (by grind)).resolve_right no
    have k22 := (key x2 y2 z2 w2 (by grind) (by grind)).resolve_right no
    have hLex : LexP (x2 - x1, y2 - y1) ∨ LexP (-(x2 - x1), -(y2 - y1)) := by
      unfold LexP
      dsimp only
      have : ¬ (x2 - x1 = 0 ∧ y2 - y1 = 0) := fun ⟨r1, r2⟩ => hne (by rw [show x1 = x2 by omega, show y1 = y2 by omega])
      omega
    generalize (x2 - x1) * (x2 - x1) + (y2 - y1) * (y2 - y1) = W at *
    generalize α * (x2 - x1) + β * (y2 - y1) = g at *
    have one : ∀ {a b u v D : Int}, (u - a) * W = (x2 - x1) * D ∧ (v - b) * W = (y2 - y1) * D ∧ g * D < 0 →
        (g < 0 → LexP (x2 - x1, y2 - y1) → lexZ (a, b) (u, v) = true) ∧ (g < 0 → LexP (-(x2 - x1), -(y2 - y1)) → lexZ (u, v) (a, b) = true) ∧
        (0 < g → LexP (x2 - x1, y2 - y1) → lexZ (u, v) (a, b) = true) ∧ (0 < g → LexP (-(x2 - x1), -(y2 - y1)) → lexZ (a, b) (u, v) = true) := by
      intro a b u v D ⟨e1, e2, e3⟩
      have dP : g < 0 → 0 < D := fun hg => by
        rcases Int.lt_trichotomy D 0 with d | d | d
        · have := Int.mul_pos_of_neg_of_neg hg d
          omega
        · rw [d, Int.mul_zero] at e3; omega
        · exact d
      have dN : 0 < g → D < 0 := fun hg => by
        rcases Int.lt_trichotomy D 0 with d | d | d
        · exact d
        · rw [d, Int.mul_zero] at e3; omega
        · have := Int.mul_pos hg d
          omega
      refine ⟨fun hg hl => ?_, fun hg hl => ?_, fun hg hl => ?_, fun hg hl => ?_⟩
      · rw [lexZ_iff]
        exact lexP_of (v := (u - a, v - b)) e1 e2 hW (dP hg) hl
      · rw [lexZ_iff]
        exact lexP_of (v := (a - u, b - v)) (w := (-(x2 - x1), -(y2 - y1))) (turn1 e1) (turn1 e2) hW (dP hg) hl
      · rw [lexZ_iff]
        exact lexP_of (v := (a - u, b - v)) (w := (x2 - x1, y2 - y1)) (D := -D) (turn2 e1) (turn2 e2) hW (by have := dN hg; omega) hl
      · rw [lexZ_iff]
        exact lexP_of (v := (u - a, v - b)) (w := (-(x2 - x1), -(y2 - y1))) (D := -D) (turn3 e1) (turn3 e2) hW (by have := dN hg; omega) hl
    have o11 := one k11
    have o12 := one k12
    have o21 := one k21
    have o22 := one k22
    have hg : g ≠ 0 := by
      rintro rfl
      have := k11.2.2
      rw [Int.zero_mul] at this
      omega
    rcases Int.lt_or_gt_of_ne hg with hg | hg <;> rcases hLex with hl | hl
    · exact noShare_ahead h (o11.1 hg hl) (o12.1 hg hl) (o21.1 hg hl) (o22.1 hg hl)
    · exact noShare_behind h (o11.2.1 hg hl) (o12.2.1 hg hl) (o21.2.1 hg hl) (o22.2.1 hg hl)
    · exact noShare_behind h (o11.2.2.1 hg hl) (o12.2.2.1 hg hl) (o21.2.2.1 hg hl) (o22.2.2.1 hg hl)
    · exact noShare_ahead h (o11.2.2.2 hg hl) (o12.2.2.2 hg hl) (o21.2.2.2 hg hl) (o22.2.2.2 hg hl)
  · rename_i c
    exact sep_cross hs1 hs2 ht1 ht2 c
end Odd
/-! rows of corners round a heart make fences -/
namespace Odd
open PySem PySem.Spec PyProof.Rows L2 GeoZ
def Lt (h a b : Int × Int) : Prop := 0 < cr h a b
def Sep (a b c d : Int × Int) : Prop := ∃ α β γ, 0 < af α β γ a ∧ 0 < af α β γ b ∧ af α β γ c < 0 ∧ af α β γ d < 0
theorem Sep.neg {a b c d : Int × Int} (s : Sep a b c d) : Sep c d a b := by
  obtain ⟨α, β, γ, h1, h2, h3, h4⟩ := s
  have e : ∀ p, af (-α) (-β) (-γ) p = - af α β γ p := fun p => by unfold af; grind
  exact ⟨-α, -β, -γ, by rw [e]; omega, by rw [e]; omega, by rw [e]; omega, by rw [e]; omega⟩
inductive GeoG (h : Int × Int) : List (Int × Int) → Prop
  | three {a b c : Int × Int} (h1 : Lt h a b) (h2 : Lt h b c) (h3 : Lt h c a) : GeoG h [a, b, c]
  | four {a b c d : Int × Int} (h1 : Lt h a b) (h2 : Lt h b c) (h3 : Lt h c d) (h4 : Lt h d a) (s1 : Sep a b c d) (s2 : Sep b c d a) : GeoG h [a, b, c, d]
  | five {a b c d e : Int × Int} (h1 : Lt h a b) (h2 : Lt h b c) (h3 : Lt h c d) (h4 : Lt h d e) (h5 : Lt h e a) (s1 : Sep a b c d) (s2 : Sep b c d e) (s3 : Sep c d e a) (s4 : Sep d e a b) (s5 : Sep e a b c) : GeoG h [a, b, c, d, e]
theorem GeoG.len {h : Int × Int} {ps : List (Int × Int)} (g : GeoG h ps) : 3 ≤ ps.length ∧ ps.length ≤ 5 := by
  cases g with
  | three h1 h2 h3 => exact ⟨show 3 ≤ 3 by decide, show 3 ≤ 5 by decide⟩
  | four h1 h2 h3 h4 s1 s2 => exact ⟨show 3 ≤ 4 by decide, show 4 ≤ 5 by decide⟩
  | five h1 h2 h3 h4 h5 s1 s2 s3 s4 s5 => exact ⟨show 3 ≤ 5 by decide, show 5 ≤ 5 by decide⟩
def mirZ (p : Int × Int) : Int × Int := (-p.1, p.2)
theorem Lt.mir {h a b : Int × Int} (l : Lt h a b) : Lt (mirZ h) (mirZ b) (mirZ a) := by
  unfold Lt mirZ cr at *
  dsimp only
  grind
theorem Sep.mir {a b c d : Int × Int} (s : Sep a b c d) : Sep (mirZ b) (mirZ a) (mirZ d) (mirZ c) := by
  obtain ⟨α, β, γ, h1, h2, h3, h4⟩ := s
  have e : ∀ p, af (-α) β γ (mirZ p) = af α β γ p := fun p => by unfold af mirZ; grind
  exact ⟨-α, β, γ, by rw [e]; exact h2, by rw [e]; exact h1, by rw [e]; exact h4, by rw [e]; exact h3⟩
theorem GeoG.mir {h : Int × Int} {ps : List (Int × Int)} (g : GeoG h ps) : GeoG (mirZ h) (mirL ps) := by
  cases g with
  | three h1 h2 h3 => exact .three h2.mir h1.mir h3.mir
  | four h1 h2 h3 h4 s1 s2 => exact .four h3.mir h2.mir h1.mir h4.mir s1.neg.mir s2.mir
  | five h1 h2 h3 h4 h5 s1 s2 s3 s4 s5 => exact .five h4.mir h3.mir h2.mir h1.mir h5.mir s2.neg.mir s1.neg.mir s5.neg.mir s4.neg.mir s3.neg.mir
theorem sub_sc {un : Int} (h : 0 < un) (p q : Int × Int) : vSub (scP un q) (scP un p) = scP un (q.1 - p.1, q.2 - p.2) := by
  have k : ∀ a b : Int, fSub (low b un) (low a un) = low (b - a) un := fun a b => by
    rw [low_sub h h]
    exact low_eq (Int.mul_ne_zero (by omega) (by omega)) (by omega) (by grind)
  unfold vSub scP
  dsimp only
  rw [k, k]
theorem cross_sc {un : Int} (h : 0 < un) (p q : Int × Int) : vCross (scP un p) (scP un q) = low (p.1 * q.2 - p.2 * q.1) (un * un) := by
  have h2 := Int.mul_pos h h
  unfold vCross scP
  dsimp only
  rw [low_mul h h, low_mul h h, low_sub h2 h2]
  exact low_eq (Int.mul_ne_zero (by omega) (by omega)) (by omega) (by grind)
theorem dot_sc {un : Int} (h : 0 < un) (p q : Int × Int) : vDot (scP un p) (scP un q) = low (p.1 * q.1 + p.2 * q.2) (un * un) := by
  have h2 := Int.mul_pos h h
  unfold vDot scP
  dsimp only
  rw [low_mul h h, low_mul h h, low_add h2 h2]
  exact low_eq (Int.mul_ne_zero (by omega) (by omega)) (by omega) (by grind)
theorem add_low {a b w : Int} (h : 0 < w) : fAdd (low a w) (low b w) = low (a + b) w := by
  rw [low_add h h]
  exact low_eq (Int.mul_ne_zero (by omega) (by omega)) (by omega) (by grind)
theorem sc_inj {un : Int} (h : 0 < un) {p q : Int × Int} (e : scP un p = scP un q) : p = q := by
  unfold scP at e
  injection e with e1 e2
  exact Prod.ext ((low_inj h).mp e1) ((low_inj h).mp e2)
theorem Lt.ne {h a b : Int × Int} (l : Lt h a b) : a ≠ b := by
  rintro rfl
  unfold Lt cr at l
  grind
theorem back_sc {un : Int} (h : 0 < un) {o a b c : Int × Int} (l1 : Lt o a b) (l2 : Lt o b c) : backB (scP un a, scP un b) (scP un b, scP un c) = false := by
  have h2 := Int.mul_pos h h
  unfold backB wayS
  dsimp only
  rw [sub_sc h, sub_sc h, cross_sc h, dot_sc h]
  dsimp only
  rw [Bool.and_eq_false_iff, decide_eq_false_iff_not, decide_eq_false_iff_not, low_zero h2]
  by_cases c0 : (b.1 - a.1) * (c.2 - b.2) - (b.2 - a.2) * (c.1 - b.1) = 0
  · refine .inr fun hn => ?_
    have hs : ((b.1 - a.1) * (c.1 - b.1) + (b.2 - a.2) * (c.2 - b.2)).sign = -1 := by
      rw [← low_sign h2]
      exact Int.sign_eq_neg_one_of_neg hn
    have hd := Int.neg_of_sign_eq_neg_one hs
    unfold Lt cr at l1 l2
    obtain ⟨o1, o2⟩ := o
    obtain ⟨a1, a2⟩ := a
    obtain ⟨b1, b2⟩ := b
    obtain ⟨c1, c2⟩ := c
    dsimp only at *
    have q1 := sq_nonneg' (b1 - a1)
    have q2 := sq_nonneg' (b2 - a2)
    have i1 : ((b1 - o1) * (c2 - b2) - (b2 - o2) * (c1 - b1)) * ((b1 - a1) * (b1 - a1) + (b2 - a2) * (b2 - a2)) = ((a1 - o1) * (b2 - o2) - (a2 - o2) * (b1 - o1)) * ((b1 - a1) * (c1 - b1) + (b2 - a2) * (c2 - b2)) + ((b1 - o1) * (b1 - a1) + (b2 - o2) * (b2 - a2)) * ((b1 - a1) * (c2 - b2) - (b2 - a2) * (c1 - b1)) := by grind
    have i2 : (b1 - o1) * (c2 - o2) - (b2 - o2) * (c1 - o1) = (b1 - o1) * (c2 - b2) - (b2 - o2) * (c1 - b1) := by grind
    rw [i2] at l2
    rw [c0, Int.mul_zero, Int.add_zero] at i1
    have n1 := Int.mul_neg_of_pos_of_neg l1 hd
    have n2 := Int.mul_nonneg (a := (b1 - o1) * (c2 - b2) - (b2 - o2) * (c1 - b1)) (b := (b1 - a1) * (b1 - a1) + (b2 - a2) * (b2 - a2)) (by omega) (by omega)
    omega
  · exact .inl c0
theorem Sep.apart {un : Int} (h : 0 < un) {a b c d : Int × Int} (hne : a ≠ b) (s : Sep a b c d) : Apart (scP un a, scP un b) (scP un c, scP un d) := by
  obtain ⟨α, β, γ, h1, h2, h3, h4⟩ := s
  exact apart_sc h hne h1 h2 h3 h4
def Small (p : Int × Int) : Prop := p.1.natAbs < 2 ^ 27 ∧ p.2.natAbs < 2 ^ 27
theorem sc_pt {un : Int} (h : 0 < un) (h2 : un < 2 ^ 27) {p : Int × Int} (s : Small p) : CanonP (scP un p) ∧ SmP 49 (scP un p) := by
  have k : ∀ a : Int, a.natAbs < 2 ^ 27 → Canon (low a un) ∧ Sm 49 (low a un) := fun a ha => by
    have l := low_is (t := a) (u := un) (by omega)
    refine ⟨l.1.1, ?_, ?_⟩
    · exact Nat.lt_of_le_of_lt l.2.1 (Nat.lt_of_lt_of_le ha (by decide))
    · exact Nat.lt_of_le_of_lt l.2.2 (by omega)
  exact ⟨⟨(k _ s.1).1, (k _ s.2).1⟩, (k _ s.1).2, (k _ s.2).2⟩
theorem GeoG.whole {h : Int × Int} {ps : List (Int × Int)} (g : GeoG h ps) (hs : ∀ p ∈ ps, Small p) {un : Int} (hu : 0 < un) (hu2 : un < 2 ^ 27) :
    Whole 49 (ps.map (scP un)) ∧ 0 < (areaL (sideL (ps.map (scP un)))).1 := by
  have w2 := Int.mul_pos hu hu
  have z : ((0 : Int), (1 : Int)) = low 0 (un * un) := ((low_zero w2).mpr rfl).symm
  have pts : ∀ p ∈ ps.map (scP un), CanonP p ∧ SmP 49 p := fun p hp => by
    obtain ⟨q, hq, rfl⟩ := List.mem_map.mp hp
    exact sc_pt hu hu2 (hs q hq)
  have ne : ∀ {a b : Int × Int}, Lt h a b → scP un a ≠ scP un b := fun l e => l.ne (sc_inj hu e)
  cases g with
  | @three a b c h1 h2 h3  =>
    refine ⟨⟨⟨show 3 ≤ 3 by decide, show 3 ≤ 40 by decide⟩, pts, by decide, show 3 * (4 * 49 + 2) ≤ 3900 by decide, ?_, ?_, ?_⟩, ?_⟩
    · intro s hm
      replace hm : s ∈ [(scP un a, scP un b), (scP un b, scP un c), (scP un c, scP un a)] := hm
      simp only [List.mem_cons, List.not_mem_nil, or_false] at hm
      rcases hm with rfl | rfl | rfl
      · exact ne h1
      · exact ne h2
      · exact ne h3
    · intro i s t e1 e2
      rw [show (List.map (scP un) [a, b, c]).length = 3 from rfl] at e1
      have hi : i < 3 := (List.getElem?_eq_some_iff.mp e2).1
      rcases (by omega : i = 0 ∨ i = 1 ∨ i = 2) with rfl | rfl | rfl
      · obtain rfl := Option.some.inj (show some (scP un c, scP un a) = some s from e1)
        obtain rfl := Option.some.inj (show some (scP un a, scP un b) = some t from e2)
        exact back_sc hu h3 h1
      · obtain rfl := Option.some.inj (show some (scP un a, scP un b) = some s from e1)
        obtain rfl := Option.some.inj (show some (scP un b, scP un c) = some t from e2)
        exact back_sc hu h1 h2
      · obtain rfl := Option.some.inj (show some (scP un b, scP un c) = some s from e1)
        obtain rfl := Option.some.inj (show some (scP un c, scP un a) = some t from e2)
        exact back_sc hu h2 h3
    · intro i j s t hij e1 e2 hn
      have hj : j < 3 := (List.getElem?_eq_some_iff.mp e2).1
      rcases (by omega : (i = 0 ∧ j = 1) ∨ (i = 0 ∧ j = 2) ∨ (i = 1 ∧ j = 2)) with ⟨rfl, rfl⟩ | ⟨rfl, rfl⟩ | ⟨rfl, rfl⟩
      · exact absurd (show nextB 0 1 3 = false from hn) (by decide)
      · exact absurd (show nextB 0 2 3 = false from hn) (by decide)
      · exact absurd (show nextB 1 2 3 = false from hn) (by decide)
    · show 0 < (fAdd (fAdd (fAdd (((0 : Int), (1 : Int))) (vCross (scP un a) (scP un b))) (vCross (scP un b) (scP un c))) (vCross (scP un c) (scP un a))).1
      rw [cross_sc hu, cross_sc hu, cross_sc hu, z, add_low w2, add_low w2, add_low w2]
      refine Int.pos_of_sign_eq_one ?_
      rw [low_sign w2]
      refine Int.sign_eq_one_of_pos ?_
      unfold Lt cr at h1 h2 h3
      clear  ne pts hs z
      grind
  | @four a b c d h1 h2 h3 h4 s1 s2 =>
    refine ⟨⟨⟨show 3 ≤ 4 by decide, show 4 ≤ 40 by decide⟩, pts, by decide, show 4 * (4 * 49 + 2) ≤ 3900 by decide, ?_, ?_, ?_⟩, ?_⟩
    · intro s hm
      replace hm : s ∈ [(scP un a, scP un b), (scP un b, scP un c), (scP un c, scP un d), (scP un d, scP un a)] := hm
      simp only [List.mem_cons, List.not_mem_nil, or_false] at hm
      rcases hm with rfl | rfl | rfl | rfl
      · exact ne h1
      · exact ne h2
      · exact ne h3
      · exact ne h4
    · intro i s t e1 e2
      rw [show (List.map (scP un) [a, b, c, d]).length = 4 from rfl] at e1
      have hi : i < 4 := (List.getElem?_eq_some_iff.mp e2).1
      rcases (by omega : i = 0 ∨ i = 1 ∨ i = 2 ∨ i = 3) with rfl | rfl | rfl | rfl
      · obtain rfl := Option.some.inj (show some (scP un d, scP un a) = some s from e1)
        obtain rfl := Option.some.inj (show some (scP un a, scP un b) = some t from e2)
        exact back_sc hu h4 h1
      · obtain rfl := Option.some.inj (show some (scP un a, scP un b) = some s from e1)
        obtain rfl := Option.some.inj (show some (scP un b, scP un c) = some t from e2)
        exact back_sc hu h1 h2
      · obtain rfl := Option.some.inj (show some (scP un b, scP un c) = some s from e1)
        obtain rfl := Option.some.inj (show some (scP un c, scP un d) = some t from e2)
        exact back_sc hu h2 h3
      · obtain rfl := Option.some.inj (show some (scP un c, scP un d) = some s from e1)
        obtain rfl := Option.some.inj (show some (scP un d, scP un a) = some t from e2)
        exact back_sc hu h3 h4
    · intro i j s t hij e1 e2 hn
      have hj : j < 4 := (List.getElem?_eq_some_iff.mp e2).1
      rcases (by omega : (i = 0 ∧ j = 1) ∨ (i = 0 ∧ j = 2) ∨ (i = 0 ∧ j = 3) ∨ (i = 1 ∧ j = 2) ∨ (i = 1 ∧ j = 3) ∨ (i = 2 ∧ j = 3)) with ⟨rfl, rfl⟩ | ⟨rfl, rfl⟩ | ⟨rfl, rfl⟩ | ⟨rfl, rfl⟩ | ⟨rfl, rfl⟩ | ⟨rfl, rfl⟩
      · exact absurd (show nextB 0 1 4 = false from hn) (by decide)
      · obtain rfl := Option.some.inj (show some (scP un a, scP un b) = some s from e1)
        obtain rfl := Option.some.inj (show some (scP un c, scP un d) = some t from e2)
        exact s1.apart hu h1.ne
      · exact absurd (show nextB 0 3 4 = false from hn) (by decide)
      · exact absurd (show nextB 1 2 4 = false from hn) (by decide)
      · obtain rfl := Option.some.inj (show some (scP un b, scP un c) = some s from e1)
        obtain rfl := Option.some.inj (show some (scP un d, scP un a) = some t from e2)
        exact s2.apart hu h2.ne
      · exact absurd (show nextB 2 3 4 = false from hn) (by decide)
    · show 0 < (fAdd (fAdd (fAdd (fAdd (((0 : Int), (1 : Int))) (vCross (scP un a) (scP un b))) (vCross (scP un b) (scP un c))) (vCross (scP un c) (scP un d))) (vCross (scP un d) (scP un a))).1
      rw [cross_sc hu, cross_sc hu, cross_sc hu, cross_sc hu, z, add_low w2, add_low w2, add_low w2, add_low w2]
      refine Int.pos_of_sign_eq_one ?_
      rw [low_sign w2]
      refine Int.sign_eq_one_of_pos ?_
      unfold Lt cr at h1 h2 h3 h4
      clear s1 s2 ne pts hs z
      grind
  | @five a b c d e h1 h2 h3 h4 h5 s1 s2 s3 s4 s5 =>
    refine ⟨⟨⟨show 3 ≤ 5 by decide, show 5 ≤ 40 by decide⟩, pts, by decide, show 5 * (4 * 49 + 2) ≤ 3900 by decide, ?_, ?_, ?_⟩, ?_⟩
    · intro s hm
      replace hm : s ∈ [(scP un a, scP un b), (scP un b, scP un c), (scP un c, scP un d), (scP un d, scP un e), (scP un e, scP un a)] := hm
      simp only [List.mem_cons, List.not_mem_nil, or_false] at hm
      rcases hm with rfl | rfl | rfl | rfl | rfl
      · exact ne h1
      · exact ne h2
      · exact ne h3
      · exact ne h4
      · exact ne h5
    · intro i s t e1 e2
      rw [show (List.map (scP un) [a, b, c, d, e]).length = 5 from rfl] at e1
      have hi : i < 5 := (List.getElem?_eq_some_iff.mp e2).1
      rcases (by omega : i = 0 ∨ i = 1 ∨ i = 2 ∨ i = 3 ∨ i = 4) with rfl | rfl | rfl | rfl | rfl
      · obtain rfl := Option.some.inj (show some (scP un e, scP un a) = some s from e1)
        obtain rfl := Option.some.inj (show some (scP un a, scP un b) = some t from e2)
        exact back_sc hu h5 h1
      · obtain rfl := Option.some.inj (show some (scP un a, scP un b) = some s from e1)
        obtain rfl := Option.some.inj (show some (scP un b, scP un c) = some t from e2)
        exact back_sc hu h1 h2
      · obtain rfl := Option.some.inj (show some (scP un b, scP un c) = some s from e1)
        obtain rfl := Option.some.inj (show some (scP un c, scP un d) = some t from e2)
        exact back_sc hu h2 h3
      · obtain rfl := Option.some.inj (show some (scP un c, scP un d) = some s from e1)
        obtain rfl := Option.some.inj (show some (scP un d, scP un e) = some t from e2)
        exact back_sc hu h3 h4
      · obtain rfl := Option.some.inj (show some (scP un d, scP un e) = some s from e1)
        obtain rfl := Option.some.inj (show some (scP un e, scP un a) = some t from e2)
        exact back_sc hu h4 h5
    · intro i j s t hij e1 e2 hn
      have hj : j < 5 := (List.getElem?_eq_some_iff.mp e2).1
      rcases (by omega : (i = 0 ∧ j = 1) ∨ (i = 0 ∧ j = 2) ∨ (i = 0 ∧ j = 3) ∨ (i = 0 ∧ j = 4) ∨ (i = 1 ∧ j = 2) ∨ (i = 1 ∧ j = 3) ∨ (i = 1 ∧ j = 4) ∨ (i = 2 ∧ j = 3) ∨ (i = 2 ∧ j = 4) ∨ (i = 3 ∧ j = 4)) with ⟨rfl, rfl⟩ | ⟨rfl, rfl⟩ | ⟨rfl, rfl⟩ | ⟨rfl, rfl⟩ | ⟨rfl, rfl⟩ | ⟨rfl, rfl⟩ | ⟨rfl, rfl⟩ | ⟨rfl, rfl⟩ | ⟨rfl, rfl⟩ | ⟨rfl, rfl⟩
      · exact absurd (show nextB 0 1 5 = false from hn) (by decide)
      · obtain rfl := Option.some.inj (show some (scP un a, scP un b) = some s from e1)
        obtain rfl := Option.some.inj (show some (scP un c, scP un d) = some t from e2)
        exact s1.apart hu h1.ne
      · obtain rfl := Option.some.inj (show some (scP un a, scP un b) = some s from e1)
        obtain rfl := Option.some.inj (show some (scP un d, scP un e) = some t from e2)
        exact (s4.neg).apart hu h1.ne
      · exact absurd (show nextB 0 4 5 = false from hn) (by decide)
      · exact absurd (show nextB 1 2 5 = false from hn) (by decide)
      · obtain rfl := Option.some.inj (show some (scP un b, scP un c) = some s from e1)
        obtain rfl := Option.some.inj (show some (scP un d, scP un e) = some t from e2)
        exact s2.apart hu h2.ne
      · obtain rfl := Option.some.inj (show some (scP un b, scP un c) = some s from e1)
        obtain rfl := Option.some.inj (show some (scP un e, scP un a) = some t from e2)
        exact (s5.neg).apart hu h2.ne
      · exact absurd (show nextB 2 3 5 = false from hn) (by decide)
      · obtain rfl := Option.some.inj (show some (scP un c, scP un d) = some s from e1)
        obtain rfl := Option.some.inj (show some (scP un e, scP un a) = some t from e2)
        exact s3.apart hu h3.ne
      · exact absurd (show nextB 3 4 5 = false from hn) (by decide)
    · show 0 < (fAdd (fAdd (fAdd (fAdd (fAdd (((0 : Int), (1 : Int))) (vCross (scP un a) (scP un b))) (vCross (scP un b) (scP un c))) (vCross (scP un c) (scP un d))) (vCross (scP un d) (scP un e))) (vCross (scP un e) (scP un a))).1
      rw [cross_sc hu, cross_sc hu, cross_sc hu, cross_sc hu, cross_sc hu, z, add_low w2, add_low w2, add_low w2, add_low w2, add_low w2]
      refine Int.pos_of_sign_eq_one ?_
      rw [low_sign w2]
      refine Int.sign_eq_one_of_pos ?_
      unfold Lt cr at h1 h2 h3 h4 h5
      clear s1 s2 s3 s4 s5 ne pts hs z
      grind
end Odd
/-! drawn stars are rows round a heart; lots of them -/
namespace Odd
open PySem PySem.Spec PyProof.Rows L2 GeoZ
def wayZ (d : Nat) : Int × Int := wayL.getD d (0, 0)
def crT (d e : Nat) : Bool := decide (0 < (wayZ d).1 * (wayZ e).2 - (wayZ d).2 * (wayZ e).1)
def candL : List (Int × Int) := [(24, 0), (24, 3), (23, 6), (22, 9), (21, 12), (19, 15), (17, 17), (15, 19), (12, 21), (9, 22), (6, 23), (3, 24), (0, 24), (-3, 24), (-6, 23), (-9, 22), (-12, 21), (-15, 19), (-17, 17), (-19, 15), (-21, 12), (-22, 9), (-23, 6), (-24, 3), (-24, 0), (-24, -3), (-23, -6), (-22, -9), (-21, -12), (-19, -15), (-17, -17), (-15, -19), (-12, -21), (-9, -22), (-6, -23), (-3, -24), (0, -24), (3, -24), (6, -23), (9, -22), (12, -21), (15, -19), (17, -17), (19, -15), (21, -12), (22, -9), (23, -6), (24, -3)]
def onSide (x y : Int) (d : Nat) : Int := x * (wayZ d).1 + y * (wayZ d).2
def sepT (a b c d : Nat) : Bool := candL.any fun q => decide (0 < onSide q.1 q.2 a) && decide (0 < onSide q.1 q.2 b) && decide (onSide q.1 q.2 c < 0) && decide (onSide q.1 q.2 d < 0)
theorem lt_corner {h : Int × Int} {d e : Nat} {f g : Int} (hf : 0 < f) (hg : 0 < g) (t : crT d e = true) : Lt h (cornerZ h d f) (cornerZ h e g) := by
  have t := of_decide_eq_true t
  show 0 < cr h (h.1 + (wayZ d).1 * f, h.2 + (wayZ d).2 * f) (h.1 + (wayZ e).1 * g, h.2 + (wayZ e).2 * g)
  generalize wayZ d = p at *
  generalize wayZ e = q at *
  have e : cr h (h.1 + p.1 * f, h.2 + p.2 * f) (h.1 + q.1 * g, h.2 + q.2 * g) = (p.1 * q.2 - p.2 * q.1) * (f * g) := by
    unfold cr
    dsimp only
    grind
  rw [e]
  exact Int.mul_pos t (Int.mul_pos hf hg)
theorem sep_corner {h : Int × Int} {a b c d : Nat} {f1 f2 f3 f4 : Int} (h1 : 0 < f1) (h2 : 0 < f2) (h3 : 0 < f3) (h4 : 0 < f4) (t : sepT a b c d = true) : Sep (cornerZ h a f1) (cornerZ h b f2) (cornerZ h c f3) (cornerZ h d f4) := by
  obtain ⟨⟨x, y⟩, _, hq⟩ := List.any_eq_true.mp t
  simp only [Bool.and_eq_true, decide_eq_true_eq] at hq
  obtain ⟨⟨⟨q1, q2⟩, q3⟩, q4⟩ := hq
  have e : ∀ (d : Nat) (f : Int), af x y (-(x * h.1 + y * h.2)) (cornerZ h d f) = onSide x y d * f := fun d f => by
    show af x y (-(x * h.1 + y * h.2)) (h.1 + (wayZ d).1 * f, h.2 + (wayZ d).2 * f) = (x * (wayZ d).1 + y * (wayZ d).2) * f
    unfold af
    dsimp only
    grind
  refine ⟨x, y, -(x * h.1 + y * h.2), ?_, ?_, ?_, ?_⟩ <;> rw [e]
  · exact Int.mul_pos q1 h1
  · exact Int.mul_pos q2 h2
  · exact Int.mul_neg_of_neg_of_pos q3 h3
  · exact Int.mul_neg_of_neg_of_pos q4 h4
theorem tab3 : ((List.range 12).all fun st => (List.range 2).all fun e0 => (List.range 2).all fun e1 => (List.range 2).all fun e2 => crT ((st + 0 + e0) % 12) ((st + 4 + e1) % 12) && crT ((st + 4 + e1) % 12) ((st + 8 + e2) % 12) && crT ((st + 8 + e2) % 12) ((st + 0 + e0) % 12)) = true := by decide +kernel
theorem table3 : ∀ st, st < 12 → ∀ e0, e0 < 2 → ∀ e1, e1 < 2 → ∀ e2, e2 < 2 → crT ((st + 0 + e0) % 12) ((st + 4 + e1) % 12) = true ∧ crT ((st + 4 + e1) % 12) ((st + 8 + e2) % 12) = true ∧ crT ((st + 8 + e2) % 12) ((st + 0 + e0) % 12) = true := by
  intro st hst e0 x0 e1 x1 e2 x2
  have t := List.all_eq_true.mp tab3 st (List.mem_range.mpr hst)
  replace t := List.all_eq_true.mp t e0 (List.mem_range.mpr x0)
  replace t := List.all_eq_true.mp t e1 (List.mem_range.mpr x1)
  replace t := List.all_eq_true.mp t e2 (List.mem_range.mpr x2)
  simp only [Bool.and_eq_true, and_assoc] at t
  exact t
theorem tab4 : ((List.range 12).all fun st => (List.range 2).all fun e0 => (List.range 2).all fun e1 => (List.range 2).all fun e2 => (List.range 2).all fun e3 => crT ((st + 0 + e0) % 12) ((st + 3 + e1) % 12) && crT ((st + 3 + e1) % 12) ((st + 6 + e2) % 12) && crT ((st + 6 + e2) % 12) ((st + 9 + e3) % 12) && crT ((st + 9 + e3) % 12) ((st + 0 + e0) % 12) && sepT ((st + 0 + e0) % 12) ((st + 3 + e1) % 12) ((st + 6 + e2) % 12) ((st + 9 + e3) % 12) && sepT ((st + 3 + e1) % 12) ((st + 6 + e2) % 12) ((st + 9 + e3) % 12) ((st + 0 + e0) % 12)) = true := by decide +kernel
theorem table4 : ∀ st, st < 12 → ∀ e0, e0 < 2 → ∀ e1, e1 < 2 → ∀ e2, e2 < 2 → ∀ e3, e3 < 2 → crT ((st + 0 + e0) % 12) ((st + 3 + e1) % 12) = true ∧ crT ((st + 3 + e1) % 12) ((st + 6 + e2) % 12) = true ∧ crT ((st + 6 + e2) % 12) ((st + 9 + e3) % 12) = true ∧ crT ((st + 9 + e3) % 12) ((st + 0 + e0) % 12) = true ∧ sepT ((st + 0 + e0) % 12) ((st + 3 + e1) % 12) ((st + 6 + e2) % 12) ((st + 9 + e3) % 12) = true ∧ sepT ((st + 3 + e1) % 12) ((st + 6 + e2) % 12) ((st + 9 + e3) % 12) ((st + 0 + e0) % 12) = true := by
  intro st hst e0 x0 e1 x1 e2 x2 e3 x3
  have t := List.all_eq_true.mp tab4 st (List.mem_range.mpr hst)
  replace t := List.all_eq_true.mp t e0 (List.mem_range.mpr x0)
  replace t := List.all_eq_true.mp t e1 (List.mem_range.mpr x1)
  replace t := List.all_eq_true.mp t e2 (List.mem_range.mpr x2)
  replace t := List.all_eq_true.mp t e3 (List.mem_range.mpr x3)
  simp only [Bool.and_eq_true, and_assoc] at t
  exact t
theorem tab5 : ((List.range 12).all fun st => (List.range 2).all fun e0 => (List.range 2).all fun e1 => (List.range 2).all fun e2 => (List.range 2).all fun e3 => (List.range 2).all fun e4 => crT ((st + 0 + e0) % 12) ((st + 2 + e1) % 12) && crT ((st + 2 + e1) % 12) ((st + 4 + e2) % 12) && crT ((st + 4 + e2) % 12) ((st + 7 + e3) % 12) && crT ((st + 7 + e3) % 12) ((st + 9 + e4) % 12) && crT ((st + 9 + e4) % 12) ((st + 0 + e0) % 12) && sepT ((st + 0 + e0) % 12) ((st + 2 + e1) % 12) ((st + 4 + e2) % 12) ((st + 7 + e3) % 12) && sepT ((st + 2 + e1) % 12) ((st + 4 + e2) % 12) ((st + 7 + e3) % 12) ((st + 9 + e4) % 12) && sepT ((st + 4 + e2) % 12) ((st + 7 + e3) % 12) ((st + 9 + e4) % 12) ((st + 0 + e0) % 12) && sepT ((st + 7 + e3) % 12) ((st + 9 + e4) % 12) ((st + 0 + e0) % 12) ((st + 2 + e1) % 12) && sepT ((st + 9 + e4) % 12) ((st + 0 + e0) % 12) ((st + 2 + e1) % 12) ((st + 4 + e2) % 12)) = true := by decide +kernel
theorem table5 : ∀ st, st < 12 → ∀ e0, e0 < 2 → ∀ e1, e1 < 2 → ∀ e2, e2 < 2 → ∀ e3, e3 < 2 → ∀ e4, e4 < 2 → crT ((st + 0 + e0) % 12) ((st + 2 + e1) % 12) = true ∧ crT ((st + 2 + e1) % 12) ((st + 4 + e2) % 12) = true ∧ crT ((st + 4 + e2) % 12) ((st + 7 + e3) % 12) = true ∧ crT ((st + 7 + e3) % 12) ((st + 9 + e4) % 12) = true ∧ crT ((st + 9 + e4) % 12) ((st + 0 + e0) % 12) = true ∧ sepT ((st + 0 + e0) % 12) ((st + 2 + e1) % 12) ((st + 4 + e2) % 12) ((st + 7 + e3) % 12) = true ∧ sepT ((st + 2 + e1) % 12) ((st + 4 + e2) % 12) ((st + 7 + e3) % 12) ((st + 9 + e4) % 12) = true ∧ sepT ((st + 4 + e2) % 12) ((st + 7 + e3) % 12) ((st + 9 + e4) % 12) ((st + 0 + e0) % 12) = true ∧ sepT ((st + 7 + e3) % 12) ((st + 9 + e4) % 12) ((st + 0 + e0) % 12) ((st + 2 + e1) % 12) = true ∧ sepT ((st + 9 + e4) % 12) ((st + 0 + e0) % 12) ((st + 2 + e1) % 12) ((st + 4 + e2) % 12) = true := by
  intro st hst e0 x0 e1 x1 e2 x2 e3 x3 e4 x4
  have t := List.all_eq_true.mp tab5 st (List.mem_range.mpr hst)
  replace t := List.all_eq_true.mp t e0 (List.mem_range.mpr x0)
  replace t := List.all_eq_true.mp t e1 (List.mem_range.mpr x1)
  replace t := List.all_eq_true.mp t e2 (List.mem_range.mpr x2)
  replace t := List.all_eq_true.mp t e3 (List.mem_range.mpr x3)
  replace t := List.all_eq_true.mp t e4 (List.mem_range.mpr x4)
  simp only [Bool.and_eq_true, and_assoc] at t
  exact t
theorem star_geo {m : Nat} {h : Int × Int} {lo sp : Int} {st : Nat} {ps : List (Int × Int)} (hm : m = 3 ∨ m = 4 ∨ m = 5) (hst : st < 12) (hlo : 0 < lo) (s : Star m h lo sp st m ps) : GeoG h ps := by
  rcases hm with rfl | rfl | rfl
  · cases s with
    | snoc s x2 l2 u2 =>
    cases s with
    | snoc s x1 l1 u1 =>
    cases s with
    | snoc s x0 l0 u0 =>
    cases s
    obtain ⟨t0, t1, t2⟩ := table3 st hst _ x0 _ x1 _ x2
    exact .three (lt_corner (show 0 < _ from Int.lt_of_lt_of_le hlo l0) (show 0 < _ from Int.lt_of_lt_of_le hlo l1) t0) (lt_corner (show 0 < _ from Int.lt_of_lt_of_le hlo l1) (show 0 < _ from Int.lt_of_lt_of_le hlo l2) t1) (lt_corner (show 0 < _ from Int.lt_of_lt_of_le hlo l2) (show 0 < _ from Int.lt_of_lt_of_le hlo l0) t2)
  · cases s with
    | snoc s x3 l3 u3 =>
    cases s with
    | snoc s x2 l2 u2 =>
    cases s with
    | snoc s x1 l1 u1 =>
    cases s with
    | snoc s x0 l0 u0 =>
    cases s
    obtain ⟨t0, t1, t2, t3, z0, z1⟩ := table4 st hst _ x0 _ x1 _ x2 _ x3
    exact .four (lt_corner (show 0 < _ from Int.lt_of_lt_of_le hlo l0) (show 0 < _ from Int.lt_of_lt_of_le hlo l1) t0) (lt_corner (show 0 < _ from Int.lt_of_lt_of_le hlo l1) (show 0 < _ from Int.lt_of_lt_of_le hlo l2) t1) (lt_corner (show 0 < _ from Int.lt_of_lt_of_le hlo l2) (show 0 < _ from Int.lt_of_lt_of_le hlo l3) t2) (lt_corner (show 0 < _ from Int.lt_of_lt_of_le hlo l3) (show 0 < _ from Int.lt_of_lt_of_le hlo l0) t3) (sep_corner (show 0 < _ from Int.lt_of_lt_of_le hlo l0) (show 0 < _ from Int.lt_of_lt_of_le hlo l1) (show 0 < _ from Int.lt_of_lt_of_le hlo l2) (show 0 < _ from Int.lt_of_lt_of_le hlo l3) z0) (sep_corner (show 0 < _ from Int.lt_of_lt_of_le hlo l1) (show 0 < _ from Int.lt_of_lt_of_le hlo l2) (show 0 < _ from Int.lt_of_lt_of_le hlo l3) (show 0 < _ from Int.lt_of_lt_of_le hlo l0) z1)
  · cases s with
    | snoc s x4 l4 u4 =>
    cases s with
    | snoc s x3 l3 u3 =>
    cases s with
    | snoc s x2 l2 u2 =>
    cases s with
    | snoc s x1 l1 u1 =>
    cases s with
    | snoc s x0 l0 u0 =>
    cases s
    obtain ⟨t0, t1, t2, t3, t4, z0, z1, z2, z3, z4⟩ := table5 st hst _ x0 _ x1 _ x2 _ x3 _ x4
    exact .five (lt_corner (show 0 < _ from Int.lt_of_lt_of_le hlo l0) (show 0 < _ from Int.lt_of_lt_of_le hlo l1) t0) (lt_corner (show 0 < _ from Int.lt_of_lt_of_le hlo l1) (show 0 < _ from Int.lt_of_lt_of_le hlo l2) t1) (lt_corner (show 0 < _ from Int.lt_of_lt_of_le hlo l2) (show 0 < _ from Int.lt_of_lt_of_le hlo l3) t2) (lt_corner (show 0 < _ from Int.lt_of_lt_of_le hlo l3) (show 0 < _ from Int.lt_of_lt_of_le hlo l4) t3) (lt_corner (show 0 < _ from Int.lt_of_lt_of_le hlo l4) (show 0 < _ from Int.lt_of_lt_of_le hlo l0) t4) (sep_corner (show 0 < _ from Int.lt_of_lt_of_le hlo l0) (show 0 < _ from Int.lt_of_lt_of_le hlo l1) (show 0 < _ from Int.lt_of_lt_of_le hlo l2) (show 0 < _ from Int.lt_of_lt_of_le hlo l3) z0) (sep_corner (show 0 < _ from Int.lt_of_lt_of_le hlo l1) (show 0 < _ from Int.lt_of_lt_of_le hlo l2) (show 0 < _ from Int.lt_of_lt_of_le hlo l3) (show 0 < _ from Int.lt_of_lt_of_le hlo l4) z1) (sep_corner (show 0 < _ from Int.lt_of_lt_of_le hlo l2) (show 0 < _ from Int.lt_of_lt_of_le hlo l3) (show 0 < _ from Int.lt_of_lt_of_le hlo l4) (show 0 < _ from Int.lt_of_lt_of_le hlo l0) z2) (sep_corner (show 0 < _ from Int.lt_of_lt_of_le hlo l3) (show 0 < _ from Int.lt_of_lt_of_le hlo l4) (show 0 < _ from Int.lt_of_lt_of_le hlo l0) (show 0 < _ from Int.lt_of_lt_of_le hlo l1) z3) (sep_corner (show 0 < _ from Int.lt_of_lt_of_le hlo l4) (show 0 < _ from Int.lt_of_lt_of_le hlo l0) (show 0 < _ from Int.lt_of_lt_of_le hlo l1) (show 0 < _ from Int.lt_of_lt_of_le hlo l2) z4)
theorem star_near {m : Nat} {h : Int × Int} {lo sp : Int} {st i : Nat} {ps : List (Int × Int)} (hlo : 0 < lo) (hsp : lo + sp ≤ 1000000) (s : Star m h lo sp st i ps) : ∀ p ∈ ps, -12000000 ≤ p.1 - h.1 ∧ p.1 - h.1 ≤ 12000000 ∧ -12000000 ≤ p.2 - h.2 ∧ p.2 - h.2 ≤ 12000000 := by
  induction s with
  | nil => intro p hp; cases hp
  | @snoc i ps e f t he h1 h2 ih =>
    intro p hp
    rcases List.mem_append.mp hp with hp | hp
    · exact ih p hp
    · rw [List.mem_singleton.mp hp]
      have tb : ∀ d, d < 12 → (wayZ d).1.natAbs ≤ 12 ∧ (wayZ d).2.natAbs ≤ 12 := by decide +kernel
      obtain ⟨b1, b2⟩ := tb ((st + 12 * i / m + e) % 12) (Nat.mod_lt _ (by decide))
      show -12000000 ≤ (h.1 + (wayZ ((st + 12 * i / m + e) % 12)).1 * f) - h.1 ∧ (h.1 + (wayZ ((st + 12 * i / m + e) % 12)).1 * f) - h.1 ≤ 12000000 ∧ -12000000 ≤ (h.2 + (wayZ ((st + 12 * i / m + e) % 12)).2 * f) - h.2 ∧ (h.2 + (wayZ ((st + 12 * i / m + e) % 12)).2 * f) - h.2 ≤ 12000000
      generalize wayZ ((st + 12 * i / m + e) % 12) = q at *
      have k : ∀ a : Int, a.natAbs ≤ 12 → -12000000 ≤ a * f ∧ a * f ≤ 12000000 := fun a ha => by
        have h3 : (a * f).natAbs ≤ 12 * 1000000 := by
          rw [Int.natAbs_mul]
          exact Nat.mul_le_mul ha (by omega)
        omega
      have k1 := k _ b1
      have k2 := k _ b2
      omega
end Odd
/-! the drawn lots, and the mirrored ones -/
namespace Odd
open PySem PySem.Spec PyProof.Rows L2 GeoZ
theorem sideL_mem {α β : Type} {f : α → β} {ps : List α} {s : β × β} (h : s ∈ sideL (ps.map f)) : ∃ a b, a ∈ ps ∧ b ∈ ps ∧ s = (f a, f b) := by
  unfold sideL at h
  have h := List.of_mem_zip (a := s.1) (b := s.2) h
  obtain ⟨h1, h2⟩ := h
  obtain ⟨a, ha, e1⟩ := List.mem_map.mp h1
  have h3 : s.2 ∈ ps.map f := by
    rcases List.mem_append.mp h2 with h | h
    · exact List.mem_of_mem_drop h
    · exact List.mem_of_mem_take h
  obtain ⟨b, hb, e2⟩ := List.mem_map.mp h3
  exact ⟨a, b, ha, hb, by rw [e1, e2]⟩
structure RowsG (rows : List (List (Int × Int))) : Prop where
  many : rows.length = 1 ∨ rows.length = 2
  geo : ∀ r ∈ rows, ∃ h, GeoG h r
  sm : ∀ r ∈ rows, ∀ p ∈ r, Small p
  sep : ∀ r0 r1, rows[0]? = some r0 → rows[1]? = some r1 → ∃ α β γ, (∀ p ∈ r0, 0 < af α β γ p) ∧ ∀ p ∈ r1, af α β γ p < 0
theorem RowsG.five {rows : List (List (Int × Int))} (g : RowsG rows) : ∀ r ∈ rows, 3 ≤ r.length ∧ r.length ≤ 5 := fun r hr => by
  obtain ⟨h, q⟩ := g.geo r hr
  exact q.len
theorem RowsG.ok {rows : List (List (Int × Int))} (g : RowsG rows) {un : Int} (hu : 0 < un) (hu2 : un < 2 ^ 27) : LotOk un rows := by
  have wh : ∀ r ∈ rows, Whole 49 (r.map (scP un)) ∧ 0 < (areaL (sideL (r.map (scP un)))).1 := fun r hr => by
    obtain ⟨h, q⟩ := g.geo r hr
    exact q.whole (g.sm r hr) hu hu2
  have hm := g.many
  refine ⟨⟨by rw [List.length_map]; omega, ?_, ?_, ?_⟩, fun r hr => ⟨49, wh r hr⟩, ?_⟩
  · intro ps hp
    obtain ⟨r, hr, rfl⟩ := List.mem_map.mp hp
    rw [List.length_map]
    have := g.five r hr
    omega
  · intro ps hp s hs
    obtain ⟨r, hr, rfl⟩ := List.mem_map.mp hp
    exact ((wh r hr).1.sides s hs).1
  · intro i j ps qs hij e1 e2 s hs t ht
    rw [List.getElem?_map] at e1 e2
    have hj : j < rows.length := by
      cases e : rows[j]? with
      | none => rw [e] at e2; cases e2
      | some r => exact (List.getElem?_eq_some_iff.mp e).1
    obtain rfl : i = 0 := by omega
    obtain rfl : j = 1 := by omega
    cases f1 : rows[0]? with
    | none => rw [f1] at e1; cases e1
    | some r0 =>
      cases f2 : rows[1]? with
      | none => rw [f2] at e2; cases e2
      | some r1 =>
        rw [f1] at e1
        rw [f2] at e2
        obtain rfl := Option.some.inj e1
        obtain rfl := Option.some.inj e2
        obtain ⟨α, β, γ, q1, q2⟩ := g.sep r0 r1 f1 f2
        have ne := (wh r0 (List.mem_of_getElem? f1)).1.short s hs
        obtain ⟨a, b, ha, hb, rfl⟩ := sideL_mem hs
        obtain ⟨c, d, hc, hd, rfl⟩ := sideL_mem ht
        exact apart_sc hu (fun e => ne (by rw [e])) (q1 a ha) (q1 b hb) (q2 c hc) (q2 d hd)
  · have l5 : ∀ k, ((rows.map fun r => r.map (scP un)).getD k []).length ≤ 5 := fun k => by
      rw [List.getD_eq_getElem?_getD, List.getElem?_map]
      cases e : rows[k]? with
      | none => simp
      | some r =>
        have := g.five r (List.mem_of_getElem? e)
        show (r.map (scP un)).length ≤ 5
        rw [List.length_map]
        omega
    have l0 := l5 0
    have l1 := l5 1
    rcases hm with h | h <;> rw [h]
    · rw [numP_succ, List.length_append, List.length_map, List.length_range]
      show 0 + _ ≤ 60
      omega
    · rw [numP_succ, numP_succ, List.length_append, List.length_append, List.length_map, List.length_range, List.length_map, List.length_range]
      show 0 + _ + _ ≤ 60
      omega
theorem rowok_near {i : Nat} {ps : List (Int × Int)} (h : RowOk i ps) : GeoG (40000000 * (i : Int), 5 * (i : Int)) ps ∧ ∀ p ∈ ps, -12000000 ≤ p.1 - 40000000 * (i : Int) ∧ p.1 - 40000000 * (i : Int) ≤ 12000000 ∧ -12000000 ≤ p.2 - 5 * (i : Int) ∧ p.2 - 5 * (i : Int) ≤ 12000000 := by
  obtain ⟨m, lo, sp, st, hm, hlo, hsp, hst, s⟩ := h
  exact ⟨star_geo hm hst hlo s, star_near hlo hsp s⟩
theorem rows_geo {rows : List (List (Int × Int))} (hm : rows.length = 1 ∨ rows.length = 2) (hok : ∀ i ps, rows[i]? = some ps → RowOk i ps) : RowsG rows := by
  have at' : ∀ r ∈ rows, ∃ i, i < 2 ∧ rows[i]? = some r := fun r hr => by
    obtain ⟨i, hi, rfl⟩ := List.mem_iff_getElem.mp hr
    exact ⟨i, by omega, List.getElem?_eq_getElem hi⟩
  refine ⟨hm, fun r hr => ?_, fun r hr p hp => ?_, fun r0 r1 e0 e1 => ?_⟩
  · obtain ⟨i, _, e⟩ := at' r hr
    exact ⟨_, (rowok_near (hok i r e)).1⟩
  · obtain ⟨i, hi, e⟩ := at' r hr
    have := (rowok_near (hok i r e)).2 p hp
    exact ⟨by omega, by omega⟩
  · refine ⟨-1, 0, 20000000, fun p hp => ?_, fun p hp => ?_⟩
    · have := (rowok_near (hok 0 r0 e0)).2 p hp
      unfold af
      omega
    · have := (rowok_near (hok 1 r1 e1)).2 p hp
      unfold af
      omega
theorem mirL_mem {r : List (Int × Int)} {p : Int × Int} (h : p ∈ mirL r) : ∃ q ∈ r, p = mirZ q := by
  unfold mirL at h
  obtain ⟨q, hq, rfl⟩ := List.mem_map.mp h
  exact ⟨q, List.mem_reverse.mp hq, rfl⟩
theorem RowsG.mir {rows : List (List (Int × Int))} (g : RowsG rows) : RowsG (rows.map mirL) := by
  refine ⟨by rw [List.length_map]; exact g.many, fun r hr => ?_, fun r hr p hp => ?_, fun r0 r1 e0 e1 => ?_⟩
  · obtain ⟨q, hq, rfl⟩ := List.mem_map.mp hr
    obtain ⟨h, k⟩ := g.geo q hq
    exact ⟨_, k.mir⟩
  · obtain ⟨q, hq, rfl⟩ := List.mem_map.mp hr
    obtain ⟨z, hz, rfl⟩ := mirL_mem hp
    have := g.sm q hq z hz
    unfold Small mirZ at *
    dsimp only
    omega
  · rw [List.getElem?_map] at e0 e1
    cases f0 : rows[0]? with
    | none => rw [f0] at e0; cases e0
    | some q0 =>
      cases f1 : rows[1]? with
      | none => rw [f1] at e1; cases e1
      | some q1 =>
        rw [f0] at e0
        rw [f1] at e1
        obtain rfl := Option.some.inj e0
        obtain rfl := Option.some.inj e1
        obtain ⟨α, β, γ, h0, h1⟩ := g.sep q0 q1 f0 f1
        have e : ∀ p, af (-α) β γ (mirZ p) = af α β γ p := fun p => by unfold af mirZ; grind
        refine ⟨-α, β, γ, fun p hp => ?_, fun p hp => ?_⟩
        · obtain ⟨z, hz, rfl⟩ := mirL_mem hp
          rw [e]
          exact h0 z hz
        · obtain ⟨z, hz, rfl⟩ := mirL_mem hp
          rw [e]
          exact h1 z hz
end Odd
/-! determinants of drawn sides -/
namespace Odd
open PySem PySem.Spec PyProof.Rows L2 GeoZ
def scRows (un : Int) (rows : List (List (Int × Int))) : List (List P2) := rows.map fun r => r.map (scP un)
/-- a side of the lot: its corners, its way -/
def SideOk (un : Int) (rows : List (List (Int × Int))) (q : Nat × Nat) (d : Int × Int) (sd : P2 × P2) : Prop :=
  (∃ ps, (scRows un rows)[q.1]? = some ps ∧ (sideL ps)[q.2]? = some sd) ∧ CanS sd ∧ SmS 49 sd ∧ wayS sd = scP un d
def SideIn (rows : List (List (Int × Int))) (s : SideZ) : Prop := ∃ r, rows[s.m]? = some r ∧ s.n < r.length ∧ s.d = ((r.getD ((s.n + 1) % r.length) (0, 0)).1 - (r.getD s.n (0, 0)).1, (r.getD ((s.n + 1) % r.length) (0, 0)).2 - (r.getD s.n (0, 0)).2)
theorem sidesZ_in {rows : List (List (Int × Int))} {s : SideZ} (h : s ∈ sidesZ rows rows.length) : SideIn rows s := by
  unfold sidesZ at h
  rw [List.mem_flatMap] at h
  obtain ⟨m, hm, h⟩ := h
  unfold sidesOf at h
  rw [List.mem_map] at h
  obtain ⟨n, hn, rfl⟩ := h
  have hm := List.mem_range.mp hm
  have hn := List.mem_range.mp hn
  have e : rows[m]? = some (rows.getD m []) := by rw [List.getD_eq_getElem?_getD, List.getElem?_eq_getElem hm]; rfl
  exact ⟨_, e, hn, rfl⟩
theorem side_core {un : Int} (hu : 0 < un) (hu2 : un < 2 ^ 27) {rows : List (List (Int × Int))} (hs : ∀ r ∈ rows, ∀ p ∈ r, Small p) {m n : Nat} {r : List (Int × Int)} (e : rows[m]? = some r) (hn : n < r.length) :
    ∃ sd, SideOk un rows (m, n) ((r.getD ((n + 1) % r.length) (0, 0)).1 - (r.getD n (0, 0)).1, (r.getD ((n + 1) % r.length) (0, 0)).2 - (r.getD n (0, 0)).2) sd := by
  have h2 : (n + 1) % r.length < r.length := Nat.mod_lt _ (by omega)
  have g1 : r.getD n (0, 0) = r[n] := by rw [List.getD_eq_getElem?_getD, List.getElem?_eq_getElem hn]; rfl
  have g2 : r.getD ((n + 1) % r.length) (0, 0) = r[(n + 1) % r.length] := by rw [List.getD_eq_getElem?_getD, List.getElem?_eq_getElem h2]; rfl
  have hr := List.mem_of_getElem? e
  refine ⟨(scP un r[n], scP un r[(n + 1) % r.length]), ⟨r.map (scP un), ?_, ?_⟩, ?_, ?_, ?_⟩
  · unfold scRows
    rw [List.getElem?_map, e]
    rfl
  · rw [sideL_at (by rw [List.length_map]; exact hn)]
    simp only [List.getElem_map, List.length_map]
  · exact ⟨(sc_pt hu hu2 (hs r hr _ (List.getElem_mem hn))).1, (sc_pt hu hu2 (hs r hr _ (List.getElem_mem h2))).1⟩
  · exact ⟨(sc_pt hu hu2 (hs r hr _ (List.getElem_mem hn))).2, (sc_pt hu hu2 (hs r hr _ (List.getElem_mem h2))).2⟩
  · unfold wayS
    dsimp only
    rw [sub_sc hu, g1, g2]
theorem SideIn.ok {un : Int} (hu : 0 < un) (hu2 : un < 2 ^ 27) {rows : List (List (Int × Int))} (g : RowsG rows) {s : SideZ} (h : SideIn rows s) : ∃ sd, SideOk un rows (s.m, s.n) s.d sd := by
  obtain ⟨r, e, hn, hd⟩ := h
  rw [hd]
  exact side_core hu hu2 g.sm e hn
theorem SideIn.small {rows : List (List (Int × Int))} (g : RowsG rows) {s : SideZ} (h : SideIn rows s) : Sm28 s.d := by
  obtain ⟨r, e, hn, hd⟩ := h
  have h2 : (s.n + 1) % r.length < r.length := Nat.mod_lt _ (by omega)
  have g1 : r.getD s.n (0, 0) = r[s.n] := by rw [List.getD_eq_getElem?_getD, List.getElem?_eq_getElem hn]; rfl
  have g2 : r.getD ((s.n + 1) % r.length) (0, 0) = r[(s.n + 1) % r.length] := by rw [List.getD_eq_getElem?_getD, List.getElem?_eq_getElem h2]; rfl
  have hr := List.mem_of_getElem? e
  have k1 := g.sm r hr _ (List.getElem_mem hn)
  have k2 := g.sm r hr _ (List.getElem_mem h2)
  rw [hd, g1, g2]
  unfold Small at k1 k2
  unfold Sm28
  dsimp only
  omega
def mirD (d : Int × Int) : Int × Int := (d.1, -d.2)
theorem mirL_getD {r : List (Int × Int)} {k : Nat} (h : k < r.length) : (mirL r).getD k (0, 0) = mirZ (r.getD (r.length - 1 - k) (0, 0)) := by
  rw [List.getD_eq_getElem?_getD, mirL_at h, List.getD_eq_getElem?_getD, List.getElem?_eq_getElem (show r.length - 1 - k < r.length by omega)]
  rfl
theorem SideIn.mir {un : Int} (hu : 0 < un) (hu2 : un < 2 ^ 27) {rows : List (List (Int × Int))} (g : RowsG rows) {s : SideZ} (h : SideIn rows s) :
    ∃ r, rows[s.m]? = some r ∧ s.n < r.length ∧ ∃ sd, SideOk un (rows.map mirL) (s.m, (2 * r.length - 2 - s.n) % r.length) (mirD s.d) sd := by
  obtain ⟨r, e, hn, hd⟩ := h
  have l2 := (g.five r (List.mem_of_getElem? e)).1
  refine ⟨r, e, hn, ?_⟩
  have e2 : (rows.map mirL)[s.m]? = some (mirL r) := by rw [List.getElem?_map, e]; rfl
  have hk : (2 * r.length - 2 - s.n) % r.length < r.length := Nat.mod_lt _ (by omega)
  obtain ⟨sd, ok⟩ := side_core hu hu2 g.mir.sm (n := (2 * r.length - 2 - s.n) % r.length) e2 (by rw [mirL_len]; exact hk)
  refine ⟨sd, ?_⟩
  have ed : mirD s.d = (((mirL r).getD (((2 * r.length - 2 - s.n) % r.length + 1) % (mirL r).length) (0, 0)).1 - ((mirL r).getD ((2 * r.length - 2 - s.n) % r.length) (0, 0)).1, ((mirL r).getD (((2 * r.length - 2 - s.n) % r.length + 1) % (mirL r).length) (0, 0)).2 - ((mirL r).getD ((2 * r.length - 2 - s.n) % r.length) (0, 0)).2) := by
    rw [mirL_len, mirL_getD hk, mirL_getD (Nat.mod_lt _ (by omega)), hd]
    have c : (s.n < r.length - 1 ∧ (2 * r.length - 2 - s.n) % r.length = r.length - 2 - s.n) ∨ (s.n = r.length - 1 ∧ (2 * r.length - 2 - s.n) % r.length = r.length - 1) := by
      by_cases q : s.n < r.length - 1
      · refine .inl ⟨q, ?_⟩
        rw [show 2 * r.length - 2 - s.n = (r.length - 2 - s.n) + r.length by omega, Nat.add_mod_right, Nat.mod_eq_of_lt (by omega)]
      · refine .inr ⟨by omega, ?_⟩
        rw [show 2 * r.length - 2 - s.n = r.length - 1 by omega, Nat.mod_eq_of_lt (by omega)]
    rcases c with ⟨c1, c2⟩ | ⟨c1, c2⟩ <;> rw [c2]
    · rw [Nat.mod_eq_of_lt (show r.length - 2 - s.n + 1 < r.length by omega), Nat.mod_eq_of_lt (show s.n + 1 < r.length by omega), show r.length - 1 - (r.length - 2 - s.n + 1) = s.n by omega, show r.length - 1 - (r.length - 2 - s.n) = s.n + 1 by omega]
      unfold mirD mirZ
      dsimp only
      exact Prod.ext (by dsimp only; omega) (by dsimp only; omega)
    · rw [show r.length - 1 + 1 = r.length by omega, show s.n + 1 = r.length by omega, Nat.mod_self, show r.length - 1 - 0 = s.n by omega, show r.length - 1 - (r.length - 1) = 0 by omega]
      unfold mirD mirZ
      dsimp only
      exact Prod.ext (by dsimp only; omega) (by dsimp only; omega)
  rw [ed]
  exact ok
theorem told4_of {un : Int} {rows : List (List (Int × Int))} {q0 q1 q2 q3 : Nat × Nat} {d0 d1 d2 d3 : Int × Int} {s0 s1 s2 s3 : P2 × P2} (h0 : SideOk un rows q0 d0 s0) (h1 : SideOk un rows q1 d1 s1) (h2 : SideOk un rows q2 d2 s2) (h3 : SideOk un rows q3 d3 s3) :
    Told4 (scRows un rows) [q0, q1, q2, q3] [s0, s1, s2, s3] := by
  refine ⟨rfl, rfl, fun i r e => ?_⟩
  have hi : i < 4 := (List.getElem?_eq_some_iff.mp e).1
  rcases (by omega : i = 0 ∨ i = 1 ∨ i = 2 ∨ i = 3) with rfl | rfl | rfl | rfl
  · obtain rfl := Option.some.inj (show some q0 = some r from e)
    obtain ⟨⟨ps, a, b⟩, c, d, _⟩ := h0
    exact ⟨ps, s0, a, b, rfl, c, d⟩
  · obtain rfl := Option.some.inj (show some q1 = some r from e)
    obtain ⟨⟨ps, a, b⟩, c, d, _⟩ := h1
    exact ⟨ps, s1, a, b, rfl, c, d⟩
  · obtain rfl := Option.some.inj (show some q2 = some r from e)
    obtain ⟨⟨ps, a, b⟩, c, d, _⟩ := h2
    exact ⟨ps, s2, a, b, rfl, c, d⟩
  · obtain rfl := Option.some.inj (show some q3 = some r from e)
    obtain ⟨⟨ps, a, b⟩, c, d, _⟩ := h3
    exact ⟨ps, s3, a, b, rfl, c, d⟩
theorem low_self {q : Int × Int} (h : Canon q) : low q.1 q.2 = q := IsLow.uniq (canon_ne h) (low_is (canon_ne h)).1 ⟨h, rfl⟩
theorem detF_sc {un : Int} (hu : 0 < un) {a b c d r : Int × Int} (hr : Canon r) : detF (scP un a) (scP un b) (scP un c) (scP un d) r = low (sgnZ a b c d r) (r.2 * r.2 * (un * un * (un * un))) := by
  have h2 := Int.mul_pos hu hu
  have r2 : 0 < r.2 := hr.1
  have h3 := Int.mul_pos r2 h2
  have h6 := Int.mul_pos h3 h3
  have h4 := Int.mul_pos h2 h3
  have h5 := Int.mul_pos h4 h4
  unfold detF
  rw [dot_sc hu, dot_sc hu, cross_sc hu, cross_sc hu, dot_sc hu, dot_sc hu]
  rw [← low_self hr]
  rw [low_mul r2 h2, low_mul r2 h2, low_mul r2 h2, low_mul r2 h2, low_mul h3 h3, low_sub h2 h3, low_add h2 h3, low_mul h4 h4, low_add h6 h5, low_negF (Int.mul_pos h6 h5)]
  rw [low_self hr]
  unfold sgnZ
  have ne : ∀ {x : Int}, 0 < x → x ≠ 0 := fun h => by omega
  refine low_eq (ne (Int.mul_pos h6 h5)) (ne (Int.mul_pos (Int.mul_pos r2 r2) (Int.mul_pos h2 h2))) ?_
  generalize a.1 * c.1 + a.2 * c.2 = A1
  generalize b.1 * d.1 + b.2 * d.2 = A2
  generalize b.1 * c.2 - b.2 * c.1 = A3
  generalize b.1 * c.1 + b.2 * c.2 = A4
  generalize a.1 * d.2 - a.2 * d.1 = A5
  generalize a.1 * d.1 + a.2 * d.2 = A6
  clear hr r2 h2 h3 h4 h5 h6 ne hu
  obtain ⟨p, t⟩ := r
  dsimp only
  grind
theorem sgnZ_half (a b c d r : Int × Int) : sgnZ c d a b r = sgnZ a b c d r := by
  unfold sgnZ
  grind
theorem sgnZ_quarter (a b c d : Int × Int) (p t : Int) : sgnZ b c d a (t, p) = -sgnZ a b c d (p, t) := by
  obtain ⟨a1, a2⟩ := a
  obtain ⟨b1, b2⟩ := b
  obtain ⟨c1, c2⟩ := c
  obtain ⟨d1, d2⟩ := d
  unfold sgnZ
  dsimp only
  grind
theorem sgnZ_mir (a b c d r : Int × Int) : sgnZ (mirD b) (mirD a) (mirD d) (mirD c) r = sgnZ a b c d r := by
  unfold sgnZ mirD
  dsimp only
  grind
end Odd
namespace Odd
open PySem PySem.Spec PyProof.Rows L2
local macro_rules | `(tactic| walk_at "vc") => `(tactic| simp only [tSeq, tAsg, gName, tCB, tCons, tNil, tVar, tC, tOp, tUn, rI0, rI, rU, tTup, tLst, tIfS, tTest, tB, tRet, tNext, rGcd, L2.start, List.map, List.set, List.replicate, List.cons_append, List.nil_append, List.length_cons, List.length_nil, List.getElem?_cons_succ, List.getElem?_cons_zero, Option.some.injEq, exists_eq_left', exists_eq_left, List.append_nil, List.cons.injEq, V.int.injEq, exists_and_left, and_true, true_and, and_assoc, exists_const, V.bl.injEq, V.ref.injEq, Nat.sub_self, Nat.reduceAdd, Nat.reduceSub, List.replicate_succ, List.replicate_zero, tAnd, tOr, tNot, tAndV, tOrV, tNotV, tIf, tCall, tCallK, tDrop, rEq, rNe, decide_eq_true_eq, Bool.not_eq_true', decide_eq_false_iff_not, Bool.false_eq_true, if_true, if_false, reduceIte, reduceCtorEq, tMkLow, tRaiseLow, rIsB, rNotB, tBreak, tPar, gSub, rSetL, tChain, gTup, gCons, gNil, gSeq, cx_K, cx_Kn, optV, V.str.injEq, Bool.not_true, Bool.not_false, false_and, and_false, or_false, false_or, exists_false, tCallN, tCallS, tPairs])
section
variable {w : World} {K : PySem.W.Frag} {mg : Str → Option Value} {base : Heap} {A : Ads}
theorem sw_cell {elt : Expr} {gs : List Comprehension} {scope : Scope} {pos py : Pos} {y : Str} {l : Nat} {env : Env} (hk : env.scope.kind = .function) (hy : env.scope.names.lookup y = some .cell) : swapsWith (.ListComp elt gs scope pos) (some (.Name y py)) l env = pure false := by
  have ky : env.kindOf y = some .cell := hy
  have hb : env.blockKind = .function := by unfold Env.blockKind; rw [hk]; rfl
  unfold swapsWith
  simp only [hb, ky, Expr.pos]
  rfl
theorem kb_determinant (T : Txt K mg A) : KBn K A.d_determinant ["lot", "four", "ratio"] 0 ["lot", "four", "ratio"] (fun _ ws => ws) (fun _ zs => zs) := fun_kb T.determinant.F fun _ _ _ _ _ _ ws hl => match ws, hl with | [_, _, _], _ => rfl
theorem Sd.but {u : Addr} {H H' : Hp} {v : V} {q : P2 × P2} {ys : List V} (s : But u H H') (hu : H u = some (.lst ys)) (h : Sd K H v q) : Sd K H' v q := by
  obtain ⟨a, x, y, e, h1, ⟨a1, x1, y1, e1, h11, ⟨b1, f1, g1⟩, ⟨b2, f2, g2⟩⟩, ⟨a2, x2, y2, e2, h12, ⟨b3, f3, g3⟩, ⟨b4, f4, g4⟩⟩⟩ := h
  exact ⟨a, x, y, e, s.tup hu h1, ⟨a1, x1, y1, e1, s.tup hu h11, ⟨b1, f1, s.tup hu g1⟩, ⟨b2, f2, s.tup hu g2⟩⟩, ⟨a2, x2, y2, e2, s.tup hu h12, ⟨b3, f3, s.tup hu g3⟩, ⟨b4, f4, s.tup hu g4⟩⟩⟩
theorem PP.but {u : Addr} {H H' : Hp} {v : V} {q : P2} {ys : List V} (s : But u H H') (hu : H u = some (.lst ys)) (h : PP K H v q) : PP K H' v q := by
  obtain ⟨a1, x1, y1, e1, h11, ⟨b1, f1, g1⟩, ⟨b2, f2, g2⟩⟩ := h
  exact ⟨a1, x1, y1, e1, s.tup hu h11, ⟨b1, f1, s.tup hu g1⟩, ⟨b2, f2, s.tup hu g2⟩⟩
theorem FenceV.but {C u : Addr} {H H' : Hp} {v : V} {ps : List P2} {ys : List V} (s : But u H H') (hu : H u = some (.lst ys)) (h : FenceV K C H v ps) : FenceV K C H' v ps := by
  obtain ⟨x, e, dx, fs, a, us, b, ws, h1, h2, h3, h4, h5, h6, h7⟩ := h
  exact ⟨x, e, dx, fs, a, us, b, ws, s.1 _ (fun z => by rw [z, hu] at h1; cases h1) _ h1, h2, s.tup hu h3, h4.imp fun v x z => z.but s hu, h5, s.tup hu h6, h7.imp fun v x z => z.but s hu⟩
theorem LotAt.but {CF CL u : Addr} {H H' : Hp} {x : Addr} {pss : List (List P2)} {ys : List V} (s : But u H H') (hu : H u = some (.lst ys)) (h : LotAt K CF CL H x pss) : LotAt K CF CL H' x pss := by
  obtain ⟨dx, fs, b, us, h1, h2, h3, h4, h5⟩ := h
  exact ⟨dx, fs, b, us, s.1 _ (fun z => by rw [z, hu] at h1; cases h1) _ h1, h2, s.tup hu h3, h4.imp fun v x z => z.but s hu, h5⟩
theorem NumV.but {u : Addr} {H H' : Hp} {v : V} {p : Nat × Nat} {ys : List V} (s : But u H H') (hu : H u = some (.lst ys)) (h : NumV K H v p) : NumV K H' v p := by
  obtain ⟨a, e, h⟩ := h
  exact ⟨a, e, s.tup hu h⟩
theorem SideV.but {u : Addr} {H H' : Hp} {v : V} {q : SideZ} {ys : List V} (s : But u H H') (hu : H u = some (.lst ys)) (h : SideV K H v q) : SideV K H' v q := by
  obtain ⟨a, x, y, z, e, h1, h2, h3, h4⟩ := h
  exact ⟨a, x, y, z, e, s.tup hu h1, h2.but s hu, h3.but s hu, h4.but s hu⟩
/-- what the law holds in its names -/
structure Bag (K : PySem.W.Frag) (CF CL u LR : Addr) (us : List V) (rows : List (List (Int × Int))) (rv : V) (r : Int × Int) (un : Int) (x y LS : Addr) (ss : List V) (H : Hp) : Prop where
  nu : LR ≠ u
  nl : LS ≠ u
  lr : H LR = some (.lst us)
  rws : Each (RowV K [u, LR] H) us rows
  rat : ZP K H rv r
  one : LotAt K CF CL H x (scRows un rows)
  two : LotAt K CF CL H y (scRows un (rows.map mirL))
  ls : H LS = some (.lst ss)
  sv : Each (SideV K H) ss (sidesZ rows rows.length)
theorem Bag.same {CF CL u LR : Addr} {us : List V} {rows : List (List (Int × Int))} {rv : V} {r : Int × Int} {un : Int} {x y LS : Addr} {ss : List V} {H H' : Hp} (s : Same H H') (h : Bag K CF CL u LR us rows rv r un x y LS ss H) : Bag K CF CL u LR us rows rv r un x y LS ss H' :=
  ⟨h.nu, h.nl, s _ _ h.lr, h.rws.imp fun v x z => z.same s, h.rat.same s, h.one.same s, h.two.same s, s _ _ h.ls, h.sv.imp fun v x z => z.same s⟩
theorem Bag.but {CF CL u LR : Addr} {us : List V} {rows : List (List (Int × Int))} {rv : V} {r : Int × Int} {un : Int} {x y LS : Addr} {ss : List V} {H H' : Hp} {ys : List V} (s : But u H H') (hu : H u = some (.lst ys)) (h : Bag K CF CL u LR us rows rv r un x y LS ss H) : Bag K CF CL u LR us rows rv r un x y LS ss H' :=
  ⟨h.nu, h.nl, s.1 _ h.nu _ h.lr, h.rws.imp fun v x z => z.but (by simp) s hu, h.rat.but s hu, h.one.but s hu, h.two.but s hu, s.1 _ h.nl _ h.ls, h.sv.imp fun v x z => z.but s hu⟩
theorem LotAt.keepL {CF CL : Addr} {H : Hp} {D : Addr} {acc acc' : List V} {x : Addr} {pss : List (List P2)} (hD : H D = some (.lst acc)) (h : LotAt K CF CL H x pss) : LotAt K CF CL (upd H D (.lst acc')) x pss := by
  obtain ⟨dx, fs, b, us, h1, h2, h3, h4, h5⟩ := h
  exact ⟨dx, fs, b, us, by rw [upd_ne (fun z => by rw [z, hD] at h1; cases h1)]; exact h1, h2, keep_tup hD h3, h4.imp fun v x z => z.keepL hD, h5⟩
/-- a list that is none of the bag's own -/
structure Off (D LR LS : Addr) (us : List V) : Prop where
  a : D ≠ LR
  b : D ≠ LS
  c : ∀ v ∈ us, v ≠ .ref D
theorem Bag.off {CF CL u LR : Addr} {us : List V} {rows : List (List (Int × Int))} {rv : V} {r : Int × Int} {un : Int} {x y LS : Addr} {ss : List V} {H : Hp} (h : Bag K CF CL u LR us rows rv r un x y LS ss H) {D : Addr} (hD : H D = none) : Off D LR LS us := by
  refine ⟨fun z => ?_, fun z => ?_, fun v hv z => ?_⟩
  · rw [z, h.lr] at hD; cases hD
  · rw [z, h.ls] at hD; cases hD
  · obtain ⟨i, hi, rfl⟩ := List.mem_iff_getElem.mp hv
    obtain ⟨q, _, a, ws, e, h1, _⟩ := h.rws.of (List.getElem?_eq_getElem hi)
    rw [e] at z
    injection z with z
    rw [z, hD] at h1
    cases h1
theorem Bag.keep {CF CL u LR : Addr} {us : List V} {rows : List (List (Int × Int))} {rv : V} {r : Int × Int} {un : Int} {x y LS : Addr} {ss : List V} {H : Hp} {D : Addr} {acc acc' : List V} (hD : H D = some (.lst acc)) (o : Off D LR LS us) (h : Bag K CF CL u LR us rows rv r un x y LS ss H) : Bag K CF CL u LR us rows rv r un x y LS ss (upd H D (.lst acc')) := by
  refine ⟨h.nu, h.nl, by rw [upd_ne (Ne.symm o.a)]; exact h.lr, h.rws.imp2 fun v x hv z => ?_, h.rat.keep hD, h.one.keepL hD, h.two.keepL hD, by rw [upd_ne (Ne.symm o.b)]; exact h.ls, h.sv.imp fun v x z => z.keep hD⟩
  obtain ⟨a, ws, rfl, h1, h2, h3⟩ := z
  exact ⟨a, ws, rfl, by rw [upd_ne (fun z => o.c _ hv (by rw [z]))]; exact h1, h2, h3.imp fun v x z => z.keep hD⟩
theorem urn_off {H : Hp} {u D : Addr} {k : Nat} {a : Addr} {acc : List V} {o : HO} (h : Urn H u k) (hD : H D = some (.lst (.ref a :: acc))) (n : D ≠ u) : Urn (upd H D o) u k := by
  obtain ⟨c, m, r, cells, h1, h2, h3⟩ := h
  refine ⟨c, m, r, cells, by rw [upd_ne (Ne.symm n)]; exact h1, ?_, h3⟩
  rw [upd_ne fun z => ?_]
  · exact h2
  · rw [z, hD] at h2
    injection h2 with h2
    injection h2 with h2
    cases cells with
    | nil => cases h2
    | cons i cells => injection h2 with h2 _; cases h2
/-- the names' values -/
abbrev sg (o0 o1 o2 o3 o4 o5 o6 o7 o8 o9 o10 o11 o12 o13 o14 o15 o16 o17 o18 o19 o20 : Option V) : L2.St := [o0, o1, o2, o3, o4, o5, o6, o7, o8, o9, o10, o11, o12, o13, o14, o15, o16, o17, o18, o19, o20]
/-- a part of each side of a list -/
theorem parts_ok {o0 o1 o3 o4 o5 o6 o7 o8 o9 o10 o11 o13 o14 o15 o16 o17 o18 o19 o20 : Option V} {α : Type} (j : Nat) (R : Hp → V → α → Prop) (f : SideZ → α) (hR : ∀ H H' v x, Same H H' → R H v x → R H' v x) (hk : ∀ H D acc acc' v x, H D = some (.lst acc) → R H v x → R (upd H D (.lst acc')) v x)
    (hj : ∀ H v s, SideV K H v s → ∃ a xs z, v = .ref a ∧ SqT K H a xs ∧ atI xs (j : Nat) = some z ∧ R H z (f s)) {H : Hp} {D : Addr} {ds : List V} {xs : List SideZ} {Q : VK}
    (hD : H D = some (.lst ds)) (he : Each (SideV K H) ds xs) (h40 : ds.length ≤ 300) (q : ∀ H' L vs, Same H H' → H L = none → H' L = some (.lst vs) → Each (R H') vs (xs.map f) → Q (.ref L) H') :
    tLc (iList K (tVar 12)) (gName 2) tYes (tOp (rIxT K) (tVar 2) (tC (V.int (j : Nat)))) [2] (sg o0 o1 none o3 o4 o5 o6 o7 o8 o9 o10 o11 (some (.ref D)) o13 o14 o15 o16 o17 o18 o19 o20) H Q := by
  refine ⟨_, rfl, D, rfl, ⟨ds, sl_of hD⟩, fun L hL => lc_list (xs := ds) (fun i H3 => Same H H3 ∧ ∃ acc, H3 L = some (.lst acc) ∧ Each (R H3) acc ((xs.take i).map f)) ⟨same_upd hL, _, upd_same, rfl, fun i v x e => by simp at e⟩ (fun i H3 _ h => sl_of (h.1 _ _ hD)) ?_ ?_⟩
  · rintro i v H3 hv ⟨s3, acc, e3, ea⟩
    obtain ⟨s, hs, hsv⟩ := he.of hv
    obtain ⟨a, ys, z, rfl, ha, hz, rz⟩ := hj _ _ _ hsv
    refine ⟨rfl, ?_⟩
    simp only [tYes, if_true]
    show tOp (rIxT K) (tVar 2) (tC (V.int (j : Nat))) (sg o0 o1 (some (.ref a)) o3 o4 o5 o6 o7 o8 o9 o10 o11 (some (.ref D)) o13 o14 o15 o16 o17 o18 o19 o20) H3 _
    walk_at "vc"
    refine ixT (same_tup s3 ha) hz ?_
    refine ⟨acc, e3, ?_, fun c o ec => ?_, _, upd_same, ?_⟩
    · rw [ea.1, List.length_map, List.length_take, ← he.1]
      exact small1000 (by omega)
    · rw [upd_ne (ne_of_none ec hL)]
      exact s3 _ _ ec
    · rw [List.take_add_one, hs, List.map_append]
      exact each_snoc (ea.imp fun v x z => hk _ _ _ _ _ _ e3 z) (hk _ _ _ _ _ _ e3 (hR _ _ _ _ s3 rz))
  · rintro H3 ⟨s3, acc, e3, ea⟩
    rw [he.1, List.take_length] at ea
    exact q H3 L acc s3 hL e3 ea
theorem nums_ok {o0 o1 o3 o4 o5 o6 o7 o8 o9 o10 o11 o13 o14 o15 o16 o17 o18 o19 o20 : Option V} {H : Hp} {D : Addr} {ds : List V} {xs : List SideZ} {Q : VK}
    (hD : H D = some (.lst ds)) (he : Each (SideV K H) ds xs) (h40 : ds.length ≤ 300) (q : ∀ H' L vs, Same H H' → H L = none → H' L = some (.lst vs) → Each (NumV K H') vs (xs.map fun s => (s.m, s.n)) → Q (.ref L) H') :
    tLc (iList K (tVar 12)) (gName 2) tYes (tOp (rIxT K) (tVar 2) (tC (V.int 0))) [2] (sg o0 o1 none o3 o4 o5 o6 o7 o8 o9 o10 o11 (some (.ref D)) o13 o14 o15 o16 o17 o18 o19 o20) H Q :=
  parts_ok 0 (NumV K) (fun s => (s.m, s.n)) (fun _ _ _ _ s h => h.same s) (fun _ _ _ _ _ _ e h => h.keep e) (fun H v s ⟨a, x, y, z, e, h1, h2, _, _⟩ => ⟨a, _, x, e, h1, rfl, h2⟩) hD he h40 q
theorem ways_ok {o0 o1 o3 o4 o5 o6 o7 o8 o9 o10 o11 o13 o14 o15 o16 o17 o18 o19 o20 : Option V} {H : Hp} {D : Addr} {ds : List V} {xs : List SideZ} {Q : VK}
    (hD : H D = some (.lst ds)) (he : Each (SideV K H) ds xs) (h40 : ds.length ≤ 300) (q : ∀ H' L vs, Same H H' → H L = none → H' L = some (.lst vs) → Each (ZP K H') vs (xs.map fun s => s.d) → Q (.ref L) H') :
    tLc (iList K (tVar 12)) (gName 2) tYes (tOp (rIxT K) (tVar 2) (tC (V.int 2))) [2] (sg o0 o1 none o3 o4 o5 o6 o7 o8 o9 o10 o11 (some (.ref D)) o13 o14 o15 o16 o17 o18 o19 o20) H Q :=
  parts_ok 2 (ZP K) (fun s => s.d) (fun _ _ _ _ s h => h.same s) (fun _ _ _ _ _ _ e h => h.keep e) (fun H v s ⟨a, x, y, z, e, h1, _, _, h2⟩ => ⟨a, _, z, e, h1, rfl, h2⟩) hD he h40 q
def dNum (q : Nat × Nat) : PyData := .tuple [.int (q.1 : Nat), .int (q.2 : Nat)]
theorem dp_num {H : Hp} {v : V} {q : Nat × Nat} (h : NumV K H v q) : Dp K H v (dNum q) := by
  obtain ⟨a, rfl, h⟩ := h
  exact .tup h (.cons (.int _) (.cons (.int _) .nil))
theorem dp_nums {H : Hp} : ∀ {vs : List V} {qs : List (Nat × Nat)}, Each (NumV K H) vs qs → DpAll K H vs (qs.map dNum)
  | [], [], _ => .nil
  | [], _ :: _, h => absurd h.1 (by simp)
  | _ :: _, [], h => absurd h.1 (by simp)
  | v :: vs, q :: qs, h => .cons (dp_num (h.2 0 v q rfl rfl)) (dp_nums ⟨by have := h.1; simpa using this, fun i v x e1 e2 => h.2 (i + 1) v x e1 e2⟩)
theorem ne_same {H : Hp} {v w : V} {d : PyData} {Q : VK} (h1 : Dp K H v d) (h2 : Dp K H w d) (sd : SeqAt.shaped d = true) (e : PyData.eqv d d = true) (q : Q (.bl false) H) : rNeD K v w H Q := by
  refine ⟨d, d, h1, h2, sd, sd, ?_⟩
  rw [e]
  exact q
theorem pr_ne {H : Hp} {v w : V} {q : Int × Int} {Q : VK} (h1 : Pr K H v q) (h2 : Pr K H w q) (k : Q (.bl false) H) : rNeD K v w H Q :=
  ne_same (dp_pr h1) (dp_pr h2) rfl (by simp [dPr, PyData.eqv, PyData.eqvAll]) k
theorem eqv_nums : ∀ qs : List (Nat × Nat), PyData.eqvAll (qs.map dNum) (qs.map dNum) = true
  | [] => rfl
  | q :: qs => by
    rw [List.map_cons, PyData.eqvAll, eqv_nums qs]
    simp [dNum, PyData.eqv, PyData.eqvAll]
end
end Odd
namespace Odd
open PySem PySem.Spec PyProof.Rows L2
local macro_rules | `(tactic| walk_at "vc") => `(tactic| simp only [tSeq, tAsg, gName, tCB, tCons, tNil, tVar, tC, tOp, tUn, rI0, rI, rU, tTup, tLst, tIfS, tTest, tB, tRet, tNext, rGcd, L2.start, List.map, List.set, List.replicate, List.cons_append, List.nil_append, List.length_cons, List.length_nil, List.getElem?_cons_succ, List.getElem?_cons_zero, Option.some.injEq, exists_eq_left', exists_eq_left, List.append_nil, List.cons.injEq, V.int.injEq, exists_and_left, and_true, true_and, and_assoc, exists_const, V.bl.injEq, V.ref.injEq, Nat.sub_self, Nat.reduceAdd, Nat.reduceSub, List.replicate_succ, List.replicate_zero, tAnd, tOr, tNot, tAndV, tOrV, tNotV, tIf, tCall, tCallK, tDrop, rEq, rNe, decide_eq_true_eq, Bool.not_eq_true', decide_eq_false_iff_not, Bool.false_eq_true, if_true, if_false, reduceIte, reduceCtorEq, tMkLow, tRaiseLow, rIsB, rNotB, tBreak, tPar, gSub, rSetL, tChain, gTup, gCons, gNil, gSeq, cx_K, cx_Kn, optV, V.str.injEq, Bool.not_true, Bool.not_false, false_and, and_false, or_false, false_or, exists_false, tCallN, tCallS, tPairs])
section
variable {w : World} {K : PySem.W.Frag} {mg : Str → Option Value} {base : Heap} {A : Ads}
def tEach (K : PySem.W.Frag) (A : Ads) : TS :=
    (tSeq
      (tAsg
        (tLc (iRng1 (tCons (tC (V.int 4)) tNil)) (gName 1) tYes
          (tCall spOneOf [] E0 (tCons (tVar 3) (tCons (tVar 10) tNil))) [1])
        (gName 12))
      (tSeq
        (tIfS (tTest (tOp rEq (tCall spSpill [] E0 (tCons (tVar 3) (tCons (tC (V.int 3)) tNil))) (tC (V.int 0))))
          (tAsg (tOp (rIxL K) (tVar 12) (tCall spSpill [] E0 (tCons (tVar 3) (tCons (tC (V.int 4)) tNil))))
            (gSub (tVar 12) (tCall spSpill [] E0 (tCons (tVar 3) (tCons (tC (V.int 4)) tNil))) rSetL))
          tNext)
        (tSeq (tAsg (tLc (iList K (tVar 12)) (gName 2) tYes (tOp (rIxT K) (tVar 2) (tC (V.int 0))) [2]) (gName 13))
          (tSeq
            (tAsg
              (tCall (spSgn K) [] E0
                (tCons (tLc (iList K (tVar 12)) (gName 2) tYes (tOp (rIxT K) (tVar 2) (tC (V.int 2))) [2])
                  (tCons (tVar 6) tNil)))
              (gName 14))
            (tSeq
              (tAsg
                (tCall (spLowest K) [] E0
                  (tCons (tVar 14)
                    (tCons
                      (tOp (rI CMul fun i j => V.int (i * j))
                        (tOp (rI CPow fun i j => V.int (i ^ j.toNat)) (tOp (rIxT K) (tVar 6) (tC (V.int 1)))
                          (tC (V.int 2)))
                        (tOp (rI CPow fun i j => V.int (i ^ j.toNat)) (tVar 7) (tC (V.int 4))))
                      tNil)))
                (gName 15))
              (tSeq
                (tAsg
                  (tCall (spDet K A.C_Fence A.C_Lot A.c_BadLot A.c_BadSides A.c_BadRatio) [] E0
                    (tCons (tVar 8)
                      (tCons (tVar 13)
                        (tCons
                          (tIf
                            (tTest
                              (tOp (rI0 fun i j => V.bl (decide (j < i))) (tOp (rIxT K) (tVar 6) (tC (V.int 1)))
                                (tC (V.int 1))))
                            (tVar 6) (tOp (rIxT K) (tVar 6) (tC (V.int 0))))
                          tNil))))
                  (gName 16))
                (tSeq
                  (tIfS
                    (tOr (tNot (tB (tCall (spLawNum K) [] E0 (tCons (tVar 16) tNil))))
                      (tOr (tTest (tOp (rNeD K) (tVar 16) (tVar 15)))
                        (tTest
                          (tOp (rNeD K) (tVar 13)
                            (tLc (iList K (tVar 12)) (gName 2) tYes (tOp (rIxT K) (tVar 2) (tC (V.int 0))) [2])))))
                    (tRet (tC (V.bl false))) tNext)
                  (tSeq
                    (tIfS
                      (tTest
                        (tOp (rNeD K)
                          (tCall (spDet K A.C_Fence A.C_Lot A.c_BadLot A.c_BadSides A.c_BadRatio) [] E0
                            (tCons (tVar 8)
                              (tCons
                                (tTup
                                  (tCons (tOp (rIxL K) (tVar 13) (tC (V.int 2)))
                                    (tCons (tOp (rIxL K) (tVar 13) (tC (V.int 3)))
                                      (tCons (tOp (rIxL K) (tVar 13) (tC (V.int 0)))
                                        (tCons (tOp (rIxL K) (tVar 13) (tC (V.int 1))) tNil)))))
                                (tCons (tVar 6) tNil))))
                          (tVar 15)))
                      (tRet (tC (V.bl false))) tNext)
                    (tSeq
                      (tAsg
                        (tCall (spDet K A.C_Fence A.C_Lot A.c_BadLot A.c_BadSides A.c_BadRatio) [] E0
                          (tCons (tVar 8)
                            (tCons
                              (tLst
                                (tCons
                                  (tCB
                                    (fun xs H Q =>
                                      ∃ p,
                                        xs = [V.ref p] ∧
                                          ∃ x,
                                            (SqL K H p x ∨ SqT K H p x) ∧
                                              ∀ (l : Addr), H l = none → Q (V.ref l) (upd H l (HO.lst x)))
                                    (tCons (tOp (rIxL K) (tVar 13) (tC (V.int 1))) tNil))
                                  (tCons (tOp (rIxL K) (tVar 13) (tC (V.int 2)))
                                    (tCons (tOp (rIxL K) (tVar 13) (tC (V.int 3)))
                                      (tCons (tOp (rIxL K) (tVar 13) (tC (V.int 0))) tNil)))))
                              (tCons
                                (tTup
                                  (tCons (tOp (rIxT K) (tVar 6) (tC (V.int 1)))
                                    (tCons (tOp (rIxT K) (tVar 6) (tC (V.int 0))) tNil)))
                                tNil))))
                        (gName 17))
                      (tSeq
                        (tIfS
                          (tTest
                            (tOp (rNeD K) (tVar 17)
                              (tCall (spLowest K) [] E0
                                (tCons (tUn (rU fun i => V.int (-i)) (tVar 14))
                                  (tCons
                                    (tOp (rI CMul fun i j => V.int (i * j))
                                      (tOp (rI CPow fun i j => V.int (i ^ j.toNat))
                                        (tOp (rIxT K) (tVar 6) (tC (V.int 0))) (tC (V.int 2)))
                                      (tOp (rI CPow fun i j => V.int (i ^ j.toNat)) (tVar 7) (tC (V.int 4))))
                                    tNil)))))
                          (tRet (tC (V.bl false))) tNext)
                        (tSeq
                          (tAsg
                            (tLc
                              (iTup K
                                (tTup
                                  (tCons (tC (V.int 1))
                                    (tCons (tC (V.int 0)) (tCons (tC (V.int 3)) (tCons (tC (V.int 2)) tNil))))))
                              (gName 1) tYes
                              (tCall (spMirrorSide K) [] E0
                                (tCons (tVar 5) (tCons (tOp (rIxL K) (tVar 13) (tVar 1)) tNil)))
                              [1])
                            (gName 18))
                          (tIfS
                            (tTest
                              (tOp (rNeD K)
                                (tCallN 0 3 (spDet K A.C_Fence A.C_Lot A.c_BadLot A.c_BadSides A.c_BadRatio)
                                  (fun x zs => zs) E0 tNil (tCons (tVar 9) (tCons (tVar 18) (tCons (tVar 6) tNil))))
                                (tVar 15)))
                            (tRet (tC (V.bl false))) tNext))))))))))))
theorem ixN_nat {n j : Nat} (h : j < n) : ixN n (j : Nat) = some j := by
  unfold ixN
  rw [if_pos (by omega), if_pos (by omega)]
  rfl
theorem each4 {α : Type} {R : V → α → Prop} {vs : List V} {a b c d : α} (h : Each R vs [a, b, c, d]) : ∃ v0 v1 v2 v3, vs = [v0, v1, v2, v3] ∧ R v0 a ∧ R v1 b ∧ R v2 c ∧ R v3 d := by
  have hl := h.1
  match vs, hl, h with
  | [v0, v1, v2, v3], _, h => exact ⟨v0, v1, v2, v3, rfl, h.2 0 _ _ rfl rfl, h.2 1 _ _ rfl rfl, h.2 2 _ _ rfl rfl, h.2 3 _ _ rfl rfl⟩
theorem pow2 (a : Int) : a ^ Int.toNat 2 = a * a := by
  show a ^ 2 = a * a
  grind
theorem pow4 (a : Int) : a ^ Int.toNat 4 = a * a * (a * a) := by
  show a ^ 4 = a * a * (a * a)
  grind
theorem under_ok {a un : Int} (a0 : 0 < a) (a3 : a ≤ 3) (u0 : 0 < un) (u7 : un ≤ 7) : CPow a 2 ∧ CPow un 4 ∧ CMul (a * a) (un * un * (un * un)) ∧ a * a * (un * un * (un * un)) ≠ 0 ∧ (a * a * (un * un * (un * un))).natAbs < 2 ^ 8000 := by
  have hp : (2 : Nat) ^ 20 ≤ 2 ^ 8000 := Nat.pow_le_pow_right (by decide) (by decide)
  have ha : a = 1 ∨ a = 2 ∨ a = 3 := by omega
  have hu : un = 1 ∨ un = 2 ∨ un = 3 ∨ un = 4 ∨ un = 5 ∨ un = 6 ∨ un = 7 := by omega
  rcases ha with rfl | rfl | rfl <;> rcases hu with rfl | rfl | rfl | rfl | rfl | rfl | rfl <;>
    exact ⟨⟨by decide, by decide, by decide⟩, ⟨by decide, by decide, by decide⟩, .inl ⟨by decide, by decide⟩, by decide, Nat.lt_of_lt_of_le (by decide) hp⟩
theorem SideOk.atJ {un : Int} {rows : List (List (Int × Int))} {m n : Nat} {d : Int × Int} {sd : P2 × P2} {H : Hp} {v : V} (h : SideOk un rows (m, n) d sd) (a : AtV K H v m n) : AtJ K (scRows un rows) H v (some (m, n)) := by
  obtain ⟨⟨ps, h1, h2⟩, _⟩ := h
  have := (List.getElem?_eq_some_iff.mp h2).1
  rw [sideL_len] at this
  exact ⟨a, ps, h1, this⟩
theorem det_good {CF CL C1 C2 C3 : Addr} {un : Int} {rows : List (List (Int × Int))} {x p : Addr} {w0 w1 w2 w3 rv : V} {q0 q1 q2 q3 : Nat × Nat} {d0 d1 d2 d3 q : Int × Int} {t0 t1 t2 t3 : P2 × P2} {H : Hp} {Q : VK} {E : XK} (un0 : 0 < un)
    (hx : LotAt K CF CL H x (scRows un rows)) (hp : Sq K H p [w0, w1, w2, w3]) (a0 : AtV K H w0 q0.1 q0.2) (a1 : AtV K H w1 q1.1 q1.2) (a2 : AtV K H w2 q2.1 q2.2) (a3 : AtV K H w3 q3.1 q3.2)
    (k0 : SideOk un rows q0 d0 t0) (k1 : SideOk un rows q1 d1 t1) (k2 : SideOk un rows q2 d2 t2) (k3 : SideOk un rows q3 d3 t3) (hn : Num K H rv q) (hc : Canon q) (hq : 0 < q.1) (hq1 : q.1 ≤ 3) (hq2 : q.2 ≤ 3)
    (ret : RetP K H (low (sgnZ d0 d1 d2 d3 q) (q.2 * q.2 * (un * un * (un * un)))) Q) : spDet K CF CL C1 C2 C3 [.ref x, .ref p, rv] H Q E := by
  refine ⟨_, _, _, rfl, .inr ⟨x, _, rfl, hx, .inr ⟨p, _, [q0, q1, q2, q3], [t0, t1, t2, t3], rfl, hp, ?_, told4_of k0 k1 k2 k3, .inr ⟨q, hn, hc, hq, ?_, ?_⟩⟩⟩⟩
  · refine ⟨rfl, fun i v s e1 e2 => ?_⟩
    have hi : i < 4 := (List.getElem?_eq_some_iff.mp e1).1
    rcases (by omega : i = 0 ∨ i = 1 ∨ i = 2 ∨ i = 3) with rfl | rfl | rfl | rfl
    · obtain rfl := Option.some.inj (show some w0 = some v from e1)
      obtain rfl := Option.some.inj (show some (some q0) = some s from e2)
      exact k0.atJ a0
    · obtain rfl := Option.some.inj (show some w1 = some v from e1)
      obtain rfl := Option.some.inj (show some (some q1) = some s from e2)
      exact k1.atJ a1
    · obtain rfl := Option.some.inj (show some w2 = some v from e1)
      obtain rfl := Option.some.inj (show some (some q2) = some s from e2)
      exact k2.atJ a2
    · obtain rfl := Option.some.inj (show some w3 = some v from e1)
      obtain rfl := Option.some.inj (show some (some q3) = some s from e2)
      exact k3.atJ a3
  · have := hc.1
    exact ⟨Nat.lt_of_le_of_lt (show q.1.natAbs ≤ 3 by omega) (by decide), Nat.lt_of_le_of_lt (show q.2.natAbs ≤ 3 by omega) (by decide)⟩
  · show RetP K H (detF (wayS t0) (wayS t1) (wayS t2) (wayS t3) q) Q
    rw [k0.2.2.2, k1.2.2.2, k2.2.2.2, k3.2.2.2, detF_sc un0 hc]
    exact ret
theorem NumV.atV {H : Hp} {v : V} {q : Nat × Nat} (h : NumV K H v q) : AtV K H v q.1 q.2 := by
  obtain ⟨a, e, h⟩ := h
  exact ⟨a, e, .inr h⟩
theorem each4_mk {α : Type} {R : V → α → Prop} {v0 v1 v2 v3 : V} {a b c d : α} (h0 : R v0 a) (h1 : R v1 b) (h2 : R v2 c) (h3 : R v3 d) : Each R [v0, v1, v2, v3] [a, b, c, d] := by
  refine ⟨rfl, fun i v s e1 e2 => ?_⟩
  have hi : i < 4 := (List.getElem?_eq_some_iff.mp e1).1
  rcases (by omega : i = 0 ∨ i = 1 ∨ i = 2 ∨ i = 3) with rfl | rfl | rfl | rfl
  · obtain rfl := Option.some.inj (show some v0 = some v from e1)
    obtain rfl := Option.some.inj (show some a = some s from e2)
    exact h0
  · obtain rfl := Option.some.inj (show some v1 = some v from e1)
    obtain rfl := Option.some.inj (show some b = some s from e2)
    exact h1
  · obtain rfl := Option.some.inj (show some v2 = some v from e1)
    obtain rfl := Option.some.inj (show some c = some s from e2)
    exact h2
  · obtain rfl := Option.some.inj (show some v3 = some v from e1)
    obtain rfl := Option.some.inj (show some d = some s from e2)
    exact h3
theorem sidesZ_succ (rows : List (List (Int × Int))) (i : Nat) : (sidesZ rows (i + 1)).length = (sidesZ rows i).length + (rows.getD i []).length := by
  unfold sidesZ
  rw [List.range_succ, List.flatMap_append, List.length_append]
  simp only [List.flatMap_cons, List.flatMap_nil, List.append_nil]
  rw [sidesOf_len]
theorem sidesZ_len {rows : List (List (Int × Int))} (g : RowsG rows) : 3 ≤ (sidesZ rows rows.length).length ∧ (sidesZ rows rows.length).length ≤ 10 := by
  have l5 : ∀ k, k < rows.length → 3 ≤ (rows.getD k []).length ∧ (rows.getD k []).length ≤ 5 := fun k hk => by
    rw [List.getD_eq_getElem?_getD, List.getElem?_eq_getElem hk]
    exact g.five _ (List.getElem_mem hk)
  have z : (sidesZ rows 0).length = 0 := rfl
  have s0 : (sidesZ rows 1).length = _ := sidesZ_succ rows 0
  have s1 : (sidesZ rows 2).length = _ := sidesZ_succ rows 1
  rcases g.many with h | h <;> rw [h]
  · have := l5 0 (by omega)
    omega
  · have := l5 0 (by omega)
    have := l5 1 (by omega)
    omega
theorem each_ok {CF CL u LR : Addr} {us : List V} {rows : List (List (Int × Int))} {rv : V} {r : Int × Int} {un : Int} {x y LS : Addr} {ss : List V} {H : Hp} {k : Nat} {D : Ends} {o0 o4 o11 o12 o13 o14 o15 o16 o17 o18 o19 o20 : Option V}
    (bag : Bag K A.C_Fence A.C_Lot u LR us rows rv r un x y LS ss H) (hu : Urn H u (k + 7)) (geo : RowsG rows) (hr : r ∈ [((1 : Int), (1 : Int)), (2, 1), (1, 2), (3, 2), (2, 3), (3, 1), (1, 3)]) (un0 : 0 < un) (un7 : un ≤ 7)
    (nx : ∀ H' p12 p13 p14 p15 p16 p17 p18, Bag K A.C_Fence A.C_Lot u LR us rows rv r un x y LS ss H' → Urn H' u k → D.nx (sg o0 none none (some (.ref u)) o4 (some (.ref LR)) (some rv) (some (.int un)) (some (.ref x)) (some (.ref y)) (some (.ref LS)) o11 p12 p13 p14 p15 p16 p17 p18 o19 o20) H') :
    tEach K A D (sg o0 none none (some (.ref u)) o4 (some (.ref LR)) (some rv) (some (.int un)) (some (.ref x)) (some (.ref y)) (some (.ref LS)) o11 o12 o13 o14 o15 o16 o17 o18 o19 o20) H := by
  have slen : ss.length = (sidesZ rows rows.length).length := bag.sv.1
  have sl2 := sidesZ_len geo
  have spos : 0 < ss.length := by omega
  have smax : ss.length < 1073741824 := by omega
  unfold tEach
  refine seq_by fun N hN => ?_
  walk_at "vc"
  refine ⟨_, rfl, by decide, by decide, fun D1 hD1 => lc_range (n := ((4 : Int)).toNat) (fun i H3 => But u H H3 ∧ Bag K A.C_Fence A.C_Lot u LR us rows rv r un x y LS ss H3 ∧ Urn H3 u (k + 7 - i) ∧ ∃ acc xs, H3 D1 = some (.lst acc) ∧ acc.length = i ∧ Each (SideV K H3) acc xs ∧ ∀ s ∈ xs, SideIn rows s) ?_ ?_ ?_⟩
  · have s1 := same_upd (o := .lst []) hD1
    exact ⟨same_but s1, bag.same s1, hu.same s1, [], [], upd_same, rfl, ⟨rfl, fun i v x e => by simp at e⟩, fun s h => by simp at h⟩
  · rintro i H3 hi ⟨b3, bag3, hu3, acc, xs, e3, hl3, ea, hin⟩
    have hi : i < 4 := by omega
    rw [show ((0 : Int) + (i : Nat)) = (i : Nat) by omega]
    refine ⟨rfl, ?_⟩
    simp only [tYes, if_true]
    show tCall spOneOf [] E0 (tCons (tVar 3) (tCons (tVar 10) tNil)) (sg o0 (some (.int (i : Nat))) none (some (.ref u)) o4 (some (.ref LR)) (some rv) (some (.int un)) (some (.ref x)) (some (.ref y)) (some (.ref LS)) o11 o12 o13 o14 o15 o16 o17 o18 o19 o20) H3 _
    walk_at "vc"
    refine ⟨u, LS, ss, k + 6 - i, rfl, bag.nl, bag3.ls, spos, smax, hu3.mono (by omega), fun H4 v b4 hu4 hv => ?_⟩
    obtain ⟨c3, ys3, hux3⟩ := hu3.at
    obtain ⟨j, hj, rfl⟩ := List.mem_iff_getElem.mp hv
    obtain ⟨s, hs, hsv⟩ := (bag3.but b4 hux3).sv.of (List.getElem?_eq_getElem hj)
    have nD : D1 ≠ u := fun z => by
      obtain ⟨c, ys, e⟩ := hu.at
      rw [z, e] at hD1
      cases hD1
    have e4 := b4.1 _ nD _ e3
    have B4 := b3.trans b4
    refine ⟨acc, e4, by rw [hl3]; exact small1000 (by omega), but_keep B4 hD1 nD, (bag3.but b4 hux3).keep e4 (bag.off hD1), ?_, _, upd_same, by rw [List.length_append, hl3]; rfl, xs ++ [s], each_snoc (ea.imp fun v x z => (z.but b4 hux3).keep e4) (hsv.keep e4), ?_⟩
    · refine urn_keep hu B4 ?_ hD1 nD
      exact hu4.mono (by omega)
    · intro q hq
      rcases List.mem_append.mp hq with hq | hq
      · exact hin q hq
      · rw [List.mem_singleton.mp hq]
        exact sidesZ_in (List.mem_of_getElem? hs)
  · rintro H3 ⟨b3, bag3, hu3, ds, xs, e3, hl3, ea, hin⟩
    replace hl3 : ds.length = 4 := hl3
    replace hu3 : Urn H3 u (k + 3) := hu3
    have nD : D1 ≠ u := fun z => by
      obtain ⟨c, ys, e⟩ := hu.at
      rw [z, e] at hD1
      cases hD1
    have off := bag.off hD1
    clear bag hu b3 hD1
    subst hN
    refine seq_by fun N hN => ?_
    walk_at "vc"
    have go : ∀ H6 ds xs, Bag K A.C_Fence A.C_Lot u LR us rows rv r un x y LS ss H6 → Urn H6 u k → H6 D1 = some (.lst ds) → ds.length = 4 → Each (SideV K H6) ds xs → (∀ s ∈ xs, SideIn rows s) →
        N (sg o0 none none (some (.ref u)) o4 (some (.ref LR)) (some rv) (some (.int un)) (some (.ref x)) (some (.ref y)) (some (.ref LS)) o11 (some (.ref D1)) o13 o14 o15 o16 o17 o18 o19 o20) H6 := by
      clear bag3 hu3 e3 ea hin hl3 ds xs H3
      intro H3 ds xs bag hu e3 hl ea hin
      subst hN
      obtain ⟨s0, s1, s2, s3, rfl⟩ := len4 (show xs.length = 4 by rw [← ea.1]; exact hl)
      have i0 := hin s0 (by simp)
      have i1 := hin s1 (by simp)
      have i2 := hin s2 (by simp)
      have i3 := hin s3 (by simp)
      clear hin
      obtain ⟨ra, rfl, hra⟩ := bag.rat
      have hr3 : 0 < r.1 ∧ r.1 ≤ 3 ∧ 0 < r.2 ∧ r.2 ≤ 3 ∧ Canon r ∧ Canon (r.2, r.1) := by
        simp only [List.mem_cons, List.not_mem_nil, or_false] at hr
        rcases hr with rfl | rfl | rfl | rfl | rfl | rfl | rfl <;> exact ⟨by decide, by decide, by decide, by decide, ⟨by decide, by decide⟩, ⟨by decide, by decide⟩⟩
      obtain ⟨r1, r2, r3, r4, rc, rc'⟩ := hr3
      have un27 : un < 2 ^ 27 := by omega
      refine seq_by fun N hN => ?_
      walk_at "vc"
      refine nums_ok e3 ea (by omega) fun H4 D2 vs s4 hD2 e4 e4n => ?_
      obtain ⟨v0, v1, v2, v3, rfl, n0, n1, n2, n3⟩ := each4 e4n
      clear e4n
      subst hN
      refine seq_by fun N hN => ?_
      walk_at "vc"
      refine ways_ok (s4 _ _ e3) (ea.imp fun v x z => z.same s4) (by omega) fun H5 D3 ws s5 hD3 e5 e5w => ?_
      obtain ⟨w0, w1, w2, w3, rfl, z0, z1, z2, z3⟩ := each4 e5w
      refine ⟨D3, _, w0, w1, w2, w3, s0.d, s1.d, s2.d, s3.d, r, rfl, sl_of e5, z0, z1, z2, z3, ⟨ra, rfl, same_tup (s4.trans s5) hra⟩, i0.small geo, i1.small geo, i2.small geo, i3.small geo, r1, r2, r3, r4, ?_⟩
      have S5 := s4.trans s5
      have f5 := s5 _ _ e4
      replace n0 := n0.same s5
      replace n1 := n1.same s5
      replace n2 := n2.same s5
      replace n3 := n3.same s5
      have d5 := S5 _ _ e3
      replace ea := ea.imp fun v x (z : SideV K H3 v x) => z.same S5
      replace bag := bag.same S5
      replace hu := hu.same S5
      replace hra := same_tup S5 hra
      clear e5w z0 z1 z2 z3 e5 hD3 e4 s5 hD2 S5 s4 e3 H4 w0 w1 w2 w3 D3 hr
      subst hN
      refine seq_by fun N hN => ?_
      walk_at "vc"
      obtain ⟨u1, u2, u3, u4, u5⟩ := under_ok r3 r4 un0 un7
      refine ixT hra rfl ?_
      refine ⟨r.2, rfl, u1, u2, by rw [pow2, pow4]; exact u3, ?_⟩
      rw [pow2, pow4]
      refine ⟨_, _, rfl, u4, u5, fun H6 dv s6 hdv => ?_⟩
      have lowc := (low_is (t := sgnZ s0.d s1.d s2.d s3.d r) u4).1.1
      clear u1 u2 u3 u4 u5
      subst hN
      refine seq_by fun N hN => ?_
      walk_at "vc"
      obtain ⟨t0, k0⟩ := i0.ok un0 un27 geo
      obtain ⟨t1, k1⟩ := i1.ok un0 un27 geo
      obtain ⟨t2, k2⟩ := i2.ok un0 un27 geo
      obtain ⟨t3, k3⟩ := i3.ok un0 un27 geo
      have f6 := s6 _ _ f5
      have d6 := s6 _ _ d5
      replace ea := ea.imp fun v x (z : SideV K H5 v x) => z.same s6
      replace bag := bag.same s6
      replace hu := hu.same s6
      replace hra := same_tup s6 hra
      replace n0 := n0.same s6
      replace n1 := n1.same s6
      replace n2 := n2.same s6
      replace n3 := n3.same s6
      clear s6 f5 d5 H5
      have told : ∀ {rv : V}, Num K H6 rv r → spDet K A.C_Fence A.C_Lot A.c_BadLot A.c_BadSides A.c_BadRatio [V.ref x, V.ref D2, rv] H6 (fun x_3 H1 =>
                N
                  [o0, none, none, some (V.ref u), o4, some (V.ref LR), some (V.ref ra), some (V.int un),
                    some (V.ref x), some (V.ref y), some (V.ref LS), o11, some (V.ref D1), some (V.ref D2),
                    some (V.int (sgnZ s0.d s1.d s2.d s3.d r)), some (V.ref dv), some x_3, o17, o18, o19, o20]
                  H1) E0 := by
        intro rv hn
        refine det_good un0 bag.one (.inl (sl_of f6)) n0.atV n1.atV n2.atV n3.atV k0 k1 k2 k3 hn rc r1 r2 r4 fun H7 tv s7 htv => ?_
        have f7 := s7 _ _ f6
        have d7 := s7 _ _ d6
        replace ea := ea.imp fun v x (z : SideV K H6 v x) => z.same s7
        replace bag := bag.same s7
        replace hu := hu.same s7
        replace hra := same_tup s7 hra
        replace n0 := n0.same s7
        replace n1 := n1.same s7
        replace n2 := n2.same s7
        replace n3 := n3.same s7
        replace hdv := same_tup s7 hdv
        clear s7 f6 d6 hn
        subst hN
        refine seq_by fun N hN => ?_
        walk_at "vc"
        refine ⟨_, _, rfl, ⟨tv, rfl, htv⟩, lowc, fun H8 s8 => ⟨true, rfl, ?_⟩⟩
        rw [if_neg (show ¬ (true = false) from by decide)]
        refine pr_ne ⟨tv, rfl, same_tup s8 htv⟩ ⟨dv, rfl, same_tup s8 hdv⟩ ⟨false, rfl, ?_⟩
        rw [if_neg (show ¬ (false = true) from by decide)]
        refine nums_ok (s8 _ _ d7) (ea.imp fun v x z => z.same s8) (by omega) fun H9 D4 vs' s9 hD4 e9 e9n => ?_
        have S9 := s8.trans s9
        refine ne_same (.lst (sl_of (S9 _ _ f7)) (dp_nums (each4_mk (n0.same S9) (n1.same S9) (n2.same S9) (n3.same S9)))) (.lst (sl_of e9) (dp_nums e9n)) ?_ ?_ ⟨false, rfl, ?_⟩
        · exact rfl
        · show PyData.eqvAll _ _ = true
          exact eqv_nums [(s0.m, s0.n), (s1.m, s1.n), (s2.m, s2.n), (s3.m, s3.n)]
        rw [if_neg (show ¬ (false = true) from by decide)]
        have f9 := S9 _ _ f7
        replace bag := bag.same S9
        replace hu := hu.same S9
        replace hra := same_tup S9 hra
        replace n0 := n0.same S9
        replace n1 := n1.same S9
        replace n2 := n2.same S9
        replace n3 := n3.same S9
        replace hdv := same_tup S9 hdv
        clear e9n e9 hD4 S9 s9 s8 ea d7 f7 vs' D4 H8 htv
        subst hN
        refine seq_by fun N hN => ?_
        walk_at "vc"
        refine ixL (sl_of f9) rfl ?_
        refine ixL (sl_of f9) rfl ?_
        refine ixL (sl_of f9) rfl ?_
        refine ixL (sl_of f9) rfl ?_
        refine ⟨by decide, fun p hp => ?_⟩
        have s10 := same_upd (o := .tup [v2, v3, v0, v1]) hp
        refine det_good un0 (bag.one.same s10) (.inr (st_of upd_same)) (n2.same s10).atV (n3.same s10).atV (n0.same s10).atV (n1.same s10).atV k2 k3 k0 k1 (.sq (.inr (same_tup s10 hra)) rc) rc r1 r2 r4 fun H11 ev s11 hev => ?_
        rw [sgnZ_half] at hev
        have S11 := s10.trans s11
        refine pr_ne ⟨ev, rfl, hev⟩ ⟨dv, rfl, same_tup S11 hdv⟩ ⟨false, rfl, ?_⟩
        rw [if_neg (show ¬ (false = true) from by decide)]
        replace f9 := S11 _ _ f9
        replace bag := bag.same S11
        replace hu := hu.same S11
        replace hra := same_tup S11 hra
        replace n0 := n0.same S11
        replace n1 := n1.same S11
        replace n2 := n2.same S11
        replace n3 := n3.same S11
        replace hdv := same_tup S11 hdv
        clear S11 hev s11 s10 hp ev p H9
        subst hN
        refine seq_by fun N hN => ?_
        walk_at "vc"
        refine ixL (sl_of f9) rfl ?_
        obtain ⟨a1, rfl, ha1⟩ := id n1
        refine ⟨a1, rfl, _, .inr ha1, fun l hl1 => ?_⟩
        have s12 := same_upd (o := .lst [.int (s1.m : Nat), .int (s1.n : Nat)]) hl1
        refine ixL (sl_of (s12 _ _ f9)) rfl ?_
        refine ixL (sl_of (s12 _ _ f9)) rfl ?_
        refine ixL (sl_of (s12 _ _ f9)) rfl ?_
        refine ⟨by decide, fun p hp => ?_⟩
        have s13 := same_upd (o := .lst [.ref l, v2, v3, v0]) hp
        have S13 := s12.trans s13
        refine ixT (same_tup S13 hra) rfl ?_
        refine ixT (same_tup S13 hra) rfl ?_
        refine ⟨by decide, fun p1 hp1 => ?_⟩
        have s14 := same_upd (o := .tup [.int r.2, .int r.1]) hp1
        have S14 := S13.trans s14
        refine det_good un0 (bag.one.same S14) (.inl (sl_of (s14 _ _ upd_same))) ⟨l, rfl, .inl (sl_of ((s13.trans s14) _ _ upd_same))⟩ (n2.same S14).atV (n3.same S14).atV (n0.same S14).atV k1 k2 k3 k0 (.sq (.inr (st_of upd_same)) rc') rc' r3 r4 r2 fun H15 gv s15 hgv => ?_
        rw [sgnZ_quarter] at hgv
        have S15 := S14.trans s15
        replace bag := bag.same S15
        replace hu := hu.same S15
        replace hra := same_tup S15 hra
        replace n0 := n0.same S15
        replace n1 := n1.same S15
        replace n2 := n2.same S15
        replace n3 := n3.same S15
        replace hdv := same_tup S15 hdv
        replace f9 := S15 _ _ f9
        clear S15 s15 S14 s14 hp1 S13 s13 hp s12 hl1 ha1 p1 p l H11
        subst hN
        refine seq_by fun N hN => ?_
        walk_at "vc"
        refine ixT hra rfl ?_
        obtain ⟨u1, u2, u3, u4, u5⟩ := under_ok r1 r2 un0 un7
        refine ⟨r.1, rfl, u1, u2, by rw [pow2, pow4]; exact u3, ?_⟩
        rw [pow2, pow4]
        refine ⟨_, _, rfl, u4, u5, fun H16 ev s16 hev => ?_⟩
        refine pr_ne ⟨gv, rfl, same_tup s16 hgv⟩ ⟨ev, rfl, hev⟩ ⟨false, rfl, ?_⟩
        rw [if_neg (show ¬ (false = true) from by decide)]
        replace bag := bag.same s16
        replace hu := hu.same s16
        replace hra := same_tup s16 hra
        replace n0 := n0.same s16
        replace n1 := n1.same s16
        replace n2 := n2.same s16
        replace n3 := n3.same s16
        replace hdv := same_tup s16 hdv
        replace f9 := s16 _ _ f9
        clear u1 u2 u3 u4 u5 hev s16 hgv ev H15
        subst hN
        refine seq_by fun N hN => ?_
        walk_at "vc"
        obtain ⟨q0, g0, l0, m0, h0⟩ := i0.mir un0 un27 geo
        obtain ⟨q1, g1, l1, m1, h1⟩ := i1.mir un0 un27 geo
        obtain ⟨q2, g2, l2, m2, h2⟩ := i2.mir un0 un27 geo
        obtain ⟨q3, g3, l3, m3, h3⟩ := i3.mir un0 un27 geo
        refine ⟨by decide, fun p hp => ?_⟩
        have s17 := same_upd (o := .tup [.int 1, .int 0, .int 3, .int 2]) hp
        have tp : SqT K (upd H16 p (.tup [.int 1, .int 0, .int 3, .int 2])) p [.int 1, .int 0, .int 3, .int 2] := st_of upd_same
        generalize upd H16 p (.tup [.int 1, .int 0, .int 3, .int 2]) = H17 at *
        refine ⟨p, rfl, ⟨_, tp⟩, fun L hL => lc_tup (xs := [.int 1, .int 0, .int 3, .int 2]) (fun i H3 => Same H17 H3 ∧ ∃ acc, H3 L = some (.lst acc) ∧ Each (NumV K H3) acc ([(s1.m, (2 * q1.length - 2 - s1.n) % q1.length), (s0.m, (2 * q0.length - 2 - s0.n) % q0.length), (s3.m, (2 * q3.length - 2 - s3.n) % q3.length), (s2.m, (2 * q2.length - 2 - s2.n) % q2.length)].take i)) ⟨same_upd hL, _, upd_same, rfl, fun i v x e => by simp at e⟩ (fun i H3 _ h => same_tup h.1 tp) ?_ ?_⟩
        · rintro i z H3 hz ⟨t3, acc, e3, ea⟩
          have hi : i < 4 := (List.getElem?_eq_some_iff.mp hz).1
          obtain ⟨j, v, s, q, rfl, hj, hv, hq, hn, hM⟩ : ∃ (j : Nat) (v : V) (s : SideZ) (q : List (Int × Int)), z = .int (j : Nat) ∧ [v0, .ref a1, v2, v3][j]? = some v ∧ NumV K H16 v (s.m, s.n) ∧ rows[s.m]? = some q ∧ s.n < q.length ∧ [(s1.m, (2 * q1.length - 2 - s1.n) % q1.length), (s0.m, (2 * q0.length - 2 - s0.n) % q0.length), (s3.m, (2 * q3.length - 2 - s3.n) % q3.length), (s2.m, (2 * q2.length - 2 - s2.n) % q2.length)][i]? = some (s.m, (2 * q.length - 2 - s.n) % q.length) := by
            rcases (by omega : i = 0 ∨ i = 1 ∨ i = 2 ∨ i = 3) with rfl | rfl | rfl | rfl
            · exact ⟨1, .ref a1, s1, q1, (Option.some.inj (show some (V.int 1) = some z from hz)).symm, rfl, n1, g1, l1, rfl⟩
            · exact ⟨0, v0, s0, q0, (Option.some.inj (show some (V.int 0) = some z from hz)).symm, rfl, n0, g0, l0, rfl⟩
            · exact ⟨3, v3, s3, q3, (Option.some.inj (show some (V.int 3) = some z from hz)).symm, rfl, n3, g3, l3, rfl⟩
            · exact ⟨2, v2, s2, q2, (Option.some.inj (show some (V.int 2) = some z from hz)).symm, rfl, n2, g2, l2, rfl⟩
          have T3 := s17.trans t3
          refine ⟨rfl, ?_⟩
          simp only [tYes, if_true]
          show tCall (spMirrorSide K) [] E0 (tCons (tVar 5) (tCons (tOp (rIxL K) (tVar 13) (tVar 1)) tNil)) (sg o0 (some (.int (j : Nat))) none (some (.ref u)) o4 (some (.ref LR)) (some (.ref ra)) (some (.int un)) (some (.ref x)) (some (.ref y)) (some (.ref LS)) o11 (some (.ref D1)) (some (.ref D2)) (some (V.int (sgnZ s0.d s1.d s2.d s3.d r))) (some (.ref dv)) (some (.ref tv)) (some (.ref gv)) o18 o19 o20) H3 _
          walk_at "vc"
          refine ixL (sl_of (T3 _ _ f9)) (atI_nat hj) ?_
          have bag3 := bag.same T3
          have := geo.five q (List.mem_of_getElem? hq)
          refine ⟨LR, [u, LR], us, rows, v, s.m, s.n, q, rfl, bag3.lr, bag3.rws, hv.same T3, hq, hn, by omega, fun H4 uv s4 huv => ?_⟩
          have e4 := s4 _ _ e3
          refine ⟨acc, e4, ?_, fun c o ec => ?_, _, upd_same, ?_⟩
          · rw [ea.1, List.length_take]
            exact small1000 (by omega)
          · rw [upd_ne (ne_of_none ec hL)]
            exact s4 _ _ (t3 _ _ ec)
          · rw [List.take_add_one, hM]
            exact each_snoc (ea.imp fun v x z => (z.same s4).keep e4) (huv.keep e4)
        · rintro H18 ⟨t3, acc, e3, ea⟩
          have T3 := s17.trans t3
          obtain ⟨b0, b1, b2, b3, rfl, x0, x1, x2, x3⟩ := each4 (show Each (NumV K H18) acc [(s1.m, (2 * q1.length - 2 - s1.n) % q1.length), (s0.m, (2 * q0.length - 2 - s0.n) % q0.length), (s3.m, (2 * q3.length - 2 - s3.n) % q3.length), (s2.m, (2 * q2.length - 2 - s2.n) % q2.length)] from ea)
          have bag3 := bag.same T3
          have hu3 := hu.same T3
          have hra3 := same_tup T3 hra
          have hdv3 := same_tup T3 hdv
          subst hN
          walk_at "vc"
          refine det_good un0 bag3.two (.inl (sl_of e3)) x0.atV x1.atV x2.atV x3.atV h1 h0 h3 h2 (.sq (.inr hra3) rc) rc r1 r2 r4 fun H19 ev s19 hev => ?_
          rw [sgnZ_mir] at hev
          refine pr_ne ⟨ev, rfl, hev⟩ ⟨dv, rfl, same_tup s19 hdv3⟩ ⟨false, rfl, ?_⟩
          rw [if_neg (show ¬ (false = true) from by decide)]
          exact nx _ _ _ _ _ _ _ _ (bag3.same s19) (hu3.same s19)
      refine ixT hra rfl ?_
      refine ⟨r.2, rfl, ?_⟩
      split
      · exact told (.sq (.inr hra) rc)
      · refine ixT hra rfl ?_
        have e : r.2 = 1 := by omega
        refine told ?_
        rw [show r = (r.1, 1) from Prod.ext rfl e]
        exact .int _
    clear hN
    refine ⟨u, 3, k + 2, rfl, by decide, by decide, hu3, fun H4 f b4 hu4 f0 f1 => ⟨rfl, ?_⟩⟩
    obtain ⟨c3, ys3, hux3⟩ := hu3.at
    obtain ⟨c4, ys4, hux4⟩ := hu4.at
    have e4 := b4.1 _ nD _ e3
    have bag4 := bag3.but b4 hux3
    have ea4 := ea.imp fun v x (z : SideV K H3 v x) => z.but b4 hux3
    split
    · refine ⟨u, 4, k + 1, rfl, by decide, by decide, hu4, fun H5 j b5 hu5 j0 j1 => ?_⟩
      obtain ⟨jn, rfl⟩ := Int.eq_ofNat_of_zero_le j0
      have e5 := b5.1 _ nD _ e4
      obtain ⟨c5, ys5, hux5⟩ := hu5.at
      have hj : jn < ds.length := by omega
      refine ixL (sl_of e5) (atI_nat (List.getElem?_eq_getElem hj)) ?_
      refine ⟨u, 4, k, rfl, by decide, by decide, hu5, fun H6 m b6 hu6 m0 m1 => ?_⟩
      obtain ⟨mn, rfl⟩ := Int.eq_ofNat_of_zero_le m0
      have e6 := b6.1 _ nD _ e5
      have hm : mn < ds.length := by omega
      refine ⟨ds, _, rfl, e6, mn, ixN_nat hm, ?_⟩
      have ea6 := (ea4.imp fun v x z => z.but b5 hux4).imp fun v x z => z.but b6 hux5
      obtain ⟨sj, hsj, hvj⟩ := ea6.of (List.getElem?_eq_getElem hj)
      have hd : ∃ a rest, ds = .ref a :: rest := by
        cases ds with
        | nil => simp at hl3
        | cons v rest =>
          obtain ⟨s, _, a, _, _, _, rfl, _⟩ := ea6.of (i := 0) rfl
          exact ⟨a, rest, rfl⟩
      obtain ⟨a, rest, ed⟩ := hd
      refine go _ (ds.set mn ds[jn]) (xs.set mn sj) (((bag4.but b5 hux4).but b6 hux5).keep e6 off) (urn_off hu6 (by rw [e6, ed]) nD) upd_same (by rw [List.length_set]; exact hl3) ?_ ?_
      · refine ⟨by rw [List.length_set, List.length_set]; exact ea6.1, fun i v s h1 h2 => ?_⟩
        rw [List.getElem?_set] at h1 h2
        by_cases c : mn = i
        · subst c
          rw [if_pos rfl, if_pos hm] at h1
          rw [if_pos rfl, if_pos (by rw [← ea6.1]; exact hm)] at h2
          obtain rfl := Option.some.inj h1
          obtain rfl := Option.some.inj h2
          exact hvj.keep e6
        · rw [if_neg c] at h1 h2
          exact (ea6.2 i v s h1 h2).keep e6
      · intro s hs
        rcases List.mem_or_eq_of_mem_set hs with hs | rfl
        · exact hin s hs
        · exact hin _ (List.mem_of_getElem? hsj)
    · exact go _ ds xs bag4 (hu4.mono (by omega)) e4 hl3 ea4 hin
end
end Odd
namespace Odd
open PySem PySem.Spec PyProof.Rows L2
local macro_rules | `(tactic| walk_at "vc") => `(tactic| simp only [tSeq, tAsg, gName, tCB, tCons, tNil, tVar, tC, tOp, tUn, rI0, rI, rU, tTup, tLst, tIfS, tTest, tB, tRet, tNext, rGcd, L2.start, List.map, List.set, List.replicate, List.cons_append, List.nil_append, List.length_cons, List.length_nil, List.getElem?_cons_succ, List.getElem?_cons_zero, Option.some.injEq, exists_eq_left', exists_eq_left, List.append_nil, List.cons.injEq, V.int.injEq, exists_and_left, and_true, true_and, and_assoc, exists_const, V.bl.injEq, V.ref.injEq, Nat.sub_self, Nat.reduceAdd, Nat.reduceSub, List.replicate_succ, List.replicate_zero, tAnd, tOr, tNot, tAndV, tOrV, tNotV, tIf, tCall, tCallK, tDrop, rEq, rNe, decide_eq_true_eq, Bool.not_eq_true', decide_eq_false_iff_not, Bool.false_eq_true, if_true, if_false, reduceIte, reduceCtorEq, tMkLow, tRaiseLow, rIsB, rNotB, tBreak, tPar, gSub, rSetL, tChain, gTup, gCons, gNil, gSeq, cx_K, cx_Kn, optV, V.str.injEq, Bool.not_true, Bool.not_false, false_and, and_false, or_false, false_or, exists_false, tCallN, tCallS, tPairs])
section
variable {w : World} {K : PySem.W.Frag} {mg : Str → Option Value} {base : Heap} {A : Ads}
def tTail (K : PySem.W.Frag) (A : Ads) : TS :=
  tSeq
    (tAsg
      (tOp rCat
        (tLc (iList K (tSl (rSlL K) (tVar 10) tNoPart (tPart (tC (V.int 3))))) (gName 2) tYes
          (tOp (rIxT K) (tVar 2) (tC (V.int 0))) [2])
        (tLst (tCons (tOp (rIxT K) (tOp (rIxL K) (tVar 10) (tC (V.int 0))) (tC (V.int 0))) tNil)))
      (gName 13))
    (tSeq
      (tAsg
        (tLst
          (tCons (tSl (rSlL K) (tVar 13) tNoPart (tPart (tC (V.int 3))))
            (tCons (tOp rCat (tVar 13) (tLst (tCons (tOp (rIxL K) (tVar 13) (tC (V.int 0))) tNil)))
              (tCons
                (tOp rCat (tSl (rSlL K) (tVar 13) tNoPart (tPart (tC (V.int 3))))
                  (tLst
                    (tCons
                      (tTup
                        (tCons (tC (V.int 0))
                          (tCons
                            (tCB
                              (fun xs H Q =>
                                ∃ p, xs = [V.ref p] ∧ ∃ x, (SqL K H p x ∨ SqT K H p x) ∧ Q (V.int ↑x.length) H)
                              (tCons (tOp (rIxL K) (tVar 5) (tC (V.int 0))) tNil))
                            tNil)))
                      tNil)))
                (tCons
                  (tOp rCat
                    (tLst
                      (tCons
                        (tTup
                          (tCons
                            (tCB
                              (fun xs H Q =>
                                ∃ p, xs = [V.ref p] ∧ ∃ x, (SqL K H p x ∨ SqT K H p x) ∧ Q (V.int ↑x.length) H)
                              (tCons (tVar 5) tNil))
                            (tCons (tC (V.int 0)) tNil)))
                        tNil))
                    (tSl (rSlL K) (tVar 13) (tPart (tC (V.int 1))) tNoPart))
                  (tCons
                    (tOp rCat (tSl (rSlL K) (tVar 13) tNoPart (tPart (tC (V.int 3))))
                      (tLst
                        (tCons (tTup (tCons (tC (V.int 0)) (tCons (tUn (rU fun i => V.int (-i)) (tC (V.int 1))) tNil)))
                          tNil)))
                    tNil))))))
        (gName 19))
      (tSeq
        (tAsg
          (tOp rCat (tVar 19)
            (tLst
              (tCons
                (tOp rCat
                  (tOp rCat (tSl (rSlL K) (tVar 13) tNoPart (tPart (tC (V.int 2))))
                    (tLst (tCons (tTup (tCons (tC (V.int 0)) (tCons (tC (V.bl true)) tNil))) tNil)))
                  (tSl (rSlL K) (tVar 13) tNoPart (tPart (tC (V.int 1)))))
                (tCons (tC (V.str (Str.ofString "four")))
                  (tCons (tC V.non)
                    (tCons
                      (tLst
                        (tCons (tOp (rIxL K) (tVar 13) (tC (V.int 0)))
                          (tCons (tOp (rIxL K) (tVar 13) (tC (V.int 1)))
                            (tCons (tOp (rIxL K) (tVar 13) (tC (V.int 2))) (tCons (tC (V.int 0)) tNil)))))
                      (tCons
                        (tOp rCat
                          (tLst
                            (tCons (tTup (tCons (tC (V.int 0)) (tCons (tC (V.int 0)) (tCons (tC (V.int 0)) tNil))))
                              tNil))
                          (tSl (rSlL K) (tVar 13) (tPart (tC (V.int 1))) tNoPart))
                        tNil)))))))
          (gName 19))
        (tSeq
          (tIfS
            (tTest
              (tOp (rNeD K)
                (tCall (spRefused K A.C_Fence A.C_Lot) [] E0
                  (tCons (tVar 8)
                    (tCons (tCall spOneOf [] E0 (tCons (tVar 3) (tCons (tVar 19) tNil))) (tCons (tVar 6) tNil))))
                (tTup (tCons (tC (V.str (Str.ofString "SIDES"))) (tCons (tC (V.str (Str.ofString "four"))) tNil)))))
            (tRet (tC (V.bl false))) tNext)
          (tSeq
            (tIfS
              (tTest
                (tOp (rNeD K)
                  (tCall (spRefused K A.C_Fence A.C_Lot) [] E0
                    (tCons (tVar 8)
                      (tCons (tCall spOneOf [] E0 (tCons (tVar 3) (tCons (tVar 19) tNil)))
                        (tCons (tC (V.int 0)) tNil))))
                  (tTup (tCons (tC (V.str (Str.ofString "SIDES"))) (tCons (tC (V.str (Str.ofString "four"))) tNil)))))
              (tRet (tC (V.bl false))) tNext)
            (tSeq
              (tAsg
                (tCall spOneOf [] E0
                  (tCons (tVar 3)
                    (tCons
                      (tLst
                        (tCons (tC (V.int 0))
                          (tCons (tTup (tCons (tC (V.int 0)) (tCons (tC (V.int 1)) tNil)))
                            (tCons
                              (tTup (tCons (tUn (rU fun i => V.int (-i)) (tC (V.int 1))) (tCons (tC (V.int 2)) tNil)))
                              (tCons (tUn (rU fun i => V.int (-i)) (tC (V.int 3)))
                                (tCons (tTup (tCons (tC (V.int 2)) (tCons (tC (V.int 4)) tNil)))
                                  (tCons (tC (V.bl true))
                                    (tCons (tC V.non)
                                      (tCons (tC (V.str (Str.ofString "1")))
                                        (tCons (tTup (tCons (tC (V.int 1)) (tCons (tC (V.int 0)) tNil)))
                                          (tCons
                                            (tTup
                                              (tCons (tC (V.int 1)) (tCons (tC (V.int 2)) (tCons (tC (V.int 3)) tNil))))
                                            tNil)))))))))))
                      tNil)))
                (gName 20))
              (tSeq
                (tIfS
                  (tTest
                    (tOp (rNeD K)
                      (tCall (spRefused K A.C_Fence A.C_Lot) [] E0
                        (tCons (tVar 8) (tCons (tVar 13) (tCons (tVar 20) tNil))))
                      (tTup
                        (tCons (tC (V.str (Str.ofString "RATIO"))) (tCons (tC (V.str (Str.ofString "ratio"))) tNil)))))
                  (tRet (tC (V.bl false))) tNext)
                (tIfS
                  (tTest
                    (tOp (rNeD K)
                      (tCall (spRefused K A.C_Fence A.C_Lot) [] E0
                        (tCons
                          (tCall spOneOf [] E0
                            (tCons (tVar 3)
                              (tCons (tLst (tCons (tC V.non) (tCons (tVar 5) (tCons (tC (V.int 3)) tNil)))) tNil)))
                          (tCons (tCall spOneOf [] E0 (tCons (tVar 3) (tCons (tVar 19) tNil))) (tCons (tVar 20) tNil))))
                      (tTup (tCons (tC (V.str (Str.ofString "LOT"))) (tCons (tC (V.str (Str.ofString "lot"))) tNil)))))
                  (tRet (tC (V.bl false))) tNext)))))))
/-- what stands in a four at the place of a side -/
def At1 (K : PySem.W.Frag) (pss : List (List P2)) (H : Hp) (v : V) : Option (Nat × Nat) → Prop
  | some q => NumV K H v q ∧ ∃ ps, pss[q.1]? = some ps ∧ q.2 < ps.length
  | none => (∃ i : Int, v = .int i) ∨ ∃ a ys, v = .ref a ∧ SqT K H a ys ∧ ∀ H' b, SqT K H' b ys → BadAt K H' pss (.ref b)
theorem At1.same {pss : List (List P2)} {H H' : Hp} {v : V} {q : Option (Nat × Nat)} (s : Same H H') (h : At1 K pss H v q) : At1 K pss H' v q := by
  cases q with
  | some q => exact ⟨h.1.same s, h.2⟩
  | none =>
    rcases h with h | ⟨a, ys, e, h1, h2⟩
    · exact .inl h
    · exact .inr ⟨a, ys, e, same_tup s h1, h2⟩
theorem At1.but {pss : List (List P2)} {u : Addr} {H H' : Hp} {v : V} {q : Option (Nat × Nat)} {ys : List V} (s : But u H H') (hu : H u = some (.lst ys)) (h : At1 K pss H v q) : At1 K pss H' v q := by
  cases q with
  | some q => exact ⟨h.1.but s hu, h.2⟩
  | none =>
    rcases h with h | ⟨a, ys, e, h1, h2⟩
    · exact .inl h
    · exact .inr ⟨a, ys, e, s.tup hu h1, h2⟩
theorem At1.atJ {pss : List (List P2)} {H : Hp} {v : V} {q : Option (Nat × Nat)} (h : At1 K pss H v q) : AtJ K pss H v q := by
  cases q with
  | some q => exact ⟨h.1.atV, h.2⟩
  | none =>
    rcases h with ⟨i, rfl⟩ | ⟨a, ys, rfl, h1, h2⟩
    · exact .kind (.int i) (by decide) (by decide)
    · exact h2 _ _ h1
/-- a four that is none -/
inductive BadF (K : PySem.W.Frag) (pss : List (List P2)) (u : Addr) (H : Hp) : V → Prop
  | str {z : Str} : BadF K pss u H (.str z)
  | non : BadF K pss u H .non
  | len {a : Addr} {xs : List V} (n : a ≠ u) (h : H a = some (.lst xs)) (l : xs.length ≠ 4) : BadF K pss u H (.ref a)
  | at {a : Addr} {xs : List V} {qs : List (Option (Nat × Nat))} (n : a ≠ u) (h : H a = some (.lst xs)) (l : xs.length = 4) (e : Each (At1 K pss H) xs qs) (z : none ∈ qs) : BadF K pss u H (.ref a)
theorem BadF.same {pss : List (List P2)} {u : Addr} {H H' : Hp} {v : V} (s : Same H H') (h : BadF K pss u H v) : BadF K pss u H' v := by
  cases h with
  | str => exact .str
  | non => exact .non
  | len n h l => exact .len n (s _ _ h) l
  | «at» n h l e z => exact .at n (s _ _ h) l (e.imp fun v x z => z.same s) z
theorem BadF.but {pss : List (List P2)} {u : Addr} {H H' : Hp} {v : V} {ys : List V} (s : But u H H') (hu : H u = some (.lst ys)) (h : BadF K pss u H v) : BadF K pss u H' v := by
  cases h with
  | str => exact .str
  | non => exact .non
  | len n h l => exact .len n (s.1 _ n _ h) l
  | «at» n h l e z => exact .at n (s.1 _ n _ h) l (e.imp fun v x z => z.but s hu) z
theorem BadF.bad {pss : List (List P2)} {u : Addr} {H : Hp} {v : V} (h : BadF K pss u H v) : BadFour K pss H v := by
  cases h with
  | str => exact .kind (.str _) (by decide) (by decide)
  | non => exact .kind .non (by decide) (by decide)
  | len n h l => exact .len (.inl (sl_of h)) l
  | «at» n h l e z => exact .side (.inl (sl_of h)) l (e.imp fun v x z => z.atJ) z
/-- a ratio that is none -/
def WrongR (K : PySem.W.Frag) (H : Hp) (v : V) : Prop := (∀ H', Bad K H' v ∨ ∃ q, Num K H' v q ∧ q.1 ≤ 0) ∨ ∃ p xs, v = .ref p ∧ SqT K H p xs ∧ ∀ H' p', SqT K H' p' xs → Bad K H' (.ref p') ∨ ∃ q, Num K H' (.ref p') q ∧ q.1 ≤ 0
theorem WrongR.same {H H' : Hp} {v : V} (s : Same H H') (h : WrongR K H v) : WrongR K H' v := by
  rcases h with h | ⟨p, xs, e, h1, h2⟩
  · exact .inl h
  · exact .inr ⟨p, xs, e, same_tup s h1, h2⟩
theorem WrongR.but {u : Addr} {H H' : Hp} {v : V} {ys : List V} (s : But u H H') (hu : H u = some (.lst ys)) (h : WrongR K H v) : WrongR K H' v := by
  rcases h with h | ⟨p, xs, e, h1, h2⟩
  · exact .inl h
  · exact .inr ⟨p, xs, e, s.tup hu h1, h2⟩
theorem WrongR.wrong {H : Hp} {v : V} (h : WrongR K H v) : Bad K H v ∨ ∃ q, Num K H v q ∧ q.1 ≤ 0 := by
  rcases h with h | ⟨p, xs, rfl, h1, h2⟩
  · exact h H
  · exact h2 _ _ h1
theorem cut_head {n : Nat} {xs ys : List V} (h : xs.length = n) : cutV (xs ++ ys) none (some (n : Nat)) = xs := by
  unfold cutV
  have e1 : HT.sIx (xs ++ ys).length 0 none = 0 := rfl
  have e2 : HT.sIx (xs ++ ys).length (xs ++ ys).length (some (n : Nat)) = n := (HT.sIx_nat _ _ n).trans (by rw [List.length_append]; omega)
  rw [e1, e2, ← h]
  simp
theorem cut_tail {n : Nat} {xs ys : List V} (h : xs.length = n) : cutV (xs ++ ys) (some (n : Nat)) none = ys := by
  unfold cutV
  have e1 : HT.sIx (xs ++ ys).length 0 (some (n : Nat)) = n := (HT.sIx_nat _ _ n).trans (by rw [List.length_append]; omega)
  have e2 : HT.sIx (xs ++ ys).length (xs ++ ys).length none = (xs ++ ys).length := rfl
  rw [e1, e2, ← h]
  simp
theorem txt_ne {H : Hp} {p q : Addr} {a b : Str} {Q : VK} (h1 : H p = some (.tup [.str a, .str b])) (h2 : H q = some (.tup [.str a, .str b])) (sd : SeqAt.shaped (.tuple [.str a, .str b]) = true) (k : Q (.bl false) H) : rNeD K (.ref p) (.ref q) H Q :=
  ne_same (d := .tuple [.str a, .str b]) (.tup (st_of h1) (.cons (.str _) (.cons (.str _) .nil))) (.tup (st_of h2) (.cons (.str _) (.cons (.str _) .nil))) sd (by simp [PyData.eqv, PyData.eqvAll]) k
end
end Odd
namespace Odd
open PySem PySem.Spec PyProof.Rows L2
local macro_rules | `(tactic| walk_at "vc") => `(tactic| simp only [tSeq, tAsg, gName, tCB, tCons, tNil, tVar, tC, tOp, tUn, rI0, rI, rU, tTup, tLst, tIfS, tTest, tB, tRet, tNext, rGcd, L2.start, List.map, List.set, List.replicate, List.cons_append, List.nil_append, List.length_cons, List.length_nil, List.getElem?_cons_succ, List.getElem?_cons_zero, Option.some.injEq, exists_eq_left', exists_eq_left, List.append_nil, List.cons.injEq, V.int.injEq, exists_and_left, and_true, true_and, and_assoc, exists_const, V.bl.injEq, V.ref.injEq, Nat.sub_self, Nat.reduceAdd, Nat.reduceSub, List.replicate_succ, List.replicate_zero, tAnd, tOr, tNot, tAndV, tOrV, tNotV, tIf, tCall, tCallK, tDrop, rEq, rNe, decide_eq_true_eq, Bool.not_eq_true', decide_eq_false_iff_not, Bool.false_eq_true, if_true, if_false, reduceIte, reduceCtorEq, tMkLow, tRaiseLow, rIsB, rNotB, tBreak, tPar, gSub, rSetL, tChain, gTup, gCons, gNil, gSeq, cx_K, cx_Kn, optV, V.str.injEq, Bool.not_true, Bool.not_false, false_and, and_false, or_false, false_or, exists_false, tCallN, tCallS, tPairs])
section
variable {w : World} {K : PySem.W.Frag} {mg : Str → Option Value} {base : Heap} {A : Ads}
def tRest (K : PySem.W.Frag) (A : Ads) : TS :=
  tSeq
          (tIfS
            (tTest
              (tOp (rNeD K)
                (tCall (spRefused K A.C_Fence A.C_Lot) [] E0
                  (tCons (tVar 8)
                    (tCons (tCall spOneOf [] E0 (tCons (tVar 3) (tCons (tVar 19) tNil))) (tCons (tVar 6) tNil))))
                (tTup (tCons (tC (V.str (Str.ofString "SIDES"))) (tCons (tC (V.str (Str.ofString "four"))) tNil)))))
            (tRet (tC (V.bl false))) tNext)
          (tSeq
            (tIfS
              (tTest
                (tOp (rNeD K)
                  (tCall (spRefused K A.C_Fence A.C_Lot) [] E0
                    (tCons (tVar 8)
                      (tCons (tCall spOneOf [] E0 (tCons (tVar 3) (tCons (tVar 19) tNil)))
                        (tCons (tC (V.int 0)) tNil))))
                  (tTup (tCons (tC (V.str (Str.ofString "SIDES"))) (tCons (tC (V.str (Str.ofString "four"))) tNil)))))
              (tRet (tC (V.bl false))) tNext)
            (tSeq
              (tAsg
                (tCall spOneOf [] E0
                  (tCons (tVar 3)
                    (tCons
                      (tLst
                        (tCons (tC (V.int 0))
                          (tCons (tTup (tCons (tC (V.int 0)) (tCons (tC (V.int 1)) tNil)))
                            (tCons
                              (tTup (tCons (tUn (rU fun i => V.int (-i)) (tC (V.int 1))) (tCons (tC (V.int 2)) tNil)))
                              (tCons (tUn (rU fun i => V.int (-i)) (tC (V.int 3)))
                                (tCons (tTup (tCons (tC (V.int 2)) (tCons (tC (V.int 4)) tNil)))
                                  (tCons (tC (V.bl true))
                                    (tCons (tC V.non)
                                      (tCons (tC (V.str (Str.ofString "1")))
                                        (tCons (tTup (tCons (tC (V.int 1)) (tCons (tC (V.int 0)) tNil)))
                                          (tCons
                                            (tTup
                                              (tCons (tC (V.int 1)) (tCons (tC (V.int 2)) (tCons (tC (V.int 3)) tNil))))
                                            tNil)))))))))))
                      tNil)))
                (gName 20))
              (tSeq
                (tIfS
                  (tTest
                    (tOp (rNeD K)
                      (tCall (spRefused K A.C_Fence A.C_Lot) [] E0
                        (tCons (tVar 8) (tCons (tVar 13) (tCons (tVar 20) tNil))))
                      (tTup
                        (tCons (tC (V.str (Str.ofString "RATIO"))) (tCons (tC (V.str (Str.ofString "ratio"))) tNil)))))
                  (tRet (tC (V.bl false))) tNext)
                (tIfS
                  (tTest
                    (tOp (rNeD K)
                      (tCall (spRefused K A.C_Fence A.C_Lot) [] E0
                        (tCons
                          (tCall spOneOf [] E0
                            (tCons (tVar 3)
                              (tCons (tLst (tCons (tC V.non) (tCons (tVar 5) (tCons (tC (V.int 3)) tNil)))) tNil)))
                          (tCons (tCall spOneOf [] E0 (tCons (tVar 3) (tCons (tVar 19) tNil))) (tCons (tVar 20) tNil))))
                      (tTup (tCons (tC (V.str (Str.ofString "LOT"))) (tCons (tC (V.str (Str.ofString "lot"))) tNil)))))
                  (tRet (tC (V.bl false))) tNext))))
theorem ne_urn {H : Hp} {u D : Addr} {k : Nat} (hu : Urn H u k) (h : H D = none) : D ≠ u := fun z => by
  obtain ⟨c, ys, e⟩ := hu.at
  rw [z, e] at h
  cases h
theorem wrong_of {H : Hp} {ta tb tc td te : Addr} {z : V} (f_ta : SqT K H ta [.int 0, .int 1]) (f_tb : SqT K H tb [.int (-1), .int 2]) (f_tc : SqT K H tc [.int 2, .int 4]) (f_td : SqT K H td [.int 1, .int 0]) (f_te : SqT K H te [.int 1, .int 2, .int 3])
    (hz : z ∈ ([.int 0, .ref ta, .ref tb, .int (-3), .ref tc, .bl true, .non, .str (Str.ofString "1"), .ref td, .ref te] : List V)) : WrongR K H z := by
  simp only [List.mem_cons, List.not_mem_nil, or_false] at hz
  rcases hz with rfl | rfl | rfl | rfl | rfl | rfl | rfl | rfl | rfl | rfl
  · exact .inl fun H' => .inr ⟨_, .int 0, by decide⟩
  · exact .inr ⟨ta, _, rfl, f_ta, fun H' p' h => .inr ⟨_, .sq (.inr h) ⟨by decide, by decide⟩, by decide⟩⟩
  · exact .inr ⟨tb, _, rfl, f_tb, fun H' p' h => .inr ⟨_, .sq (.inr h) ⟨by decide, by decide⟩, by decide⟩⟩
  · exact .inl fun H' => .inr ⟨_, .int (-3), by decide⟩
  · exact .inr ⟨tc, _, rfl, f_tc, fun H' p' h => .inl (.low (.inr h) (by rintro ⟨_, z⟩; exact absurd z (by decide)))⟩
  · exact .inl fun H' => .inl (.scal (.bl true) (by decide) (by decide) (by decide))
  · exact .inl fun H' => .inl (.scal .non (by decide) (by decide) (by decide))
  · exact .inl fun H' => .inl (.scal (.str _) (by decide) (by decide) (by decide))
  · exact .inr ⟨td, _, rfl, f_td, fun H' p' h => .inl (.low (.inr h) (by rintro ⟨z, _⟩; exact absurd z (by decide)))⟩
  · exact .inr ⟨te, _, rfl, f_te, fun H' p' h => .inl (.len (.inr h) (by decide))⟩
theorem lot_kind {H : Hp} {LR : Addr} {us : List V} {z : V} (h : H LR = some (.lst us)) (hz : z ∈ ([.non, .ref LR, .int 3] : List V)) : ∃ U, TyN K H z U ∧ (U = "NoneType" ∨ U = "list" ∨ U = "int") := by
  simp only [List.mem_cons, List.not_mem_nil, or_false] at hz
  rcases hz with rfl | rfl | rfl
  · exact ⟨_, .non, .inl rfl⟩
  · exact ⟨_, .lst (sl_of h), .inr (.inl rfl)⟩
  · exact ⟨_, .int 3, .inr (.inr rfl)⟩
theorem new_tup {H : Hp} {a : Addr} {xs : List V} (h : H a = none) : SqT K (upd H a (.tup xs)) a xs := st_of upd_same
theorem rest_ok {u LR : Addr} {us : List V} {rows : List (List (Int × Int))} {rv : V} {r : Int × Int} {un : Int} {x y LS : Addr} {ss : List V} {H : Hp} {k : Nat} {D : Ends} {o0 o4 o11 o12 o14 o15 o16 o17 o18 o20 : Option V} {s0 s1 s2 : SideZ} {F B : Addr} {v0 v1 v2 x0 : V} {bs : List V}
    (bag : Bag K A.C_Fence A.C_Lot u LR us rows rv r un x y LS ss H) (hu : Urn H u (k + 6)) (geo : RowsG rows) (un0 : 0 < un) (un7 : un ≤ 7) (i0 : SideIn rows s0) (i1 : SideIn rows s1) (i2 : SideIn rows s2)
    (eF : H F = some (.lst [v0, v1, v2, x0])) (nF : F ≠ u) (w0 : NumV K H v0 (s0.m, s0.n)) (w1 : NumV K H v1 (s1.m, s1.n)) (w2 : NumV K H v2 (s2.m, s2.n)) (w3 : NumV K H x0 (s0.m, s0.n))
    (eB : H B = some (.lst bs)) (nB : B ≠ u) (bpos : 0 < bs.length) (bmax : bs.length < 1073741824) (all : ∀ v ∈ bs, BadF K (scRows un rows) u H v)
    (nx : ∀ H' p13 p19 p20, Urn H' u k → D.nx (sg o0 none none (some (.ref u)) o4 (some (.ref LR)) (some rv) (some (.int un)) (some (.ref x)) (some (.ref y)) (some (.ref LS)) o11 o12 p13 o14 o15 o16 o17 o18 p19 p20) H') :
    tRest K A D (sg o0 none none (some (.ref u)) o4 (some (.ref LR)) (some rv) (some (.int un)) (some (.ref x)) (some (.ref y)) (some (.ref LS)) o11 o12 (some (.ref F)) o14 o15 o16 o17 o18 (some (.ref B)) o20) H := by
  have un27 : un < 2 ^ 27 := by omega
  unfold tRest
  refine seq_by fun N hN => ?_
  walk_at "vc"
  obtain ⟨c1, ys1, hux1⟩ := hu.at
  refine ⟨u, B, bs, k + 5, rfl, nB, eB, bpos, bmax, hu, fun G1 v1' b1 hu1 hv1 => ?_⟩
  replace bag := bag.but b1 hux1
  replace eF := b1.1 _ nF _ eF
  replace w0 := w0.but b1 hux1
  replace w1 := w1.but b1 hux1
  replace w2 := w2.but b1 hux1
  replace w3 := w3.but b1 hux1
  replace eB := b1.1 _ nB _ eB
  replace all := fun v hv => (all v hv).but b1 hux1
  replace hu := hu1
  clear hu1
  refine ⟨_, _, _, rfl, .inr ⟨x, _, rfl, bag.one, .inl ⟨(all _ hv1).bad, fun H2 p2 es2 ep2 => ?_⟩⟩⟩
  refine ⟨by decide, fun q2 hq2 => ?_⟩
  have et2 := same_upd (o := .tup [.str (Str.ofString "SIDES"), .str (Str.ofString "four")]) hq2
  refine txt_ne (et2 _ _ ep2) upd_same (by decide +kernel) ⟨false, rfl, ?_⟩
  rw [if_neg (show ¬ (false = true) from by decide)]
  replace bag := bag.same (es2.trans et2)
  replace hu := hu.same (es2.trans et2)
  replace eF := (es2.trans et2) _ _ eF
  replace w0 := w0.same (es2.trans et2)
  replace w1 := w1.same (es2.trans et2)
  replace w2 := w2.same (es2.trans et2)
  replace w3 := w3.same (es2.trans et2)
  replace eB := (es2.trans et2) _ _ eB
  replace all := fun v hv => (all v hv).same (es2.trans et2)
  subst hN
  refine seq_by fun N hN => ?_
  walk_at "vc"
  obtain ⟨c3, ys3, hux3⟩ := hu.at
  refine ⟨u, B, bs, k + 4, rfl, nB, eB, bpos, bmax, hu, fun G3 v3' b3 hu3 hv3 => ?_⟩
  replace bag := bag.but b3 hux3
  replace eF := b3.1 _ nF _ eF
  replace w0 := w0.but b3 hux3
  replace w1 := w1.but b3 hux3
  replace w2 := w2.but b3 hux3
  replace w3 := w3.but b3 hux3
  replace eB := b3.1 _ nB _ eB
  replace all := fun v hv => (all v hv).but b3 hux3
  replace hu := hu3
  clear hu3
  refine ⟨_, _, _, rfl, .inr ⟨x, _, rfl, bag.one, .inl ⟨(all _ hv3).bad, fun H4 p4 es4 ep4 => ?_⟩⟩⟩
  refine ⟨by decide, fun q4 hq4 => ?_⟩
  have et4 := same_upd (o := .tup [.str (Str.ofString "SIDES"), .str (Str.ofString "four")]) hq4
  refine txt_ne (et4 _ _ ep4) upd_same (by decide +kernel) ⟨false, rfl, ?_⟩
  rw [if_neg (show ¬ (false = true) from by decide)]
  replace bag := bag.same (es4.trans et4)
  replace hu := hu.same (es4.trans et4)
  replace eF := (es4.trans et4) _ _ eF
  replace w0 := w0.same (es4.trans et4)
  replace w1 := w1.same (es4.trans et4)
  replace w2 := w2.same (es4.trans et4)
  replace w3 := w3.same (es4.trans et4)
  replace eB := (es4.trans et4) _ _ eB
  replace all := fun v hv => (all v hv).same (es4.trans et4)
  subst hN
  refine seq_by fun N hN => ?_
  walk_at "vc"
  refine ⟨by decide, fun ta h_ta => ?_⟩
  have s_ta := same_upd (o := .tup [.int 0, .int 1]) h_ta
  have f_ta := new_tup (K := K) (xs := [.int 0, .int 1]) h_ta
  replace bag := bag.same s_ta
  replace hu := hu.same s_ta
  replace eF := s_ta _ _ eF
  replace w0 := w0.same s_ta
  replace w1 := w1.same s_ta
  replace w2 := w2.same s_ta
  replace w3 := w3.same s_ta
  replace eB := s_ta _ _ eB
  replace all := fun v hv => (all v hv).same s_ta
  refine ⟨by decide, fun tb h_tb => ?_⟩
  have s_tb := same_upd (o := .tup [.int (-1), .int 2]) h_tb
  have f_tb := new_tup (K := K) (xs := [.int (-1), .int 2]) h_tb
  replace bag := bag.same s_tb
  replace hu := hu.same s_tb
  replace eF := s_tb _ _ eF
  replace w0 := w0.same s_tb
  replace w1 := w1.same s_tb
  replace w2 := w2.same s_tb
  replace w3 := w3.same s_tb
  replace eB := s_tb _ _ eB
  replace all := fun v hv => (all v hv).same s_tb
  replace f_ta := same_tup s_tb f_ta
  refine ⟨by decide, fun tc h_tc => ?_⟩
  have s_tc := same_upd (o := .tup [.int 2, .int 4]) h_tc
  have f_tc := new_tup (K := K) (xs := [.int 2, .int 4]) h_tc
  replace bag := bag.same s_tc
  replace hu := hu.same s_tc
  replace eF := s_tc _ _ eF
  replace w0 := w0.same s_tc
  replace w1 := w1.same s_tc
  replace w2 := w2.same s_tc
  replace w3 := w3.same s_tc
  replace eB := s_tc _ _ eB
  replace all := fun v hv => (all v hv).same s_tc
  replace f_ta := same_tup s_tc f_ta
  replace f_tb := same_tup s_tc f_tb
  refine ⟨by decide, fun td h_td => ?_⟩
  have s_td := same_upd (o := .tup [.int 1, .int 0]) h_td
  have f_td := new_tup (K := K) (xs := [.int 1, .int 0]) h_td
  replace bag := bag.same s_td
  replace hu := hu.same s_td
  replace eF := s_td _ _ eF
  replace w0 := w0.same s_td
  replace w1 := w1.same s_td
  replace w2 := w2.same s_td
  replace w3 := w3.same s_td
  replace eB := s_td _ _ eB
  replace all := fun v hv => (all v hv).same s_td
  replace f_ta := same_tup s_td f_ta
  replace f_tb := same_tup s_td f_tb
  replace f_tc := same_tup s_td f_tc
  refine ⟨by decide, fun te h_te => ?_⟩
  have s_te := same_upd (o := .tup [.int 1, .int 2, .int 3]) h_te
  have f_te := new_tup (K := K) (xs := [.int 1, .int 2, .int 3]) h_te
  replace bag := bag.same s_te
  replace hu := hu.same s_te
  replace eF := s_te _ _ eF
  replace w0 := w0.same s_te
  replace w1 := w1.same s_te
  replace w2 := w2.same s_te
  replace w3 := w3.same s_te
  replace eB := s_te _ _ eB
  replace all := fun v hv => (all v hv).same s_te
  replace f_ta := same_tup s_te f_ta
  replace f_tb := same_tup s_te f_tb
  replace f_tc := same_tup s_te f_tc
  replace f_td := same_tup s_te f_td
  refine ⟨by decide, fun W hW => ?_⟩
  have sW := same_upd (o := .lst [.int 0, .ref ta, .ref tb, .int (-3), .ref tc, .bl true, .non, .str (Str.ofString "1"), .ref td, .ref te]) hW
  have nW : W ≠ u := ne_urn hu hW
  replace bag := bag.same sW
  replace hu := hu.same sW
  replace eF := sW _ _ eF
  replace w0 := w0.same sW
  replace w1 := w1.same sW
  replace w2 := w2.same sW
  replace w3 := w3.same sW
  replace eB := sW _ _ eB
  replace all := fun v hv => (all v hv).same sW
  replace f_ta := same_tup sW f_ta
  replace f_tb := same_tup sW f_tb
  replace f_tc := same_tup sW f_tc
  replace f_td := same_tup sW f_td
  replace f_te := same_tup sW f_te
  obtain ⟨c5, ys5, hux5⟩ := hu.at
  refine ⟨u, W, _, k + 3, rfl, nW, upd_same, (show 0 < 10 by decide), (show 10 < 1073741824 by decide), hu, fun G5 z b5 hu5 hz => ?_⟩
  have wr := wrong_of f_ta f_tb f_tc f_td f_te hz
  replace bag := bag.but b5 hux5
  replace eF := b5.1 _ nF _ eF
  replace w0 := w0.but b5 hux5
  replace w1 := w1.but b5 hux5
  replace w2 := w2.but b5 hux5
  replace w3 := w3.but b5 hux5
  replace eB := b5.1 _ nB _ eB
  replace all := fun v hv => (all v hv).but b5 hux5
  replace wr := wr.but b5 hux5
  replace hu := hu5
  clear hu5 f_ta f_tb f_tc f_td f_te hW hz
  subst hN
  refine seq_by fun N hN => ?_
  walk_at "vc"
  obtain ⟨t0, k0⟩ := i0.ok un0 un27 geo
  obtain ⟨t1, k1⟩ := i1.ok un0 un27 geo
  obtain ⟨t2, k2⟩ := i2.ok un0 un27 geo
  refine ⟨_, _, _, rfl, .inr ⟨x, _, rfl, bag.one, .inr ⟨F, _, [(s0.m, s0.n), (s1.m, s1.n), (s2.m, s2.n), (s0.m, s0.n)], [t0, t1, t2, t0], rfl, .inl (sl_of eF), each4_mk (k0.atJ w0.atV) (k1.atJ w1.atV) (k2.atJ w2.atV) (k0.atJ w3.atV), told4_of k0 k1 k2 k0, wr.wrong, fun H6 p6 es6 ep6 => ?_⟩⟩⟩
  refine ⟨by decide, fun q6 hq6 => ?_⟩
  have et6 := same_upd (o := .tup [.str (Str.ofString "RATIO"), .str (Str.ofString "ratio")]) hq6
  refine txt_ne (et6 _ _ ep6) upd_same (by decide +kernel) ⟨false, rfl, ?_⟩
  rw [if_neg (show ¬ (false = true) from by decide)]
  replace bag := bag.same (es6.trans et6)
  replace hu := hu.same (es6.trans et6)
  replace eF := (es6.trans et6) _ _ eF
  replace w0 := w0.same (es6.trans et6)
  replace w1 := w1.same (es6.trans et6)
  replace w2 := w2.same (es6.trans et6)
  replace w3 := w3.same (es6.trans et6)
  replace eB := (es6.trans et6) _ _ eB
  replace all := fun v hv => (all v hv).same (es6.trans et6)
  replace wr := wr.same (es6.trans et6)
  subst hN
  walk_at "vc"
  refine ⟨by decide, fun M hM => ?_⟩
  have sM := same_upd (o := .lst [.non, .ref LR, .int 3]) hM
  have nM : M ≠ u := ne_urn hu hM
  replace bag := bag.same sM
  replace hu := hu.same sM
  replace eF := sM _ _ eF
  replace w0 := w0.same sM
  replace w1 := w1.same sM
  replace w2 := w2.same sM
  replace w3 := w3.same sM
  replace eB := sM _ _ eB
  replace all := fun v hv => (all v hv).same sM
  replace wr := wr.same sM
  obtain ⟨c7, ys7, hux7⟩ := hu.at
  refine ⟨u, M, _, k + 1, rfl, nM, upd_same, (show 0 < 3 by decide), (show 3 < 1073741824 by decide), hu.mono (by omega), fun G7 z' b7 hu7 hz' => ?_⟩
  replace bag := bag.but b7 hux7
  replace eF := b7.1 _ nF _ eF
  replace w0 := w0.but b7 hux7
  replace w1 := w1.but b7 hux7
  replace w2 := w2.but b7 hux7
  replace w3 := w3.but b7 hux7
  replace eB := b7.1 _ nB _ eB
  replace all := fun v hv => (all v hv).but b7 hux7
  replace wr := wr.but b7 hux7
  replace hu := hu7
  clear hu7
  obtain ⟨c8, ys8, hux8⟩ := hu.at
  refine ⟨u, B, bs, k + 0, rfl, nB, eB, bpos, bmax, hu, fun G8 v8' b8 hu8 hv8 => ?_⟩
  replace bag := bag.but b8 hux8
  replace eF := b8.1 _ nF _ eF
  replace w0 := w0.but b8 hux8
  replace w1 := w1.but b8 hux8
  replace w2 := w2.but b8 hux8
  replace w3 := w3.but b8 hux8
  replace eB := b8.1 _ nB _ eB
  replace all := fun v hv => (all v hv).but b8 hux8
  replace wr := wr.but b8 hux8
  replace hu := hu8
  clear hu8
  have ty := lot_kind (K := K) bag.lr hz'
  obtain ⟨U, ty1, ty2⟩ := ty
  refine ⟨_, _, _, rfl, .inl ⟨U, ty1, ty2, fun H9 p9 es9 ep9 => ?_⟩⟩
  refine ⟨by decide, fun q9 hq9 => ?_⟩
  have et9 := same_upd (o := .tup [.str (Str.ofString "LOT"), .str (Str.ofString "lot")]) hq9
  refine txt_ne (et9 _ _ ep9) upd_same (by decide +kernel) ⟨false, rfl, ?_⟩
  rw [if_neg (show ¬ (false = true) from by decide)]
  replace bag := bag.same (es9.trans et9)
  replace hu := hu.same (es9.trans et9)
  replace eF := (es9.trans et9) _ _ eF
  replace w0 := w0.same (es9.trans et9)
  replace w1 := w1.same (es9.trans et9)
  replace w2 := w2.same (es9.trans et9)
  replace w3 := w3.same (es9.trans et9)
  replace eB := (es9.trans et9) _ _ eB
  replace all := fun v hv => (all v hv).same (es9.trans et9)
  replace wr := wr.same (es9.trans et9)
  exact nx _ _ _ _ hu
end
end Odd
namespace Odd
open PySem PySem.Spec PyProof.Rows L2
local macro_rules | `(tactic| walk_at "vc") => `(tactic| simp only [tSeq, tAsg, gName, tCB, tCons, tNil, tVar, tC, tOp, tUn, rI0, rI, rU, tTup, tLst, tIfS, tTest, tB, tRet, tNext, rGcd, L2.start, List.map, List.set, List.replicate, List.cons_append, List.nil_append, List.length_cons, List.length_nil, List.getElem?_cons_succ, List.getElem?_cons_zero, Option.some.injEq, exists_eq_left', exists_eq_left, List.append_nil, List.cons.injEq, V.int.injEq, exists_and_left, and_true, true_and, and_assoc, exists_const, V.bl.injEq, V.ref.injEq, Nat.sub_self, Nat.reduceAdd, Nat.reduceSub, List.replicate_succ, List.replicate_zero, tAnd, tOr, tNot, tAndV, tOrV, tNotV, tIf, tCall, tCallK, tDrop, rEq, rNe, decide_eq_true_eq, Bool.not_eq_true', decide_eq_false_iff_not, Bool.false_eq_true, if_true, if_false, reduceIte, reduceCtorEq, tMkLow, tRaiseLow, rIsB, rNotB, tBreak, tPar, gSub, rSetL, tChain, gTup, gCons, gNil, gSeq, cx_K, cx_Kn, optV, V.str.injEq, Bool.not_true, Bool.not_false, false_and, and_false, or_false, false_or, exists_false, tCallN, tCallS, tPairs])
section
variable {w : World} {K : PySem.W.Frag} {mg : Str → Option Value} {base : Heap} {A : Ads}
theorem each3 {α : Type} {R : V → α → Prop} {vs : List V} {a b c : α} (h : Each R vs [a, b, c]) : ∃ v0 v1 v2, vs = [v0, v1, v2] ∧ R v0 a ∧ R v1 b ∧ R v2 c := by
  have hl := h.1
  match vs, hl, h with
  | [v0, v1, v2], _, h => exact ⟨v0, v1, v2, rfl, h.2 0 _ _ rfl rfl, h.2 1 _ _ rfl rfl, h.2 2 _ _ rfl rfl⟩
theorem SideIn.atP {un : Int} {rows : List (List (Int × Int))} {s : SideZ} (h : SideIn rows s) : ∃ ps, (scRows un rows)[s.m]? = some ps ∧ s.n < ps.length := by
  obtain ⟨r, e, hn, _⟩ := h
  exact ⟨r.map (scP un), by unfold scRows; rw [List.getElem?_map, e]; rfl, by rw [List.length_map]; exact hn⟩
theorem three_sides {rows : List (List (Int × Int))} (g : RowsG rows) : ∃ r0 s0 s1 s2 rest, rows[0]? = some r0 ∧ 3 ≤ r0.length ∧ sidesZ rows rows.length = s0 :: s1 :: s2 :: rest ∧ s0.m = 0 ∧ s0.n = 0 ∧ s1.m = 0 ∧ s1.n = 1 ∧ s2.m = 0 ∧ s2.n = 2 := by
  have hl : 0 < rows.length := by rcases g.many with h | h <;> omega
  obtain ⟨r0, tl, rfl⟩ : ∃ r0 tl, rows = r0 :: tl := by
    cases rows with
    | nil => simp at hl
    | cons a b => exact ⟨a, b, rfl⟩
  have h3 := (g.five r0 (by simp)).1
  obtain ⟨n, hn⟩ : ∃ n, r0.length = n + 3 := ⟨r0.length - 3, by omega⟩
  let f : Nat → SideZ := fun n => ⟨0, n, r0.getD n (0, 0), ((r0.getD ((n + 1) % r0.length) (0, 0)).1 - (r0.getD n (0, 0)).1, (r0.getD ((n + 1) % r0.length) (0, 0)).2 - (r0.getD n (0, 0)).2)⟩
  obtain ⟨rest, e⟩ : ∃ rest, sidesZ (r0 :: tl) (r0 :: tl).length = f 0 :: f 1 :: f 2 :: rest := by
    have e1 : (List.range r0.length).map f = f 0 :: f 1 :: f 2 :: (List.range n).map (fun k => f (k + 3)) := by
      rw [hn, List.range_succ_eq_map, List.range_succ_eq_map, List.range_succ_eq_map]
      simp only [List.map_cons, List.map_map]
      rfl
    refine ⟨((List.range n).map (fun k => f (k + 3))) ++ ((List.range tl.length).map Nat.succ).flatMap fun m => sidesOf m ((r0 :: tl).getD m []) ((r0 :: tl).getD m []).length, ?_⟩
    unfold sidesZ
    rw [List.length_cons, List.range_succ_eq_map, List.flatMap_cons]
    show (List.range r0.length).map f ++ _ = _
    rw [e1]
    rfl
  exact ⟨r0, f 0, f 1, f 2, rest, rfl, h3, e, rfl, rfl, rfl, rfl, rfl, rfl⟩
theorem tail_ok (T : Txt K mg A) {u LR : Addr} {us : List V} {rows : List (List (Int × Int))} {rv : V} {r : Int × Int} {un : Int} {x y LS : Addr} {ss : List V} {H : Hp} {k : Nat} {D : Ends} {o0 o4 o11 o12 o13 o14 o15 o16 o17 o18 o19 o20 : Option V}
    (bag : Bag K A.C_Fence A.C_Lot u LR us rows rv r un x y LS ss H) (hu : Urn H u (k + 6)) (geo : RowsG rows) (un0 : 0 < un) (un7 : un ≤ 7)
    (nx : ∀ H' p13 p19 p20, Urn H' u k → D.nx (sg o0 none none (some (.ref u)) o4 (some (.ref LR)) (some rv) (some (.int un)) (some (.ref x)) (some (.ref y)) (some (.ref LS)) o11 o12 p13 o14 o15 o16 o17 o18 p19 p20) H') :
    tTail K A D (sg o0 none none (some (.ref u)) o4 (some (.ref LR)) (some rv) (some (.int un)) (some (.ref x)) (some (.ref y)) (some (.ref LS)) o11 o12 o13 o14 o15 o16 o17 o18 o19 o20) H := by
  obtain ⟨r0, s0, s1, s2, rest, hr0, l3, es, m0, n0, m1, n1, m2, n2⟩ := three_sides geo
  have i0 : SideIn rows s0 := sidesZ_in (by rw [es]; simp)
  have i1 : SideIn rows s1 := sidesZ_in (by rw [es]; simp)
  have i2 : SideIn rows s2 := sidesZ_in (by rw [es]; simp)
  have un27 : un < 2 ^ 27 := by omega
  have sv := bag.sv
  rw [es] at sv
  obtain ⟨a0, a1, a2, tl, rfl⟩ : ∃ a0 a1 a2 tl, ss = [a0, a1, a2] ++ tl := by
    have := sv.1
    match ss, this with
    | a0 :: a1 :: a2 :: tl, _ => exact ⟨a0, a1, a2, tl, rfl⟩
  have q0 := sv.2 0 _ _ rfl rfl
  have q1 := sv.2 1 _ _ rfl rfl
  have q2 := sv.2 2 _ _ rfl rfl
  unfold tTail
  refine seq_by fun N hN => ?_
  walk_at "vc"
  have ec : cutV ([a0, a1, a2] ++ tl) none (some 3) = [a0, a1, a2] := cut_head (n := 3) rfl
  refine ⟨_, rfl, _, rfl, LS, _, rfl, sl_of bag.ls, fun P hP => ?_⟩
  rw [ec]
  have s1' := same_upd (o := .lst [a0, a1, a2]) hP
  have eP : upd H P (.lst [a0, a1, a2]) P = some (.lst [a0, a1, a2]) := upd_same
  replace bag := bag.same s1'
  replace hu := hu.same s1'
  replace q0 := q0.same s1'
  replace q1 := q1.same s1'
  replace q2 := q2.same s1'
  generalize upd H P (.lst [a0, a1, a2]) = H1 at *
  clear s1' hP H ec sv
  refine ⟨P, rfl, ⟨_, sl_of eP⟩, fun L hL => lc_list (xs := [a0, a1, a2]) (fun i H3 => Same H1 H3 ∧ ∃ acc, H3 L = some (.lst acc) ∧ Each (NumV K H3) acc ([(s0.m, s0.n), (s1.m, s1.n), (s2.m, s2.n)].take i)) ⟨same_upd hL, _, upd_same, rfl, fun i v x e => by simp at e⟩ (fun i H3 _ h => sl_of (h.1 _ _ eP)) ?_ ?_⟩
  · rintro i v H3 hv ⟨s3, acc, e3, ea⟩
    have hi : i < 3 := (List.getElem?_eq_some_iff.mp hv).1
    obtain ⟨s, hs, hM⟩ : ∃ s, SideV K H1 v s ∧ [(s0.m, s0.n), (s1.m, s1.n), (s2.m, s2.n)][i]? = some (s.m, s.n) := by
      rcases (by omega : i = 0 ∨ i = 1 ∨ i = 2) with rfl | rfl | rfl
      · obtain rfl := Option.some.inj (show some a0 = some v from hv)
        exact ⟨s0, q0, rfl⟩
      · obtain rfl := Option.some.inj (show some a1 = some v from hv)
        exact ⟨s1, q1, rfl⟩
      · obtain rfl := Option.some.inj (show some a2 = some v from hv)
        exact ⟨s2, q2, rfl⟩
    obtain ⟨b, xx, yy, zz, rfl, hb, hn, _⟩ := hs
    refine ⟨rfl, ?_⟩
    simp only [tYes, if_true]
    show tOp (rIxT K) (tVar 2) (tC (V.int 0)) (sg o0 none (some (.ref b)) (some (.ref u)) o4 (some (.ref LR)) (some rv) (some (.int un)) (some (.ref x)) (some (.ref y)) (some (.ref LS)) o11 o12 o13 o14 o15 o16 o17 o18 o19 o20) H3 _
    walk_at "vc"
    refine ixT (same_tup s3 hb) rfl ?_
    refine ⟨acc, e3, ?_, fun c o ec => ?_, _, upd_same, ?_⟩
    · rw [ea.1, List.length_take]
      exact small1000 (by omega)
    · rw [upd_ne (ne_of_none ec hL)]
      exact s3 _ _ ec
    · rw [List.take_add_one, hM]
      exact each_snoc (ea.imp fun v x z => z.keep e3) ((hn.same s3).keep e3)
  · rintro H3 ⟨s3, acc, e3, ea⟩
    obtain ⟨v0, v1, v2, rfl, w0, w1, w2⟩ := each3 (show Each (NumV K H3) acc [(s0.m, s0.n), (s1.m, s1.n), (s2.m, s2.n)] from ea)
    obtain ⟨b, x0, y0, z0, rfl, hb, w3, _⟩ := q0
    replace w3 := w3.same s3
    replace hb := same_tup s3 hb
    replace bag := bag.same s3
    replace hu := hu.same s3
    clear q1 q2 eP s3 ea hL
    refine ixL (sl_of bag.ls) (show atI ([V.ref b, a1, a2] ++ tl) ((0 : Nat) : Int) = some (.ref b) from atI_nat rfl) ?_
    refine ixT hb rfl ?_
    refine ⟨by decide, fun p hp => ?_⟩
    have s4 := same_upd (o := .lst [x0]) hp
    refine ⟨L, p, _, _, rfl, rfl, s4 _ _ e3, upd_same, (by show 3 + 1 ≤ sizeLine; decide), fun F hF => ?_⟩
    have s5 := s4.trans (same_upd (o := .lst ([v0, v1, v2] ++ [x0])) hF)
    have eF : upd (upd H3 p (.lst [x0])) F (.lst ([v0, v1, v2] ++ [x0])) F = some (.lst [v0, v1, v2, x0]) := upd_same
    have nF : F ≠ u := ne_urn (hu.same s4) hF
    replace w0 := w0.same s5
    replace w1 := w1.same s5
    replace w2 := w2.same s5
    replace w3 := w3.same s5
    replace bag := bag.same s5
    replace hu := hu.same s5
    generalize upd (upd H3 p (.lst [x0])) F (.lst ([v0, v1, v2] ++ [x0])) = H4 at *
    clear s5 hF s4 hp e3 hb p
    subst hN
    refine seq_by fun N hN => ?_
    walk_at "vc"
    simp only [tSl, tNoPart, tPart]
    walk_at "vc"
    obtain ⟨vr, hvr, ar, wr, rfl, har, _, hwr⟩ := bag.rws.at hr0
    have lwr := hwr.1
    have lus := bag.rws.1
    clear hwr
    have ec3 : cutV [v0, v1, v2, x0] none (some 3) = [v0, v1, v2] := cut_head (n := 3) (xs := [v0, v1, v2]) (ys := [x0]) rfl
    have ec2 : cutV [v0, v1, v2, x0] none (some 2) = [v0, v1] := cut_head (n := 2) (xs := [v0, v1]) (ys := [v2, x0]) rfl
    have ec1 : cutV [v0, v1, v2, x0] none (some 1) = [v0] := cut_head (n := 1) (xs := [v0]) (ys := [v1, v2, x0]) rfl
    have et1 : cutV [v0, v1, v2, x0] (some 1) none = [v1, v2, x0] := cut_tail (n := 1) (xs := [v0]) (ys := [v1, v2, x0]) rfl
    refine ⟨F, _, rfl, sl_of eF, fun l1 h_l1 => ?_⟩
    rw [ec3]
    have n_l1 : l1 ≠ u := ne_urn hu h_l1
    have s_l1 := same_upd (o := .lst [v0, v1, v2]) h_l1
    have e_l1 : upd H4 l1 (.lst [v0, v1, v2]) l1 = some (.lst [v0, v1, v2]) := upd_same
    replace bag := bag.same s_l1
    replace hu := hu.same s_l1
    replace eF := s_l1 _ _ eF
    replace w0 := w0.same s_l1
    replace w1 := w1.same s_l1
    replace w2 := w2.same s_l1
    replace w3 := w3.same s_l1
    replace har := s_l1 _ _ har
    generalize upd H4 l1 (.lst [v0, v1, v2]) = G101 at *
    clear s_l1 h_l1
    refine ixL (sl_of eF) rfl ?_
    refine ⟨by decide, fun k2 h_k2 => ?_⟩
    have n_k2 : k2 ≠ u := ne_urn hu h_k2
    have s_k2 := same_upd (o := .lst [v0]) h_k2
    have e_k2 : upd G101 k2 (.lst [v0]) k2 = some (.lst [v0]) := upd_same
    replace bag := bag.same s_k2
    replace hu := hu.same s_k2
    replace eF := s_k2 _ _ eF
    replace w0 := w0.same s_k2
    replace w1 := w1.same s_k2
    replace w2 := w2.same s_k2
    replace w3 := w3.same s_k2
    replace har := s_k2 _ _ har
    replace e_l1 := s_k2 _ _ e_l1
    generalize upd G101 k2 (.lst [v0]) = G102 at *
    clear s_k2 h_k2
    refine ⟨F, k2, _, _, rfl, rfl, eF, e_k2, (by show 4 + 1 ≤ sizeLine; decide), fun l2 h_l2 => ?_⟩
    have n_l2 : l2 ≠ u := ne_urn hu h_l2
    have s_l2 := same_upd (o := .lst ([v0, v1, v2, x0] ++ [v0])) h_l2
    have e_l2 : upd G102 l2 (.lst ([v0, v1, v2, x0] ++ [v0])) l2 = some (.lst [v0, v1, v2, x0, v0]) := upd_same
    replace bag := bag.same s_l2
    replace hu := hu.same s_l2
    replace eF := s_l2 _ _ eF
    replace w0 := w0.same s_l2
    replace w1 := w1.same s_l2
    replace w2 := w2.same s_l2
    replace w3 := w3.same s_l2
    replace har := s_l2 _ _ har
    replace e_l1 := s_l2 _ _ e_l1
    replace e_k2 := s_l2 _ _ e_k2
    generalize upd G102 l2 (.lst ([v0, v1, v2, x0] ++ [v0])) = G103 at *
    clear s_l2 h_l2
    refine ⟨F, _, rfl, sl_of eF, fun k3 h_k3 => ?_⟩
    rw [ec3]
    have n_k3 : k3 ≠ u := ne_urn hu h_k3
    have s_k3 := same_upd (o := .lst [v0, v1, v2]) h_k3
    have e_k3 : upd G103 k3 (.lst [v0, v1, v2]) k3 = some (.lst [v0, v1, v2]) := upd_same
    replace bag := bag.same s_k3
    replace hu := hu.same s_k3
    replace eF := s_k3 _ _ eF
    replace w0 := w0.same s_k3
    replace w1 := w1.same s_k3
    replace w2 := w2.same s_k3
    replace w3 := w3.same s_k3
    replace har := s_k3 _ _ har
    replace e_l1 := s_k3 _ _ e_l1
    replace e_k2 := s_k3 _ _ e_k2
    replace e_l2 := s_k3 _ _ e_l2
    generalize upd G103 k3 (.lst [v0, v1, v2]) = G104 at *
    clear s_k3 h_k3
    refine ixL (sl_of bag.lr) (show atI us ((0 : Nat) : Int) = some (.ref ar) from atI_nat hvr) ?_
    refine ⟨ar, rfl, wr, .inl (sl_of har), ?_⟩
    refine ⟨by decide, fun t3 h_t3 => ?_⟩
    have n_t3 : t3 ≠ u := ne_urn hu h_t3
    have s_t3 := same_upd (o := .tup [.int 0, .int (wr.length : Nat)]) h_t3
    have e_t3 : upd G104 t3 (.tup [.int 0, .int (wr.length : Nat)]) t3 = some (.tup [.int 0, .int (wr.length : Nat)]) := upd_same
    replace bag := bag.same s_t3
    replace hu := hu.same s_t3
    replace eF := s_t3 _ _ eF
    replace w0 := w0.same s_t3
    replace w1 := w1.same s_t3
    replace w2 := w2.same s_t3
    replace w3 := w3.same s_t3
    replace har := s_t3 _ _ har
    replace e_l1 := s_t3 _ _ e_l1
    replace e_k2 := s_t3 _ _ e_k2
    replace e_l2 := s_t3 _ _ e_l2
    replace e_k3 := s_t3 _ _ e_k3
    generalize upd G104 t3 (.tup [.int 0, .int (wr.length : Nat)]) = G105 at *
    clear s_t3 h_t3
    refine ⟨by decide, fun j3 h_j3 => ?_⟩
    have n_j3 : j3 ≠ u := ne_urn hu h_j3
    have s_j3 := same_upd (o := .lst [.ref t3]) h_j3
    have e_j3 : upd G105 j3 (.lst [.ref t3]) j3 = some (.lst [.ref t3]) := upd_same
    replace bag := bag.same s_j3
    replace hu := hu.same s_j3
    replace eF := s_j3 _ _ eF
    replace w0 := w0.same s_j3
    replace w1 := w1.same s_j3
    replace w2 := w2.same s_j3
    replace w3 := w3.same s_j3
    replace har := s_j3 _ _ har
    replace e_l1 := s_j3 _ _ e_l1
    replace e_k2 := s_j3 _ _ e_k2
    replace e_l2 := s_j3 _ _ e_l2
    replace e_k3 := s_j3 _ _ e_k3
    replace e_t3 := s_j3 _ _ e_t3
    generalize upd G105 j3 (.lst [.ref t3]) = G106 at *
    clear s_j3 h_j3
    refine ⟨k3, j3, _, _, rfl, rfl, e_k3, e_j3, (by show 3 + 1 ≤ sizeLine; decide), fun l3 h_l3 => ?_⟩
    have n_l3 : l3 ≠ u := ne_urn hu h_l3
    have s_l3 := same_upd (o := .lst ([v0, v1, v2] ++ [.ref t3])) h_l3
    have e_l3 : upd G106 l3 (.lst ([v0, v1, v2] ++ [.ref t3])) l3 = some (.lst [v0, v1, v2, .ref t3]) := upd_same
    replace bag := bag.same s_l3
    replace hu := hu.same s_l3
    replace eF := s_l3 _ _ eF
    replace w0 := w0.same s_l3
    replace w1 := w1.same s_l3
    replace w2 := w2.same s_l3
    replace w3 := w3.same s_l3
    replace har := s_l3 _ _ har
    replace e_l1 := s_l3 _ _ e_l1
    replace e_k2 := s_l3 _ _ e_k2
    replace e_l2 := s_l3 _ _ e_l2
    replace e_k3 := s_l3 _ _ e_k3
    replace e_t3 := s_l3 _ _ e_t3
    replace e_j3 := s_l3 _ _ e_j3
    generalize upd G106 l3 (.lst ([v0, v1, v2] ++ [.ref t3])) = G107 at *
    clear s_l3 h_l3
    refine ⟨us, .inl (sl_of bag.lr), ?_⟩
    refine ⟨by decide, fun t4 h_t4 => ?_⟩
    have n_t4 : t4 ≠ u := ne_urn hu h_t4
    have s_t4 := same_upd (o := .tup [.int (us.length : Nat), .int 0]) h_t4
    have e_t4 : upd G107 t4 (.tup [.int (us.length : Nat), .int 0]) t4 = some (.tup [.int (us.length : Nat), .int 0]) := upd_same
    replace bag := bag.same s_t4
    replace hu := hu.same s_t4
    replace eF := s_t4 _ _ eF
    replace w0 := w0.same s_t4
    replace w1 := w1.same s_t4
    replace w2 := w2.same s_t4
    replace w3 := w3.same s_t4
    replace har := s_t4 _ _ har
    replace e_l1 := s_t4 _ _ e_l1
    replace e_k2 := s_t4 _ _ e_k2
    replace e_l2 := s_t4 _ _ e_l2
    replace e_k3 := s_t4 _ _ e_k3
    replace e_t3 := s_t4 _ _ e_t3
    replace e_j3 := s_t4 _ _ e_j3
    replace e_l3 := s_t4 _ _ e_l3
    generalize upd G107 t4 (.tup [.int (us.length : Nat), .int 0]) = G108 at *
    clear s_t4 h_t4
    refine ⟨by decide, fun j4 h_j4 => ?_⟩
    have n_j4 : j4 ≠ u := ne_urn hu h_j4
    have s_j4 := same_upd (o := .lst [.ref t4]) h_j4
    have e_j4 : upd G108 j4 (.lst [.ref t4]) j4 = some (.lst [.ref t4]) := upd_same
    replace bag := bag.same s_j4
    replace hu := hu.same s_j4
    replace eF := s_j4 _ _ eF
    replace w0 := w0.same s_j4
    replace w1 := w1.same s_j4
    replace w2 := w2.same s_j4
    replace w3 := w3.same s_j4
    replace har := s_j4 _ _ har
    replace e_l1 := s_j4 _ _ e_l1
    replace e_k2 := s_j4 _ _ e_k2
    replace e_l2 := s_j4 _ _ e_l2
    replace e_k3 := s_j4 _ _ e_k3
    replace e_t3 := s_j4 _ _ e_t3
    replace e_j3 := s_j4 _ _ e_j3
    replace e_l3 := s_j4 _ _ e_l3
    replace e_t4 := s_j4 _ _ e_t4
    generalize upd G108 j4 (.lst [.ref t4]) = G109 at *
    clear s_j4 h_j4
    refine ⟨F, _, rfl, sl_of eF, fun k4 h_k4 => ?_⟩
    rw [et1]
    have n_k4 : k4 ≠ u := ne_urn hu h_k4
    have s_k4 := same_upd (o := .lst [v1, v2, x0]) h_k4
    have e_k4 : upd G109 k4 (.lst [v1, v2, x0]) k4 = some (.lst [v1, v2, x0]) := upd_same
    replace bag := bag.same s_k4
    replace hu := hu.same s_k4
    replace eF := s_k4 _ _ eF
    replace w0 := w0.same s_k4
    replace w1 := w1.same s_k4
    replace w2 := w2.same s_k4
    replace w3 := w3.same s_k4
    replace har := s_k4 _ _ har
    replace e_l1 := s_k4 _ _ e_l1
    replace e_k2 := s_k4 _ _ e_k2
    replace e_l2 := s_k4 _ _ e_l2
    replace e_k3 := s_k4 _ _ e_k3
    replace e_t3 := s_k4 _ _ e_t3
    replace e_j3 := s_k4 _ _ e_j3
    replace e_l3 := s_k4 _ _ e_l3
    replace e_t4 := s_k4 _ _ e_t4
    replace e_j4 := s_k4 _ _ e_j4
    generalize upd G109 k4 (.lst [v1, v2, x0]) = G110 at *
    clear s_k4 h_k4
    refine ⟨j4, k4, _, _, rfl, rfl, e_j4, e_k4, (by show 1 + 3 ≤ sizeLine; decide), fun l4 h_l4 => ?_⟩
    have n_l4 : l4 ≠ u := ne_urn hu h_l4
    have s_l4 := same_upd (o := .lst ([.ref t4] ++ [v1, v2, x0])) h_l4
    have e_l4 : upd G110 l4 (.lst ([.ref t4] ++ [v1, v2, x0])) l4 = some (.lst [.ref t4, v1, v2, x0]) := upd_same
    replace bag := bag.same s_l4
    replace hu := hu.same s_l4
    replace eF := s_l4 _ _ eF
    replace w0 := w0.same s_l4
    replace w1 := w1.same s_l4
    replace w2 := w2.same s_l4
    replace w3 := w3.same s_l4
    replace har := s_l4 _ _ har
    replace e_l1 := s_l4 _ _ e_l1
    replace e_k2 := s_l4 _ _ e_k2
    replace e_l2 := s_l4 _ _ e_l2
    replace e_k3 := s_l4 _ _ e_k3
    replace e_t3 := s_l4 _ _ e_t3
    replace e_j3 := s_l4 _ _ e_j3
    replace e_l3 := s_l4 _ _ e_l3
    replace e_t4 := s_l4 _ _ e_t4
    replace e_j4 := s_l4 _ _ e_j4
    replace e_k4 := s_l4 _ _ e_k4
    generalize upd G110 l4 (.lst ([.ref t4] ++ [v1, v2, x0])) = G111 at *
    clear s_l4 h_l4
    refine ⟨F, _, rfl, sl_of eF, fun k5 h_k5 => ?_⟩
    rw [ec3]
    have n_k5 : k5 ≠ u := ne_urn hu h_k5
    have s_k5 := same_upd (o := .lst [v0, v1, v2]) h_k5
    have e_k5 : upd G111 k5 (.lst [v0, v1, v2]) k5 = some (.lst [v0, v1, v2]) := upd_same
    replace bag := bag.same s_k5
    replace hu := hu.same s_k5
    replace eF := s_k5 _ _ eF
    replace w0 := w0.same s_k5
    replace w1 := w1.same s_k5
    replace w2 := w2.same s_k5
    replace w3 := w3.same s_k5
    replace har := s_k5 _ _ har
    replace e_l1 := s_k5 _ _ e_l1
    replace e_k2 := s_k5 _ _ e_k2
    replace e_l2 := s_k5 _ _ e_l2
    replace e_k3 := s_k5 _ _ e_k3
    replace e_t3 := s_k5 _ _ e_t3
    replace e_j3 := s_k5 _ _ e_j3
    replace e_l3 := s_k5 _ _ e_l3
    replace e_t4 := s_k5 _ _ e_t4
    replace e_j4 := s_k5 _ _ e_j4
    replace e_k4 := s_k5 _ _ e_k4
    replace e_l4 := s_k5 _ _ e_l4
    generalize upd G111 k5 (.lst [v0, v1, v2]) = G112 at *
    clear s_k5 h_k5
    refine ⟨by decide, fun t5 h_t5 => ?_⟩
    have n_t5 : t5 ≠ u := ne_urn hu h_t5
    have s_t5 := same_upd (o := .tup [.int 0, .int (-1)]) h_t5
    have e_t5 : upd G112 t5 (.tup [.int 0, .int (-1)]) t5 = some (.tup [.int 0, .int (-1)]) := upd_same
    replace bag := bag.same s_t5
    replace hu := hu.same s_t5
    replace eF := s_t5 _ _ eF
    replace w0 := w0.same s_t5
    replace w1 := w1.same s_t5
    replace w2 := w2.same s_t5
    replace w3 := w3.same s_t5
    replace har := s_t5 _ _ har
    replace e_l1 := s_t5 _ _ e_l1
    replace e_k2 := s_t5 _ _ e_k2
    replace e_l2 := s_t5 _ _ e_l2
    replace e_k3 := s_t5 _ _ e_k3
    replace e_t3 := s_t5 _ _ e_t3
    replace e_j3 := s_t5 _ _ e_j3
    replace e_l3 := s_t5 _ _ e_l3
    replace e_t4 := s_t5 _ _ e_t4
    replace e_j4 := s_t5 _ _ e_j4
    replace e_k4 := s_t5 _ _ e_k4
    replace e_l4 := s_t5 _ _ e_l4
    replace e_k5 := s_t5 _ _ e_k5
    generalize upd G112 t5 (.tup [.int 0, .int (-1)]) = G113 at *
    clear s_t5 h_t5
    refine ⟨by decide, fun j5 h_j5 => ?_⟩
    have n_j5 : j5 ≠ u := ne_urn hu h_j5
    have s_j5 := same_upd (o := .lst [.ref t5]) h_j5
    have e_j5 : upd G113 j5 (.lst [.ref t5]) j5 = some (.lst [.ref t5]) := upd_same
    replace bag := bag.same s_j5
    replace hu := hu.same s_j5
    replace eF := s_j5 _ _ eF
    replace w0 := w0.same s_j5
    replace w1 := w1.same s_j5
    replace w2 := w2.same s_j5
    replace w3 := w3.same s_j5
    replace har := s_j5 _ _ har
    replace e_l1 := s_j5 _ _ e_l1
    replace e_k2 := s_j5 _ _ e_k2
    replace e_l2 := s_j5 _ _ e_l2
    replace e_k3 := s_j5 _ _ e_k3
    replace e_t3 := s_j5 _ _ e_t3
    replace e_j3 := s_j5 _ _ e_j3
    replace e_l3 := s_j5 _ _ e_l3
    replace e_t4 := s_j5 _ _ e_t4
    replace e_j4 := s_j5 _ _ e_j4
    replace e_k4 := s_j5 _ _ e_k4
    replace e_l4 := s_j5 _ _ e_l4
    replace e_k5 := s_j5 _ _ e_k5
    replace e_t5 := s_j5 _ _ e_t5
    generalize upd G113 j5 (.lst [.ref t5]) = G114 at *
    clear s_j5 h_j5
    refine ⟨k5, j5, _, _, rfl, rfl, e_k5, e_j5, (by show 3 + 1 ≤ sizeLine; decide), fun l5 h_l5 => ?_⟩
    have n_l5 : l5 ≠ u := ne_urn hu h_l5
    have s_l5 := same_upd (o := .lst ([v0, v1, v2] ++ [.ref t5])) h_l5
    have e_l5 : upd G114 l5 (.lst ([v0, v1, v2] ++ [.ref t5])) l5 = some (.lst [v0, v1, v2, .ref t5]) := upd_same
    replace bag := bag.same s_l5
    replace hu := hu.same s_l5
    replace eF := s_l5 _ _ eF
    replace w0 := w0.same s_l5
    replace w1 := w1.same s_l5
    replace w2 := w2.same s_l5
    replace w3 := w3.same s_l5
    replace har := s_l5 _ _ har
    replace e_l1 := s_l5 _ _ e_l1
    replace e_k2 := s_l5 _ _ e_k2
    replace e_l2 := s_l5 _ _ e_l2
    replace e_k3 := s_l5 _ _ e_k3
    replace e_t3 := s_l5 _ _ e_t3
    replace e_j3 := s_l5 _ _ e_j3
    replace e_l3 := s_l5 _ _ e_l3
    replace e_t4 := s_l5 _ _ e_t4
    replace e_j4 := s_l5 _ _ e_j4
    replace e_k4 := s_l5 _ _ e_k4
    replace e_l4 := s_l5 _ _ e_l4
    replace e_k5 := s_l5 _ _ e_k5
    replace e_t5 := s_l5 _ _ e_t5
    replace e_j5 := s_l5 _ _ e_j5
    generalize upd G114 l5 (.lst ([v0, v1, v2] ++ [.ref t5])) = G115 at *
    clear s_l5 h_l5
    refine ⟨by decide, fun b1 h_b1 => ?_⟩
    have n_b1 : b1 ≠ u := ne_urn hu h_b1
    have s_b1 := same_upd (o := .lst [.ref l1, .ref l2, .ref l3, .ref l4, .ref l5]) h_b1
    have e_b1 : upd G115 b1 (.lst [.ref l1, .ref l2, .ref l3, .ref l4, .ref l5]) b1 = some (.lst [.ref l1, .ref l2, .ref l3, .ref l4, .ref l5]) := upd_same
    replace bag := bag.same s_b1
    replace hu := hu.same s_b1
    replace eF := s_b1 _ _ eF
    replace w0 := w0.same s_b1
    replace w1 := w1.same s_b1
    replace w2 := w2.same s_b1
    replace w3 := w3.same s_b1
    replace har := s_b1 _ _ har
    replace e_l1 := s_b1 _ _ e_l1
    replace e_k2 := s_b1 _ _ e_k2
    replace e_l2 := s_b1 _ _ e_l2
    replace e_k3 := s_b1 _ _ e_k3
    replace e_t3 := s_b1 _ _ e_t3
    replace e_j3 := s_b1 _ _ e_j3
    replace e_l3 := s_b1 _ _ e_l3
    replace e_t4 := s_b1 _ _ e_t4
    replace e_j4 := s_b1 _ _ e_j4
    replace e_k4 := s_b1 _ _ e_k4
    replace e_l4 := s_b1 _ _ e_l4
    replace e_k5 := s_b1 _ _ e_k5
    replace e_t5 := s_b1 _ _ e_t5
    replace e_j5 := s_b1 _ _ e_j5
    replace e_l5 := s_b1 _ _ e_l5
    generalize upd G115 b1 (.lst [.ref l1, .ref l2, .ref l3, .ref l4, .ref l5]) = G116 at *
    clear s_b1 h_b1
    clear n_k2 e_k2
    clear n_k3 e_k3
    clear n_j3 e_j3
    clear n_j4 e_j4
    clear n_k4 e_k4
    clear n_k5 e_k5
    clear n_j5 e_j5
    subst hN
    refine seq_by fun N hN => ?_
    walk_at "vc"
    simp only [tSl, tNoPart, tPart]
    walk_at "vc"
    refine ⟨F, _, rfl, sl_of eF, fun k6 h_k6 => ?_⟩
    rw [ec2]
    have n_k6 : k6 ≠ u := ne_urn hu h_k6
    have s_k6 := same_upd (o := .lst [v0, v1]) h_k6
    have e_k6 : upd G116 k6 (.lst [v0, v1]) k6 = some (.lst [v0, v1]) := upd_same
    replace bag := bag.same s_k6
    replace hu := hu.same s_k6
    replace eF := s_k6 _ _ eF
    replace w0 := w0.same s_k6
    replace w1 := w1.same s_k6
    replace w2 := w2.same s_k6
    replace w3 := w3.same s_k6
    replace har := s_k6 _ _ har
    replace e_l1 := s_k6 _ _ e_l1
    replace e_l2 := s_k6 _ _ e_l2
    replace e_t3 := s_k6 _ _ e_t3
    replace e_l3 := s_k6 _ _ e_l3
    replace e_t4 := s_k6 _ _ e_t4
    replace e_l4 := s_k6 _ _ e_l4
    replace e_t5 := s_k6 _ _ e_t5
    replace e_l5 := s_k6 _ _ e_l5
    replace e_b1 := s_k6 _ _ e_b1
    generalize upd G116 k6 (.lst [v0, v1]) = G117 at *
    clear s_k6 h_k6
    refine ⟨by decide, fun t6 h_t6 => ?_⟩
    have n_t6 : t6 ≠ u := ne_urn hu h_t6
    have s_t6 := same_upd (o := .tup [.int 0, .bl true]) h_t6
    have e_t6 : upd G117 t6 (.tup [.int 0, .bl true]) t6 = some (.tup [.int 0, .bl true]) := upd_same
    replace bag := bag.same s_t6
    replace hu := hu.same s_t6
    replace eF := s_t6 _ _ eF
    replace w0 := w0.same s_t6
    replace w1 := w1.same s_t6
    replace w2 := w2.same s_t6
    replace w3 := w3.same s_t6
    replace har := s_t6 _ _ har
    replace e_l1 := s_t6 _ _ e_l1
    replace e_l2 := s_t6 _ _ e_l2
    replace e_t3 := s_t6 _ _ e_t3
    replace e_l3 := s_t6 _ _ e_l3
    replace e_t4 := s_t6 _ _ e_t4
    replace e_l4 := s_t6 _ _ e_l4
    replace e_t5 := s_t6 _ _ e_t5
    replace e_l5 := s_t6 _ _ e_l5
    replace e_b1 := s_t6 _ _ e_b1
    replace e_k6 := s_t6 _ _ e_k6
    generalize upd G117 t6 (.tup [.int 0, .bl true]) = G118 at *
    clear s_t6 h_t6
    refine ⟨by decide, fun j6 h_j6 => ?_⟩
    have n_j6 : j6 ≠ u := ne_urn hu h_j6
    have s_j6 := same_upd (o := .lst [.ref t6]) h_j6
    have e_j6 : upd G118 j6 (.lst [.ref t6]) j6 = some (.lst [.ref t6]) := upd_same
    replace bag := bag.same s_j6
    replace hu := hu.same s_j6
    replace eF := s_j6 _ _ eF
    replace w0 := w0.same s_j6
    replace w1 := w1.same s_j6
    replace w2 := w2.same s_j6
    replace w3 := w3.same s_j6
    replace har := s_j6 _ _ har
    replace e_l1 := s_j6 _ _ e_l1
    replace e_l2 := s_j6 _ _ e_l2
    replace e_t3 := s_j6 _ _ e_t3
    replace e_l3 := s_j6 _ _ e_l3
    replace e_t4 := s_j6 _ _ e_t4
    replace e_l4 := s_j6 _ _ e_l4
    replace e_t5 := s_j6 _ _ e_t5
    replace e_l5 := s_j6 _ _ e_l5
    replace e_b1 := s_j6 _ _ e_b1
    replace e_k6 := s_j6 _ _ e_k6
    replace e_t6 := s_j6 _ _ e_t6
    generalize upd G118 j6 (.lst [.ref t6]) = G119 at *
    clear s_j6 h_j6
    refine ⟨k6, j6, _, _, rfl, rfl, e_k6, e_j6, (by show 2 + 1 ≤ sizeLine; decide), fun i6 h_i6 => ?_⟩
    have n_i6 : i6 ≠ u := ne_urn hu h_i6
    have s_i6 := same_upd (o := .lst ([v0, v1] ++ [.ref t6])) h_i6
    have e_i6 : upd G119 i6 (.lst ([v0, v1] ++ [.ref t6])) i6 = some (.lst [v0, v1, .ref t6]) := upd_same
    replace bag := bag.same s_i6
    replace hu := hu.same s_i6
    replace eF := s_i6 _ _ eF
    replace w0 := w0.same s_i6
    replace w1 := w1.same s_i6
    replace w2 := w2.same s_i6
    replace w3 := w3.same s_i6
    replace har := s_i6 _ _ har
    replace e_l1 := s_i6 _ _ e_l1
    replace e_l2 := s_i6 _ _ e_l2
    replace e_t3 := s_i6 _ _ e_t3
    replace e_l3 := s_i6 _ _ e_l3
    replace e_t4 := s_i6 _ _ e_t4
    replace e_l4 := s_i6 _ _ e_l4
    replace e_t5 := s_i6 _ _ e_t5
    replace e_l5 := s_i6 _ _ e_l5
    replace e_b1 := s_i6 _ _ e_b1
    replace e_k6 := s_i6 _ _ e_k6
    replace e_t6 := s_i6 _ _ e_t6
    replace e_j6 := s_i6 _ _ e_j6
    generalize upd G119 i6 (.lst ([v0, v1] ++ [.ref t6])) = G120 at *
    clear s_i6 h_i6
    refine ⟨F, _, rfl, sl_of eF, fun g6 h_g6 => ?_⟩
    rw [ec1]
    have n_g6 : g6 ≠ u := ne_urn hu h_g6
    have s_g6 := same_upd (o := .lst [v0]) h_g6
    have e_g6 : upd G120 g6 (.lst [v0]) g6 = some (.lst [v0]) := upd_same
    replace bag := bag.same s_g6
    replace hu := hu.same s_g6
    replace eF := s_g6 _ _ eF
    replace w0 := w0.same s_g6
    replace w1 := w1.same s_g6
    replace w2 := w2.same s_g6
    replace w3 := w3.same s_g6
    replace har := s_g6 _ _ har
    replace e_l1 := s_g6 _ _ e_l1
    replace e_l2 := s_g6 _ _ e_l2
    replace e_t3 := s_g6 _ _ e_t3
    replace e_l3 := s_g6 _ _ e_l3
    replace e_t4 := s_g6 _ _ e_t4
    replace e_l4 := s_g6 _ _ e_l4
    replace e_t5 := s_g6 _ _ e_t5
    replace e_l5 := s_g6 _ _ e_l5
    replace e_b1 := s_g6 _ _ e_b1
    replace e_k6 := s_g6 _ _ e_k6
    replace e_t6 := s_g6 _ _ e_t6
    replace e_j6 := s_g6 _ _ e_j6
    replace e_i6 := s_g6 _ _ e_i6
    generalize upd G120 g6 (.lst [v0]) = G121 at *
    clear s_g6 h_g6
    refine ⟨i6, g6, _, _, rfl, rfl, e_i6, e_g6, (by show 3 + 1 ≤ sizeLine; decide), fun l6 h_l6 => ?_⟩
    have n_l6 : l6 ≠ u := ne_urn hu h_l6
    have s_l6 := same_upd (o := .lst ([v0, v1, .ref t6] ++ [v0])) h_l6
    have e_l6 : upd G121 l6 (.lst ([v0, v1, .ref t6] ++ [v0])) l6 = some (.lst [v0, v1, .ref t6, v0]) := upd_same
    replace bag := bag.same s_l6
    replace hu := hu.same s_l6
    replace eF := s_l6 _ _ eF
    replace w0 := w0.same s_l6
    replace w1 := w1.same s_l6
    replace w2 := w2.same s_l6
    replace w3 := w3.same s_l6
    replace har := s_l6 _ _ har
    replace e_l1 := s_l6 _ _ e_l1
    replace e_l2 := s_l6 _ _ e_l2
    replace e_t3 := s_l6 _ _ e_t3
    replace e_l3 := s_l6 _ _ e_l3
    replace e_t4 := s_l6 _ _ e_t4
    replace e_l4 := s_l6 _ _ e_l4
    replace e_t5 := s_l6 _ _ e_t5
    replace e_l5 := s_l6 _ _ e_l5
    replace e_b1 := s_l6 _ _ e_b1
    replace e_k6 := s_l6 _ _ e_k6
    replace e_t6 := s_l6 _ _ e_t6
    replace e_j6 := s_l6 _ _ e_j6
    replace e_i6 := s_l6 _ _ e_i6
    replace e_g6 := s_l6 _ _ e_g6
    generalize upd G121 l6 (.lst ([v0, v1, .ref t6] ++ [v0])) = G122 at *
    clear s_l6 h_l6
    refine ixL (sl_of eF) rfl ?_
    refine ixL (sl_of eF) rfl ?_
    refine ixL (sl_of eF) rfl ?_
    refine ⟨by decide, fun l9 h_l9 => ?_⟩
    have n_l9 : l9 ≠ u := ne_urn hu h_l9
    have s_l9 := same_upd (o := .lst [v0, v1, v2, .int 0]) h_l9
    have e_l9 : upd G122 l9 (.lst [v0, v1, v2, .int 0]) l9 = some (.lst [v0, v1, v2, .int 0]) := upd_same
    replace bag := bag.same s_l9
    replace hu := hu.same s_l9
    replace eF := s_l9 _ _ eF
    replace w0 := w0.same s_l9
    replace w1 := w1.same s_l9
    replace w2 := w2.same s_l9
    replace w3 := w3.same s_l9
    replace har := s_l9 _ _ har
    replace e_l1 := s_l9 _ _ e_l1
    replace e_l2 := s_l9 _ _ e_l2
    replace e_t3 := s_l9 _ _ e_t3
    replace e_l3 := s_l9 _ _ e_l3
    replace e_t4 := s_l9 _ _ e_t4
    replace e_l4 := s_l9 _ _ e_l4
    replace e_t5 := s_l9 _ _ e_t5
    replace e_l5 := s_l9 _ _ e_l5
    replace e_b1 := s_l9 _ _ e_b1
    replace e_k6 := s_l9 _ _ e_k6
    replace e_t6 := s_l9 _ _ e_t6
    replace e_j6 := s_l9 _ _ e_j6
    replace e_i6 := s_l9 _ _ e_i6
    replace e_g6 := s_l9 _ _ e_g6
    replace e_l6 := s_l9 _ _ e_l6
    generalize upd G122 l9 (.lst [v0, v1, v2, .int 0]) = G123 at *
    clear s_l9 h_l9
    refine ⟨by decide, fun t10 h_t10 => ?_⟩
    have n_t10 : t10 ≠ u := ne_urn hu h_t10
    have s_t10 := same_upd (o := .tup [.int 0, .int 0, .int 0]) h_t10
    have e_t10 : upd G123 t10 (.tup [.int 0, .int 0, .int 0]) t10 = some (.tup [.int 0, .int 0, .int 0]) := upd_same
    replace bag := bag.same s_t10
    replace hu := hu.same s_t10
    replace eF := s_t10 _ _ eF
    replace w0 := w0.same s_t10
    replace w1 := w1.same s_t10
    replace w2 := w2.same s_t10
    replace w3 := w3.same s_t10
    replace har := s_t10 _ _ har
    replace e_l1 := s_t10 _ _ e_l1
    replace e_l2 := s_t10 _ _ e_l2
    replace e_t3 := s_t10 _ _ e_t3
    replace e_l3 := s_t10 _ _ e_l3
    replace e_t4 := s_t10 _ _ e_t4
    replace e_l4 := s_t10 _ _ e_l4
    replace e_t5 := s_t10 _ _ e_t5
    replace e_l5 := s_t10 _ _ e_l5
    replace e_b1 := s_t10 _ _ e_b1
    replace e_k6 := s_t10 _ _ e_k6
    replace e_t6 := s_t10 _ _ e_t6
    replace e_j6 := s_t10 _ _ e_j6
    replace e_i6 := s_t10 _ _ e_i6
    replace e_g6 := s_t10 _ _ e_g6
    replace e_l6 := s_t10 _ _ e_l6
    replace e_l9 := s_t10 _ _ e_l9
    generalize upd G123 t10 (.tup [.int 0, .int 0, .int 0]) = G124 at *
    clear s_t10 h_t10
    refine ⟨by decide, fun j10 h_j10 => ?_⟩
    have n_j10 : j10 ≠ u := ne_urn hu h_j10
    have s_j10 := same_upd (o := .lst [.ref t10]) h_j10
    have e_j10 : upd G124 j10 (.lst [.ref t10]) j10 = some (.lst [.ref t10]) := upd_same
    replace bag := bag.same s_j10
    replace hu := hu.same s_j10
    replace eF := s_j10 _ _ eF
    replace w0 := w0.same s_j10
    replace w1 := w1.same s_j10
    replace w2 := w2.same s_j10
    replace w3 := w3.same s_j10
    replace har := s_j10 _ _ har
    replace e_l1 := s_j10 _ _ e_l1
    replace e_l2 := s_j10 _ _ e_l2
    replace e_t3 := s_j10 _ _ e_t3
    replace e_l3 := s_j10 _ _ e_l3
    replace e_t4 := s_j10 _ _ e_t4
    replace e_l4 := s_j10 _ _ e_l4
    replace e_t5 := s_j10 _ _ e_t5
    replace e_l5 := s_j10 _ _ e_l5
    replace e_b1 := s_j10 _ _ e_b1
    replace e_k6 := s_j10 _ _ e_k6
    replace e_t6 := s_j10 _ _ e_t6
    replace e_j6 := s_j10 _ _ e_j6
    replace e_i6 := s_j10 _ _ e_i6
    replace e_g6 := s_j10 _ _ e_g6
    replace e_l6 := s_j10 _ _ e_l6
    replace e_l9 := s_j10 _ _ e_l9
    replace e_t10 := s_j10 _ _ e_t10
    generalize upd G124 j10 (.lst [.ref t10]) = G125 at *
    clear s_j10 h_j10
    refine ⟨F, _, rfl, sl_of eF, fun k10 h_k10 => ?_⟩
    rw [et1]
    have n_k10 : k10 ≠ u := ne_urn hu h_k10
    have s_k10 := same_upd (o := .lst [v1, v2, x0]) h_k10
    have e_k10 : upd G125 k10 (.lst [v1, v2, x0]) k10 = some (.lst [v1, v2, x0]) := upd_same
    replace bag := bag.same s_k10
    replace hu := hu.same s_k10
    replace eF := s_k10 _ _ eF
    replace w0 := w0.same s_k10
    replace w1 := w1.same s_k10
    replace w2 := w2.same s_k10
    replace w3 := w3.same s_k10
    replace har := s_k10 _ _ har
    replace e_l1 := s_k10 _ _ e_l1
    replace e_l2 := s_k10 _ _ e_l2
    replace e_t3 := s_k10 _ _ e_t3
    replace e_l3 := s_k10 _ _ e_l3
    replace e_t4 := s_k10 _ _ e_t4
    replace e_l4 := s_k10 _ _ e_l4
    replace e_t5 := s_k10 _ _ e_t5
    replace e_l5 := s_k10 _ _ e_l5
    replace e_b1 := s_k10 _ _ e_b1
    replace e_k6 := s_k10 _ _ e_k6
    replace e_t6 := s_k10 _ _ e_t6
    replace e_j6 := s_k10 _ _ e_j6
    replace e_i6 := s_k10 _ _ e_i6
    replace e_g6 := s_k10 _ _ e_g6
    replace e_l6 := s_k10 _ _ e_l6
    replace e_l9 := s_k10 _ _ e_l9
    replace e_t10 := s_k10 _ _ e_t10
    replace e_j10 := s_k10 _ _ e_j10
    generalize upd G125 k10 (.lst [v1, v2, x0]) = G126 at *
    clear s_k10 h_k10
    refine ⟨j10, k10, _, _, rfl, rfl, e_j10, e_k10, (by show 1 + 3 ≤ sizeLine; decide), fun l10 h_l10 => ?_⟩
    have n_l10 : l10 ≠ u := ne_urn hu h_l10
    have s_l10 := same_upd (o := .lst ([.ref t10] ++ [v1, v2, x0])) h_l10
    have e_l10 : upd G126 l10 (.lst ([.ref t10] ++ [v1, v2, x0])) l10 = some (.lst [.ref t10, v1, v2, x0]) := upd_same
    replace bag := bag.same s_l10
    replace hu := hu.same s_l10
    replace eF := s_l10 _ _ eF
    replace w0 := w0.same s_l10
    replace w1 := w1.same s_l10
    replace w2 := w2.same s_l10
    replace w3 := w3.same s_l10
    replace har := s_l10 _ _ har
    replace e_l1 := s_l10 _ _ e_l1
    replace e_l2 := s_l10 _ _ e_l2
    replace e_t3 := s_l10 _ _ e_t3
    replace e_l3 := s_l10 _ _ e_l3
    replace e_t4 := s_l10 _ _ e_t4
    replace e_l4 := s_l10 _ _ e_l4
    replace e_t5 := s_l10 _ _ e_t5
    replace e_l5 := s_l10 _ _ e_l5
    replace e_b1 := s_l10 _ _ e_b1
    replace e_k6 := s_l10 _ _ e_k6
    replace e_t6 := s_l10 _ _ e_t6
    replace e_j6 := s_l10 _ _ e_j6
    replace e_i6 := s_l10 _ _ e_i6
    replace e_g6 := s_l10 _ _ e_g6
    replace e_l6 := s_l10 _ _ e_l6
    replace e_l9 := s_l10 _ _ e_l9
    replace e_t10 := s_l10 _ _ e_t10
    replace e_j10 := s_l10 _ _ e_j10
    replace e_k10 := s_l10 _ _ e_k10
    generalize upd G126 l10 (.lst ([.ref t10] ++ [v1, v2, x0])) = G127 at *
    clear s_l10 h_l10
    refine ⟨by decide, fun b2 h_b2 => ?_⟩
    have n_b2 : b2 ≠ u := ne_urn hu h_b2
    have s_b2 := same_upd (o := .lst [.ref l6, .str (Str.ofString "four"), .non, .ref l9, .ref l10]) h_b2
    have e_b2 : upd G127 b2 (.lst [.ref l6, .str (Str.ofString "four"), .non, .ref l9, .ref l10]) b2 = some (.lst [.ref l6, .str (Str.ofString "four"), .non, .ref l9, .ref l10]) := upd_same
    replace bag := bag.same s_b2
    replace hu := hu.same s_b2
    replace eF := s_b2 _ _ eF
    replace w0 := w0.same s_b2
    replace w1 := w1.same s_b2
    replace w2 := w2.same s_b2
    replace w3 := w3.same s_b2
    replace har := s_b2 _ _ har
    replace e_l1 := s_b2 _ _ e_l1
    replace e_l2 := s_b2 _ _ e_l2
    replace e_t3 := s_b2 _ _ e_t3
    replace e_l3 := s_b2 _ _ e_l3
    replace e_t4 := s_b2 _ _ e_t4
    replace e_l4 := s_b2 _ _ e_l4
    replace e_t5 := s_b2 _ _ e_t5
    replace e_l5 := s_b2 _ _ e_l5
    replace e_b1 := s_b2 _ _ e_b1
    replace e_k6 := s_b2 _ _ e_k6
    replace e_t6 := s_b2 _ _ e_t6
    replace e_j6 := s_b2 _ _ e_j6
    replace e_i6 := s_b2 _ _ e_i6
    replace e_g6 := s_b2 _ _ e_g6
    replace e_l6 := s_b2 _ _ e_l6
    replace e_l9 := s_b2 _ _ e_l9
    replace e_t10 := s_b2 _ _ e_t10
    replace e_j10 := s_b2 _ _ e_j10
    replace e_k10 := s_b2 _ _ e_k10
    replace e_l10 := s_b2 _ _ e_l10
    generalize upd G127 b2 (.lst [.ref l6, .str (Str.ofString "four"), .non, .ref l9, .ref l10]) = G128 at *
    clear s_b2 h_b2
    refine ⟨b1, b2, _, _, rfl, rfl, e_b1, e_b2, (by show 5 + 5 ≤ sizeLine; decide), fun B h_B => ?_⟩
    have n_B : B ≠ u := ne_urn hu h_B
    have s_B := same_upd (o := .lst ([.ref l1, .ref l2, .ref l3, .ref l4, .ref l5] ++ [.ref l6, .str (Str.ofString "four"), .non, .ref l9, .ref l10])) h_B
    have e_B : upd G128 B (.lst ([.ref l1, .ref l2, .ref l3, .ref l4, .ref l5] ++ [.ref l6, .str (Str.ofString "four"), .non, .ref l9, .ref l10])) B = some (.lst [.ref l1, .ref l2, .ref l3, .ref l4, .ref l5, .ref l6, .str (Str.ofString "four"), .non, .ref l9, .ref l10]) := upd_same
    replace bag := bag.same s_B
    replace hu := hu.same s_B
    replace eF := s_B _ _ eF
    replace w0 := w0.same s_B
    replace w1 := w1.same s_B
    replace w2 := w2.same s_B
    replace w3 := w3.same s_B
    replace har := s_B _ _ har
    replace e_l1 := s_B _ _ e_l1
    replace e_l2 := s_B _ _ e_l2
    replace e_t3 := s_B _ _ e_t3
    replace e_l3 := s_B _ _ e_l3
    replace e_t4 := s_B _ _ e_t4
    replace e_l4 := s_B _ _ e_l4
    replace e_t5 := s_B _ _ e_t5
    replace e_l5 := s_B _ _ e_l5
    replace e_b1 := s_B _ _ e_b1
    replace e_k6 := s_B _ _ e_k6
    replace e_t6 := s_B _ _ e_t6
    replace e_j6 := s_B _ _ e_j6
    replace e_i6 := s_B _ _ e_i6
    replace e_g6 := s_B _ _ e_g6
    replace e_l6 := s_B _ _ e_l6
    replace e_l9 := s_B _ _ e_l9
    replace e_t10 := s_B _ _ e_t10
    replace e_j10 := s_B _ _ e_j10
    replace e_k10 := s_B _ _ e_k10
    replace e_l10 := s_B _ _ e_l10
    replace e_b2 := s_B _ _ e_b2
    generalize upd G128 B (.lst ([.ref l1, .ref l2, .ref l3, .ref l4, .ref l5] ++ [.ref l6, .str (Str.ofString "four"), .non, .ref l9, .ref l10])) = G129 at *
    clear s_B h_B
    clear n_k6 e_k6
    clear n_j6 e_j6
    clear n_i6 e_i6
    clear n_g6 e_g6
    clear n_j10 e_j10
    clear n_k10 e_k10
    obtain ⟨p0, hp0, lp0⟩ : ∃ ps, (scRows un rows)[0]? = some ps ∧ ps.length = r0.length := ⟨r0.map (scP un), by unfold scRows; rw [List.getElem?_map, hr0]; rfl, List.length_map _⟩
    have lsc : (scRows un rows).length = rows.length := List.length_map _
    have y0 : At1 K (scRows un rows) G129 v0 (some (s0.m, s0.n)) := ⟨w0, i0.atP⟩
    have y1 : At1 K (scRows un rows) G129 v1 (some (s1.m, s1.n)) := ⟨w1, i1.atP⟩
    have y2 : At1 K (scRows un rows) G129 v2 (some (s2.m, s2.n)) := ⟨w2, i2.atP⟩
    have y3 : At1 K (scRows un rows) G129 x0 (some (s0.m, s0.n)) := ⟨w3, i0.atP⟩
    have z3 : At1 K (scRows un rows) G129 (.ref t3) none := .inr ⟨t3, _, rfl, st_of e_t3, fun H' b h => .side (m := 0) (.inr h) hp0 (by omega)⟩
    have z4 : At1 K (scRows un rows) G129 (.ref t4) none := .inr ⟨t4, _, rfl, st_of e_t4, fun H' b h => .fence (.inr h) (by omega)⟩
    have z5 : At1 K (scRows un rows) G129 (.ref t5) none := .inr ⟨t5, _, rfl, st_of e_t5, fun H' b h => .side (m := 0) (.inr h) hp0 (by omega)⟩
    have z6 : At1 K (scRows un rows) G129 (.ref t6) none := .inr ⟨t6, _, rfl, st_of e_t6, fun H' b h => .sideK (m := 0) (.inr h) hp0 (.bl true) (by decide)⟩
    have z10 : At1 K (scRows un rows) G129 (.ref t10) none := .inr ⟨t10, _, rfl, st_of e_t10, fun H' b h => .len (.inr h) (by decide)⟩
    have z9 : At1 K (scRows un rows) G129 (.int 0) none := .inl ⟨0, rfl⟩
    have all : ∀ v ∈ ([.ref l1, .ref l2, .ref l3, .ref l4, .ref l5] ++ [.ref l6, .str (Str.ofString "four"), .non, .ref l9, .ref l10] : List V), BadF K (scRows un rows) u G129 v := by
      intro v hv
      simp only [List.cons_append, List.nil_append, List.mem_cons, List.not_mem_nil, or_false] at hv
      rcases hv with rfl | rfl | rfl | rfl | rfl | rfl | rfl | rfl | rfl | rfl
      · exact .len n_l1 e_l1 (show (3 : Nat) ≠ 4 by decide)
      · exact .len n_l2 e_l2 (show (5 : Nat) ≠ 4 by decide)
      · exact .at n_l3 e_l3 rfl (each4_mk y0 y1 y2 z3) (by simp)
      · exact .at n_l4 e_l4 rfl (each4_mk z4 y1 y2 y3) (by simp)
      · exact .at n_l5 e_l5 rfl (each4_mk y0 y1 y2 z5) (by simp)
      · exact .at n_l6 e_l6 rfl (each4_mk y0 y1 z6 y0) (by simp)
      · exact .str
      · exact .non
      · exact .at n_l9 e_l9 rfl (each4_mk y0 y1 y2 z9) (by simp)
      · exact .at n_l10 e_l10 rfl (each4_mk z10 y1 y2 y3) (by simp)
    subst hN
    exact rest_ok bag hu geo un0 un7 i0 i1 i2 eF nF w0 w1 w2 w3 e_B n_B (show 0 < 10 by decide) (show 10 < 1073741824 by decide) all nx
end
end Odd
namespace Odd
open PySem PySem.Spec PyProof.Rows L2
local macro_rules | `(tactic| walk_at "vc") => `(tactic| simp only [tSeq, tAsg, gName, tCB, tCons, tNil, tVar, tC, tOp, tUn, rI0, rI, rU, tTup, tLst, tIfS, tTest, tB, tRet, tNext, rGcd, L2.start, List.map, List.set, List.replicate, List.cons_append, List.nil_append, List.length_cons, List.length_nil, List.getElem?_cons_succ, List.getElem?_cons_zero, Option.some.injEq, exists_eq_left', exists_eq_left, List.append_nil, List.cons.injEq, V.int.injEq, exists_and_left, and_true, true_and, and_assoc, exists_const, V.bl.injEq, V.ref.injEq, Nat.sub_self, Nat.reduceAdd, Nat.reduceSub, List.replicate_succ, List.replicate_zero, tAnd, tOr, tNot, tAndV, tOrV, tNotV, tIf, tCall, tCallK, tDrop, rEq, rNe, decide_eq_true_eq, Bool.not_eq_true', decide_eq_false_iff_not, Bool.false_eq_true, if_true, if_false, reduceIte, reduceCtorEq, tMkLow, tRaiseLow, rIsB, rNotB, tBreak, tPar, gSub, rSetL, tChain, gTup, gCons, gNil, gSeq, cx_K, cx_Kn, optV, V.str.injEq, Bool.not_true, Bool.not_false, false_and, and_false, or_false, false_or, exists_false, tCallN, tCallS, tPairs])
section
variable {w : World} {K : PySem.W.Frag} {mg : Str → Option Value} {base : Heap} {A : Ads}
def spLaw (K : PySem.W.Frag) : Sp := fun vs H Q _ => ∃ (a : Addr) (ns : List Int), vs = [.ref a] ∧ SqL K H a (ns.map V.int) ∧ ns.length ≤ 63 ∧ ∀ H', Q (.bl true) H'
theorem ok_law (T : Txt K mg A) : FnOk PG w K mg base CX0 13 A.f_law A.d_law ["script"] (spLaw K) := by
  refine T.law.F.ok sc_law (fun vs H Q E h => ?_) (fun cdv A' outer s H vs Q E hr h => ?_)
  · obtain ⟨_, _, rfl, _⟩ := h; rfl
  · obtain ⟨a, ns, rfl, hS, hl, ret⟩ := h
    refine ⟨_, (pss_cons (ps_set (i := 3) sc_law.nd rfl (.inr rfl) (pe_call (ok__law_store T) (hr.mono (by decide)) (by rfl) T._law_store.g T._law_store.F.kp T._law_store.b .nil pass0 (pa_cons (pv 0) pa_nil)))
      (pss_cons (ps_for PassesOwn.never rfl (pi_range1 rfl T.n_range (pa_cons pe_int pa_nil)) (pg_name (i := 4) sc_law.nd rfl (.inl rfl)) (pss_cons (ps_asg (pe_tup (pa_cons (pe_call (ok__law_rows T) (hr.mono (by decide)) (by rfl) T._law_rows.g T._law_rows.F.kp T._law_rows.b .nil pass0 (pa_cons (pv 3) pa_nil)) (pa_cons (pe_call (ok__law_ratio T) (hr.mono (by decide)) (by rfl) T._law_ratio.g T._law_ratio.F.kp T._law_ratio.b .nil pass0 (pa_cons (pv 3) pa_nil)) (pa_cons (pe_call (ok__law_pick T) (hr.mono (by decide)) (by rfl) T._law_pick.g T._law_pick.F.kp T._law_pick.b .nil pass0 (pa_cons (pv 3) (pa_cons (pe_lst (pa_cons pe_int (pa_cons pe_int (pa_cons pe_int (pa_cons pe_int (pa_cons pe_int pa_nil)))))) pa_nil))) pa_nil)))) (pg_tup rfl (pgs_cons (pg_name (i := 5) sc_law.nd rfl (.inr rfl)) (pgs_cons (pg_name (i := 6) sc_law.nd rfl (.inl rfl)) (pgs_cons (pg_name (i := 7) sc_law.nd rfl (.inl rfl)) pgs_nil)))))
      (pss_cons (ps_par (i := 8) (j := 9) rfl sc_law.nd rfl rfl (by decide) rfl rfl (pa_cons (pe_call (ok__law_lot T) (hr.mono (by decide)) (by rfl) T._law_lot.g T._law_lot.F.kp T._law_lot.b .nil pass0 (pa_cons (pv 5) (pa_cons (pv 7) pa_nil))) (pa_cons (pe_call (ok__law_lot T) (hr.mono (by decide)) (by rfl) T._law_lot.g T._law_lot.F.kp T._law_lot.b .nil pass0 (pa_cons (pe_call (ok__law_mirrored T) (hr.mono (by decide)) (by rfl) T._law_mirrored.g T._law_mirrored.F.kp T._law_mirrored.b .nil pass0 (pa_cons (pv 5) pa_nil)) (pa_cons (pv 7) pa_nil))) pa_nil)) rfl)
      (pss_cons (ps_set (i := 10) sc_law.nd rfl (.inr rfl) (pe_call (ok__law_sides T) (hr.mono (by decide)) (by rfl) T._law_sides.g T._law_sides.F.kp T._law_sides.b .nil pass0 (pa_cons (pv 5) pa_nil)))
      (pss_cons (ps_for PassesOwn.never rfl (pi_range1 rfl T.n_range (pa_cons pe_int pa_nil)) (pg_name (i := 11) sc_law.nd rfl (.inl rfl)) (pss_cons (ps_setLc (i := 12) (own := [("k", 1)]) (g := gName 1) (tt := tYes) rfl sc_law.nd rfl rfl (sw_true rfl rfl rfl (by decide +kernel)) (pi_range1 (by rfl) T.n_range (pa_cons pe_int pa_nil)) (blkOk_by (N := ["script", "k", "side", "store", "turn", "rows", "ratio", "under", "lot", "other", "sides", "each", "drawn", "four", "sign_v", "due", "told", "turned", "back", "bad", "wrong"]) (sc := defScope s_law) (by decide +kernel)) (fun _ _ _ _ _ => pg_name (i := 1) sc_law.nd rfl (Or.inl rfl)) (fun _ _ _ _ _ => pts_nil) (fun _ _ _ _ _ => (pe_call (ok__law_pick T) (hr.mono (by decide)) (by rfl) T._law_pick.g T._law_pick.F.kp T._law_pick.b .nil pass0 (pa_cons (pv 3) (pa_cons (pv 10) pa_nil)))))
      (pss_cons (ps_if (pt_cmpR op_eq (pe_call (ok__law_draw T) (hr.mono (by decide)) (by rfl) T._law_draw.g T._law_draw.F.kp T._law_draw.b .nil pass0 (pa_cons (pv 3) (pa_cons pe_int pa_nil))) pe_int (nomark _)) (pss_one (ps_asg (pe_ix ix_list (pv 12) (pe_call (ok__law_draw T) (hr.mono (by decide)) (by rfl) T._law_draw.g T._law_draw.F.kp T._law_draw.b .nil pass0 (pa_cons (pv 3) (pa_cons pe_int pa_nil))) (fun _ _ => rfl)) (pg_sub (pv 12) (pe_call (ok__law_draw T) (hr.mono (by decide)) (by rfl) T._law_draw.g T._law_draw.F.kp T._law_draw.b .nil pass0 (pa_cons (pv 3) (pa_cons pe_int pa_nil))) set_list))) pss_nil)
      (pss_cons (ps_set (i := 13) sc_law.nd rfl (.inr rfl) (pe_lc (own := [("side", 2)]) (g := gName 2) (tt := tYes) rfl sc_law.nd (pi_list (pv 12)) (blkOk_by (N := ["script", "k", "side", "store", "turn", "rows", "ratio", "under", "lot", "other", "sides", "each", "drawn", "four", "sign_v", "due", "told", "turned", "back", "bad", "wrong"]) (sc := defScope s_law) (by decide +kernel)) (fun _ _ _ _ _ => pg_name (i := 2) sc_law.nd rfl (Or.inl rfl)) (fun _ _ _ _ _ => pts_nil) (fun _ _ _ _ _ => (pe_ix (OZ.ix_tupK (K := K) rfl) (pv 2) pe_int (fun _ _ => rfl)))) (sw_cell rfl rfl))
      (pss_cons (ps_set (i := 14) sc_law.nd rfl (.inl rfl) (pe_call (ok__law_sign T) (hr.mono (by decide)) (by rfl) T._law_sign.g T._law_sign.F.kp T._law_sign.b .nil pass0 (pa_cons (pe_lc (own := [("side", 2)]) (g := gName 2) (tt := tYes) rfl sc_law.nd (pi_list (pv 12)) (blkOk_by (N := ["script", "k", "side", "store", "turn", "rows", "ratio", "under", "lot", "other", "sides", "each", "drawn", "four", "sign_v", "due", "told", "turned", "back", "bad", "wrong"]) (sc := defScope s_law) (by decide +kernel)) (fun _ _ _ _ _ => pg_name (i := 2) sc_law.nd rfl (Or.inl rfl)) (fun _ _ _ _ _ => pts_nil) (fun _ _ _ _ _ => (pe_ix (OZ.ix_tupK (K := K) rfl) (pv 2) pe_int (fun _ _ => rfl)))) (pa_cons (pv 6) pa_nil))))
      (pss_cons (ps_set (i := 15) sc_law.nd rfl (.inl rfl) (pe_call (ok__law_low T) (hr.mono (by decide)) (by rfl) T._law_low.g T._law_low.F.kp T._law_low.b .nil pass0 (pa_cons (pv 14) (pa_cons (pe_op op_mul (pe_op op_pow (pe_ix ix_tup (pv 6) pe_int (fun _ _ => rfl)) pe_int) (pe_op op_pow (pv 7) pe_int)) pa_nil))))
      (pss_cons (ps_set (i := 16) sc_law.nd rfl (.inl rfl) (pe_call (ok_determinant T) (hr.mono (by decide)) (by rfl) T.determinant.g T.determinant.F.kp T.determinant.b .nil passL (pa_cons (pv 8) (pa_cons (pv 13) (pa_cons (pe_ifExp (pt_cmpR op_gt (pe_ix ix_tup (pv 6) pe_int (fun _ _ => rfl)) pe_int (nomark _)) (pv 6) (pe_ix ix_tup (pv 6) pe_int (fun _ _ => rfl))) pa_nil)))))
      (pss_cons (ps_if (PW.pt (pw_or (pt_not (pt_val (pe_call (ok__law_is_number T) (hr.mono (by decide)) (by rfl) T._law_is_number.g T._law_is_number.F.kp T._law_is_number.b .nil pass0 (pa_cons (pv 16) pa_nil)))) (pw_or (pt_cmpR (op_neD hr.units) (pv 16) (pv 15) (nomark _)) (pw_or1 (pt_cmpR (op_neD hr.units) (pv 13) (pe_lc (own := [("side", 2)]) (g := gName 2) (tt := tYes) rfl sc_law.nd (pi_list (pv 12)) (blkOk_by (N := ["script", "k", "side", "store", "turn", "rows", "ratio", "under", "lot", "other", "sides", "each", "drawn", "four", "sign_v", "due", "told", "turned", "back", "bad", "wrong"]) (sc := defScope s_law) (by decide +kernel)) (fun _ _ _ _ _ => pg_name (i := 2) sc_law.nd rfl (Or.inl rfl)) (fun _ _ _ _ _ => pts_nil) (fun _ _ _ _ _ => (pe_ix (OZ.ix_tupK (K := K) rfl) (pv 2) pe_int (fun _ _ => rfl)))) (nomark _)))))) (pss_one (ps_ret pe_bl)) pss_nil)
      (pss_cons (ps_if (pt_cmpR (op_neD hr.units) (pe_call (ok_determinant T) (hr.mono (by decide)) (by rfl) T.determinant.g T.determinant.F.kp T.determinant.b .nil passL (pa_cons (pv 8) (pa_cons (pe_tup (pa_cons (pe_ix ix_list (pv 13) pe_int (fun _ _ => rfl)) (pa_cons (pe_ix ix_list (pv 13) pe_int (fun _ _ => rfl)) (pa_cons (pe_ix ix_list (pv 13) pe_int (fun _ _ => rfl)) (pa_cons (pe_ix ix_list (pv 13) pe_int (fun _ _ => rfl)) pa_nil))))) (pa_cons (pv 6) pa_nil)))) (pv 15) (nomark _)) (pss_one (ps_ret pe_bl)) pss_nil)
      (pss_cons (ps_set (i := 17) sc_law.nd rfl (.inl rfl) (pe_call (ok_determinant T) (hr.mono (by decide)) (by rfl) T.determinant.g T.determinant.F.kp T.determinant.b .nil passL (pa_cons (pv 8) (pa_cons (pe_lst (pa_cons (pe_callTy call_list_of (by rfl) T.n_list bt_list (pa_cons (pe_ix ix_list (pv 13) pe_int (fun _ _ => rfl)) pa_nil)) (pa_cons (pe_ix ix_list (pv 13) pe_int (fun _ _ => rfl)) (pa_cons (pe_ix ix_list (pv 13) pe_int (fun _ _ => rfl)) (pa_cons (pe_ix ix_list (pv 13) pe_int (fun _ _ => rfl)) pa_nil))))) (pa_cons (pe_tup (pa_cons (pe_ix ix_tup (pv 6) pe_int (fun _ _ => rfl)) (pa_cons (pe_ix ix_tup (pv 6) pe_int (fun _ _ => rfl)) pa_nil))) pa_nil)))))
      (pss_cons (ps_if (pt_cmpR (op_neD hr.units) (pv 17) (pe_call (ok__law_low T) (hr.mono (by decide)) (by rfl) T._law_low.g T._law_low.F.kp T._law_low.b .nil pass0 (pa_cons (pe_un un_neg (pv 14)) (pa_cons (pe_op op_mul (pe_op op_pow (pe_ix ix_tup (pv 6) pe_int (fun _ _ => rfl)) pe_int) (pe_op op_pow (pv 7) pe_int)) pa_nil))) (nomark _)) (pss_one (ps_ret pe_bl)) pss_nil)
      (pss_cons (ps_setLc (i := 18) (own := [("k", 1)]) (g := gName 1) (tt := tYes) rfl sc_law.nd rfl rfl (sw_true rfl rfl rfl (by decide +kernel)) (pi_tup (pe_tup (pa_cons pe_int (pa_cons pe_int (pa_cons pe_int (pa_cons pe_int pa_nil)))))) (blkOk_by (N := ["script", "k", "side", "store", "turn", "rows", "ratio", "under", "lot", "other", "sides", "each", "drawn", "four", "sign_v", "due", "told", "turned", "back", "bad", "wrong"]) (sc := defScope s_law) (by decide +kernel)) (fun _ _ _ _ _ => pg_name (i := 1) sc_law.nd rfl (Or.inl rfl)) (fun _ _ _ _ _ => pts_nil) (fun _ _ _ _ _ => (pe_call (ok__law_mirror_side T) (hr.mono (by decide)) (by rfl) T._law_mirror_side.g T._law_mirror_side.F.kp T._law_mirror_side.b .nil pass0 (pa_cons (pv 5) (pa_cons (pe_ix (OZ.ix_listK (K := K) rfl) (pv 13) (pv 1) (fun _ _ => rfl)) pa_nil)))))
      (pss_one (ps_if (pt_cmpR (op_neD hr.units) (pe_callN0 (ok_determinant T) (hr.mono (by decide)) (by rfl) T.determinant.g T.determinant.F.kp (kb_determinant T) passL (pk_cons (pv 9) (pk_cons (pv 18) (pk_cons (pv 6) pk_nil)))) (pv 15) (nomark _)) (pss_one (ps_ret pe_bl)) pss_nil))))))))))))))
      (pss_cons (ps_set (i := 13) sc_law.nd rfl (.inr rfl) (pe_op op_cat (pe_lc (own := [("side", 2)]) (g := gName 2) (tt := tYes) rfl sc_law.nd (pi_list (pe_slice sl_list (pv 10) po_none (po_some pe_int))) (blkOk_by (N := ["script", "k", "side", "store", "turn", "rows", "ratio", "under", "lot", "other", "sides", "each", "drawn", "four", "sign_v", "due", "told", "turned", "back", "bad", "wrong"]) (sc := defScope s_law) (by decide +kernel)) (fun _ _ _ _ _ => pg_name (i := 2) sc_law.nd rfl (Or.inl rfl)) (fun _ _ _ _ _ => pts_nil) (fun _ _ _ _ _ => (pe_ix (OZ.ix_tupK (K := K) rfl) (pv 2) pe_int (fun _ _ => rfl)))) (pe_lst (pa_cons (pe_ix ix_tup (pe_ix ix_list (pv 10) pe_int (fun _ _ => rfl)) pe_int (fun _ _ => rfl)) pa_nil))))
      (pss_cons (ps_set (i := 19) sc_law.nd rfl (.inl rfl) (pe_lst (pa_cons (pe_slice sl_list (pv 13) po_none (po_some pe_int)) (pa_cons (pe_op op_cat (pv 13) (pe_lst (pa_cons (pe_ix ix_list (pv 13) pe_int (fun _ _ => rfl)) pa_nil))) (pa_cons (pe_op op_cat (pe_slice sl_list (pv 13) po_none (po_some pe_int)) (pe_lst (pa_cons (pe_tup (pa_cons pe_int (pa_cons (pe_callB call_len_seq (by rfl) T.n_len bt_len (pa_cons (pe_ix ix_list (pv 5) pe_int (fun _ _ => rfl)) pa_nil)) pa_nil))) pa_nil))) (pa_cons (pe_op op_cat (pe_lst (pa_cons (pe_tup (pa_cons (pe_callB call_len_seq (by rfl) T.n_len bt_len (pa_cons (pv 5) pa_nil)) (pa_cons pe_int pa_nil))) pa_nil)) (pe_slice sl_list (pv 13) (po_some pe_int) po_none)) (pa_cons (pe_op op_cat (pe_slice sl_list (pv 13) po_none (po_some pe_int)) (pe_lst (pa_cons (pe_tup (pa_cons pe_int (pa_cons (pe_un un_neg pe_int) pa_nil))) pa_nil))) pa_nil)))))))
      (pss_cons (ps_set (i := 19) sc_law.nd rfl (.inl rfl) (pe_op op_cat (pv 19) (pe_lst (pa_cons (pe_op op_cat (pe_op op_cat (pe_slice sl_list (pv 13) po_none (po_some pe_int)) (pe_lst (pa_cons (pe_tup (pa_cons pe_int (pa_cons pe_bl pa_nil))) pa_nil))) (pe_slice sl_list (pv 13) po_none (po_some pe_int))) (pa_cons pe_str (pa_cons pe_non (pa_cons (pe_lst (pa_cons (pe_ix ix_list (pv 13) pe_int (fun _ _ => rfl)) (pa_cons (pe_ix ix_list (pv 13) pe_int (fun _ _ => rfl)) (pa_cons (pe_ix ix_list (pv 13) pe_int (fun _ _ => rfl)) (pa_cons pe_int pa_nil))))) (pa_cons (pe_op op_cat (pe_lst (pa_cons (pe_tup (pa_cons pe_int (pa_cons pe_int (pa_cons pe_int pa_nil)))) pa_nil)) (pe_slice sl_list (pv 13) (po_some pe_int) po_none)) pa_nil))))))))
      (pss_cons (ps_if (pt_cmpR (op_neD hr.units) (pe_call (ok__law_refused T) (hr.mono (by decide)) (by rfl) T._law_refused.g T._law_refused.F.kp T._law_refused.b .nil pass0 (pa_cons (pv 8) (pa_cons (pe_call (ok__law_pick T) (hr.mono (by decide)) (by rfl) T._law_pick.g T._law_pick.F.kp T._law_pick.b .nil pass0 (pa_cons (pv 3) (pa_cons (pv 19) pa_nil))) (pa_cons (pv 6) pa_nil)))) (pe_tup (pa_cons pe_str (pa_cons pe_str pa_nil))) (nomark _)) (pss_one (ps_ret pe_bl)) pss_nil)
      (pss_cons (ps_if (pt_cmpR (op_neD hr.units) (pe_call (ok__law_refused T) (hr.mono (by decide)) (by rfl) T._law_refused.g T._law_refused.F.kp T._law_refused.b .nil pass0 (pa_cons (pv 8) (pa_cons (pe_call (ok__law_pick T) (hr.mono (by decide)) (by rfl) T._law_pick.g T._law_pick.F.kp T._law_pick.b .nil pass0 (pa_cons (pv 3) (pa_cons (pv 19) pa_nil))) (pa_cons pe_int pa_nil)))) (pe_tup (pa_cons pe_str (pa_cons pe_str pa_nil))) (nomark _)) (pss_one (ps_ret pe_bl)) pss_nil)
      (pss_cons (ps_set (i := 20) sc_law.nd rfl (.inl rfl) (pe_call (ok__law_pick T) (hr.mono (by decide)) (by rfl) T._law_pick.g T._law_pick.F.kp T._law_pick.b .nil pass0 (pa_cons (pv 3) (pa_cons (pe_lst (pa_cons pe_int (pa_cons (pe_tup (pa_cons pe_int (pa_cons pe_int pa_nil))) (pa_cons (pe_tup (pa_cons (pe_un un_neg pe_int) (pa_cons pe_int pa_nil))) (pa_cons (pe_un un_neg pe_int) (pa_cons (pe_tup (pa_cons pe_int (pa_cons pe_int pa_nil))) (pa_cons pe_bl (pa_cons pe_non (pa_cons pe_str (pa_cons (pe_tup (pa_cons pe_int (pa_cons pe_int pa_nil))) (pa_cons (pe_tup (pa_cons pe_int (pa_cons pe_int (pa_cons pe_int pa_nil)))) pa_nil))))))))))) pa_nil))))
      (pss_cons (ps_if (pt_cmpR (op_neD hr.units) (pe_call (ok__law_refused T) (hr.mono (by decide)) (by rfl) T._law_refused.g T._law_refused.F.kp T._law_refused.b .nil pass0 (pa_cons (pv 8) (pa_cons (pv 13) (pa_cons (pv 20) pa_nil)))) (pe_tup (pa_cons pe_str (pa_cons pe_str pa_nil))) (nomark _)) (pss_one (ps_ret pe_bl)) pss_nil)
      (pss_one (ps_if (pt_cmpR (op_neD hr.units) (pe_call (ok__law_refused T) (hr.mono (by decide)) (by rfl) T._law_refused.g T._law_refused.F.kp T._law_refused.b .nil pass0 (pa_cons (pe_call (ok__law_pick T) (hr.mono (by decide)) (by rfl) T._law_pick.g T._law_pick.F.kp T._law_pick.b .nil pass0 (pa_cons (pv 3) (pa_cons (pe_lst (pa_cons pe_non (pa_cons (pv 5) (pa_cons pe_int pa_nil)))) pa_nil))) (pa_cons (pe_call (ok__law_pick T) (hr.mono (by decide)) (by rfl) T._law_pick.g T._law_pick.F.kp T._law_pick.b .nil pass0 (pa_cons (pv 3) (pa_cons (pv 19) pa_nil))) (pa_cons (pv 20) pa_nil)))) (pe_tup (pa_cons pe_str (pa_cons pe_str pa_nil))) (nomark _)) (pss_one (ps_ret pe_bl)) pss_nil))))))))))))))
      (pss_one (ps_ret pe_bl)))), ?_⟩
    refine seq_by fun N hN => ?_
    walk_at "vc"
    refine ⟨a, ns, rfl, hS, hl, fun H1 u s1 hu => ?_⟩
    subst hN
    refine seq_by fun N hN => ?_
    walk_at "vc"
    refine ⟨_, rfl, by decide, by decide, for_range (n := ((2 : Int)).toNat) (fun i σ H3 => ∃ o4 o5 o6 o7 o8 o9 o10 o11 o12 o13 o14 o15 o16 o17 o18 o19 o20, σ = [some (.ref a), none, none, some (.ref u), o4, o5, o6, o7, o8, o9, o10, o11, o12, o13, o14, o15, o16, o17, o18, o19, o20] ∧ Urn H3 u (900000 - 1000 * i)) ?_ ?_ ?_⟩
    · exact ⟨_, _, _, _, _, _, _, _, _, _, _, _, _, _, _, _, _, rfl, hu⟩
    · rintro i σ H3 hi ⟨o4, o5, o6, o7, o8, o9, o10, o11, o12, o13, o14, o15, o16, o17, o18, o19, o20, rfl, hu3⟩
      have hi : i < 2 := by omega
      rw [show ((0 : Int) + (i : Nat)) = (i : Nat) by omega]
      simp only [gName, List.set]
      refine seq_by fun N2 hN2 => ?_
      walk_at "vc"
      refine ⟨u, 900000 - 1000 * i - 40, rfl, hu3.mono (by omega), fun H4 LR us rows b4 hu4 eLR hLR hrows hm hok => ?_⟩
      refine ⟨u, 900000 - 1000 * i - 41, rfl, hu4.mono (by omega), fun H5 rv r b5 hu5 hr hrm => ?_⟩
      refine ⟨by decide, fun p hp => ?_⟩
      have s6 := same_upd (o := .lst [.int 1, .int 1, .int 2, .int 3, .int 7]) hp
      obtain ⟨c4, ys4, hux4⟩ := hu4.at
      obtain ⟨c5, ys5, hux5⟩ := hu5.at
      have hpu : p ≠ u := fun z => by rw [z, hux5] at hp; cases hp
      refine ⟨u, p, _, 900000 - 1000 * i - 42, rfl, hpu, upd_same, (by show 0 < 5; decide), (by show 5 < 1073741824; decide), (hu5.same s6).mono (by omega), fun H7 v b7 hu7 hv => ?_⟩
      refine ⟨by decide, fun t ht => ?_⟩
      have s8 := same_upd (o := .tup [.ref LR, rv, v]) ht
      have nLR : LR ≠ u := fun z => by
        obtain ⟨c3, ys3, hux3⟩ := hu3.at
        rw [z, hux3] at eLR
        cases eLR
      have hLR7 := b7.1 _ nLR _ (s6 _ _ (b5.1 _ nLR _ hLR))
      have hrows7 : Each (RowV K [u, LR] H7) us rows := hrows.imp fun v x z => ((z.but (by simp) b5 hux4).same s6).but (by simp) b7 (s6 _ _ hux5)
      have hr7 := (hr.same s6).but b7 (s6 _ _ hux5)
      have hun : ∃ un : Int, v = .int un ∧ 0 < un ∧ un ≤ 7 := by
        simp only [List.mem_cons, List.not_mem_nil, or_false] at hv
        rcases hv with rfl | rfl | rfl | rfl | rfl <;> exact ⟨_, rfl, by decide, by decide⟩
      obtain ⟨un, rfl, un0, un7⟩ := hun
      refine ⟨_, st_of upd_same, rfl, _, _, rfl, _, _, rfl, _, _, rfl, rfl, ?_⟩
      have hu8 := hu7.same s8
      have hLR8 := s8 _ _ hLR7
      have hrows8 : Each (RowV K [u, LR] _) us rows := hrows7.imp fun v x z => z.same s8
      have hr8 := hr7.same s8
      generalize upd H7 t (.tup [.ref LR, rv, .int un]) = H8 at *
      have geo := rows_geo hm hok
      clear hrows hrows7 hr hr7 hLR hLR7 s8 ht t hu7 b7 hpu hux5 c5 ys5 hux4 c4 ys4 s6 hp p H7 b5 hu5 H5 b4 hu4 eLR H4 hu3 hv
      subst hN2
      refine seq_by fun N3 hN3 => ?_
      walk_at "vc"
      have un8 : un.natAbs < 2 ^ 8000 := by
        refine Nat.lt_of_le_of_lt (show un.natAbs ≤ 2 ^ 3 by omega) ?_
        exact Nat.pow_lt_pow_right (by decide) (by decide)
      have un27 : un < 2 ^ 27 := by omega
      have r6 : rows.length ≤ 6 := by omega
      have r40 : ∀ r ∈ rows, r.length ≤ 40 := fun r hr => by have := geo.five r hr; omega
      refine ⟨LR, [u, LR], us, un, rows, rfl, hLR8, hrows8, un0, un8, geo.ok un0 un27, fun H9 x s9 hx hlx => ?_⟩
      refine ⟨LR, [u, LR], us, rows, rfl, s9 _ _ hLR8, hrows8.imp fun v x z => z.same s9, r6, r40, fun H10 L vs s10 hL hL' hvs => ?_⟩
      refine ⟨L, [], vs, un, rows.map mirL, rfl, hL', hvs, un0, un8, geo.mir.ok un0 un27, fun H11 y s11 hy hly => ?_⟩
      subst hN3
      refine seq_by fun N4 hN4 => ?_
      walk_at "vc"
      have S11 := (s9.trans s10).trans s11
      refine ⟨LR, [u, LR], us, rows, rfl, S11 _ _ hLR8, hrows8.imp fun v x z => z.same S11, r6, r40, fun H12 LS ss s12 hLS hLS' hss => ?_⟩
      have S12 := S11.trans s12
      have hu12 := hu8.same S12
      have nLS : LS ≠ u := fun z => by
        obtain ⟨c, ys, e⟩ := (hu8.same S11).at
        rw [z, e] at hLS
        cases hLS
      have bag : Bag K A.C_Fence A.C_Lot u LR us rows rv r un x y LS ss H12 := ⟨nLR, nLS, S12 _ _ hLR8, hrows8.imp fun v x z => z.same S12, hr8.same S12, hlx.same ((s10.trans s11).trans s12), hly.same s12, hLS', hss⟩
      clear hss hLS' hLS s12 hly hy s11 hvs hL' hL s10 hlx hx s9 hr8 hrows8 hLR8 hu8 S11 S12
      subst hN4
      refine seq_by fun N5 hN5 => ?_
      walk_at "vc"
      have hurn : Urn H12 u (900000 - 1000 * i - 42) := hu12.mono (by omega)
      clear hu12
      refine ⟨_, rfl, by decide, by decide, for_range (n := ((4 : Int)).toNat) (fun j σ H3 => ∃ p11 p12 p13 p14 p15 p16 p17 p18, σ = sg (some (.ref a)) none none (some (.ref u)) (some (.int (i : Nat))) (some (.ref LR)) (some rv) (some (.int un)) (some (.ref x)) (some (.ref y)) (some (.ref LS)) p11 p12 p13 p14 p15 p16 p17 p18 o19 o20 ∧ Bag K A.C_Fence A.C_Lot u LR us rows rv r un x y LS ss H3 ∧ Urn H3 u (900000 - 1000 * i - 42 - 7 * j)) ?_ ?_ ?_⟩
      · exact ⟨_, _, _, _, _, _, _, _, rfl, bag, hurn⟩
      · rintro j σ H3 hj ⟨p11, p12, p13, p14, p15, p16, p17, p18, rfl, bag3, hu3⟩
        have hj : j < 4 := by omega
        rw [show ((0 : Int) + (j : Nat)) = (j : Nat) by omega]
        simp only [gName, List.set]
        exact each_ok (k := 900000 - 1000 * i - 42 - 7 * (j + 1)) (CF := a) (CL := a) bag3 (hu3.mono (by omega)) geo hrm un0 un7 (fun H' p12 p13 p14 p15 p16 p17 p18 b h => ⟨_, _, _, _, _, _, _, _, rfl, b, h⟩)
      · rintro σ H3 ⟨p11, p12, p13, p14, p15, p16, p17, p18, rfl, bag3, hu3⟩
        replace hu3 : Urn H3 u (900000 - 1000 * i - 42 - 28) := hu3
        show N5 _ _
        clear bag hurn
        subst hN5
        exact tail_ok T (k := 900000 - 1000 * (i + 1)) bag3 (hu3.mono (by omega)) geo un0 un7 (fun H' p13 p19 p20 h => ⟨_, _, _, _, _, _, _, _, _, _, _, _, _, _, _, _, _, rfl, h⟩)
    · rintro σ H3 ⟨o4, o5, o6, o7, o8, o9, o10, o11, o12, o13, o14, o15, o16, o17, o18, o19, o20, rfl, hu3⟩
      show N _ _
      subst hN
      walk_at "vc"
      exact ret _
end
end Odd
namespace Odd
open PySem PySem.Spec PyProof.Rows L2 He Oh
theorem bi_lowest : ∀ (kV doc pm : Value) (an : Option Addr) (cdv ct : Value) (us : List Value), us.length = (["top", "under"] : List Str).length → bindArgs (PySem.W.fnOf "lowest" "lowest" (defArgs s_lowest) (defBody s_lowest) (defScope s_lowest) .none kV doc pm an cdv ct) ⟨us, []⟩ = pure ((["top", "under"] : List Str).zip us) := fun _ _ _ _ _ _ us hl => match us, hl with | [_, _], _ => rfl
theorem bi_pair_of : ∀ (kV doc pm : Value) (an : Option Addr) (cdv ct : Value) (us : List Value), us.length = (["value"] : List Str).length → bindArgs (PySem.W.fnOf "pair_of" "pair_of" (defArgs s_pair_of) (defBody s_pair_of) (defScope s_pair_of) .none kV doc pm an cdv ct) ⟨us, []⟩ = pure ((["value"] : List Str).zip us) := fun _ _ _ _ _ _ us hl => match us, hl with | [_], _ => rfl
theorem bi_negative : ∀ (kV doc pm : Value) (an : Option Addr) (cdv ct : Value) (us : List Value), us.length = (["value"] : List Str).length → bindArgs (PySem.W.fnOf "negative" "negative" (defArgs s_negative) (defBody s_negative) (defScope s_negative) .none kV doc pm an cdv ct) ⟨us, []⟩ = pure ((["value"] : List Str).zip us) := fun _ _ _ _ _ _ us hl => match us, hl with | [_], _ => rfl
theorem bi_sum_of : ∀ (kV doc pm : Value) (an : Option Addr) (cdv ct : Value) (us : List Value), us.length = (["one", "other"] : List Str).length → bindArgs (PySem.W.fnOf "sum_of" "sum_of" (defArgs s_sum_of) (defBody s_sum_of) (defScope s_sum_of) .none kV doc pm an cdv ct) ⟨us, []⟩ = pure ((["one", "other"] : List Str).zip us) := fun _ _ _ _ _ _ us hl => match us, hl with | [_, _], _ => rfl
theorem bi_difference : ∀ (kV doc pm : Value) (an : Option Addr) (cdv ct : Value) (us : List Value), us.length = (["one", "other"] : List Str).length → bindArgs (PySem.W.fnOf "difference" "difference" (defArgs s_difference) (defBody s_difference) (defScope s_difference) .none kV doc pm an cdv ct) ⟨us, []⟩ = pure ((["one", "other"] : List Str).zip us) := fun _ _ _ _ _ _ us hl => match us, hl with | [_, _], _ => rfl
theorem bi_product_of : ∀ (kV doc pm : Value) (an : Option Addr) (cdv ct : Value) (us : List Value), us.length = (["one", "other"] : List Str).length → bindArgs (PySem.W.fnOf "product_of" "product_of" (defArgs s_product_of) (defBody s_product_of) (defScope s_product_of) .none kV doc pm an cdv ct) ⟨us, []⟩ = pure ((["one", "other"] : List Str).zip us) := fun _ _ _ _ _ _ us hl => match us, hl with | [_, _], _ => rfl
theorem bi_is_below : ∀ (kV doc pm : Value) (an : Option Addr) (cdv ct : Value) (us : List Value), us.length = (["one", "other"] : List Str).length → bindArgs (PySem.W.fnOf "is_below" "is_below" (defArgs s_is_below) (defBody s_is_below) (defScope s_is_below) .none kV doc pm an cdv ct) ⟨us, []⟩ = pure ((["one", "other"] : List Str).zip us) := fun _ _ _ _ _ _ us hl => match us, hl with | [_, _], _ => rfl
theorem bi_sign : ∀ (kV doc pm : Value) (an : Option Addr) (cdv ct : Value) (us : List Value), us.length = (["top"] : List Str).length → bindArgs (PySem.W.fnOf "sign" "sign" (defArgs s_sign) (defBody s_sign) (defScope s_sign) .none kV doc pm an cdv ct) ⟨us, []⟩ = pure ((["top"] : List Str).zip us) := fun _ _ _ _ _ _ us hl => match us, hl with | [_], _ => rfl
theorem bi_is_integer : ∀ (kV doc pm : Value) (an : Option Addr) (cdv ct : Value) (us : List Value), us.length = (["value"] : List Str).length → bindArgs (PySem.W.fnOf "is_integer" "is_integer" (defArgs s_is_integer) (defBody s_is_integer) (defScope s_is_integer) .none kV doc pm an cdv ct) ⟨us, []⟩ = pure ((["value"] : List Str).zip us) := fun _ _ _ _ _ _ us hl => match us, hl with | [_], _ => rfl
theorem bi_is_within : ∀ (kV doc pm : Value) (an : Option Addr) (cdv ct : Value) (us : List Value), us.length = (["value", "least", "most"] : List Str).length → bindArgs (PySem.W.fnOf "is_within" "is_within" (defArgs s_is_within) (defBody s_is_within) (defScope s_is_within) .none kV doc pm an cdv ct) ⟨us, []⟩ = pure ((["value", "least", "most"] : List Str).zip us) := fun _ _ _ _ _ _ us hl => match us, hl with | [_, _, _], _ => rfl
theorem bi_is_row : ∀ (kV doc pm : Value) (an : Option Addr) (cdv ct : Value) (us : List Value), us.length = (["value"] : List Str).length → bindArgs (PySem.W.fnOf "is_row" "is_row" (defArgs s_is_row) (defBody s_is_row) (defScope s_is_row) .none kV doc pm an cdv ct) ⟨us, []⟩ = pure ((["value"] : List Str).zip us) := fun _ _ _ _ _ _ us hl => match us, hl with | [_], _ => rfl
theorem bi_is_pair : ∀ (kV doc pm : Value) (an : Option Addr) (cdv ct : Value) (us : List Value), us.length = (["value"] : List Str).length → bindArgs (PySem.W.fnOf "is_pair" "is_pair" (defArgs s_is_pair) (defBody s_is_pair) (defScope s_is_pair) .none kV doc pm an cdv ct) ⟨us, []⟩ = pure ((["value"] : List Str).zip us) := fun _ _ _ _ _ _ us hl => match us, hl with | [_], _ => rfl
theorem bi_is_number : ∀ (kV doc pm : Value) (an : Option Addr) (cdv ct : Value) (us : List Value), us.length = (["value"] : List Str).length → bindArgs (PySem.W.fnOf "is_number" "is_number" (defArgs s_is_number) (defBody s_is_number) (defScope s_is_number) .none kV doc pm an cdv ct) ⟨us, []⟩ = pure ((["value"] : List Str).zip us) := fun _ _ _ _ _ _ us hl => match us, hl with | [_], _ => rfl
theorem bi_is_point : ∀ (kV doc pm : Value) (an : Option Addr) (cdv ct : Value) (us : List Value), us.length = (["value"] : List Str).length → bindArgs (PySem.W.fnOf "is_point" "is_point" (defArgs s_is_point) (defBody s_is_point) (defScope s_is_point) .none kV doc pm an cdv ct) ⟨us, []⟩ = pure ((["value"] : List Str).zip us) := fun _ _ _ _ _ _ us hl => match us, hl with | [_], _ => rfl
theorem bi_are_points : ∀ (kV doc pm : Value) (an : Option Addr) (cdv ct : Value) (us : List Value), us.length = (["value", "least", "most"] : List Str).length → bindArgs (PySem.W.fnOf "are_points" "are_points" (defArgs s_are_points) (defBody s_are_points) (defScope s_are_points) .none kV doc pm an cdv ct) ⟨us, []⟩ = pure ((["value", "least", "most"] : List Str).zip us) := fun _ _ _ _ _ _ us hl => match us, hl with | [_, _, _], _ => rfl
theorem bi_point_of : ∀ (kV doc pm : Value) (an : Option Addr) (cdv ct : Value) (us : List Value), us.length = (["value"] : List Str).length → bindArgs (PySem.W.fnOf "point_of" "point_of" (defArgs s_point_of) (defBody s_point_of) (defScope s_point_of) .none kV doc pm an cdv ct) ⟨us, []⟩ = pure ((["value"] : List Str).zip us) := fun _ _ _ _ _ _ us hl => match us, hl with | [_], _ => rfl
theorem bi_way_between : ∀ (kV doc pm : Value) (an : Option Addr) (cdv ct : Value) (us : List Value), us.length = (["start", "end"] : List Str).length → bindArgs (PySem.W.fnOf "way_between" "way_between" (defArgs s_way_between) (defBody s_way_between) (defScope s_way_between) .none kV doc pm an cdv ct) ⟨us, []⟩ = pure ((["start", "end"] : List Str).zip us) := fun _ _ _ _ _ _ us hl => match us, hl with | [_, _], _ => rfl
theorem bi_cross_of : ∀ (kV doc pm : Value) (an : Option Addr) (cdv ct : Value) (us : List Value), us.length = (["one", "other"] : List Str).length → bindArgs (PySem.W.fnOf "cross_of" "cross_of" (defArgs s_cross_of) (defBody s_cross_of) (defScope s_cross_of) .none kV doc pm an cdv ct) ⟨us, []⟩ = pure ((["one", "other"] : List Str).zip us) := fun _ _ _ _ _ _ us hl => match us, hl with | [_, _], _ => rfl
theorem bi_dot_of : ∀ (kV doc pm : Value) (an : Option Addr) (cdv ct : Value) (us : List Value), us.length = (["one", "other"] : List Str).length → bindArgs (PySem.W.fnOf "dot_of" "dot_of" (defArgs s_dot_of) (defBody s_dot_of) (defScope s_dot_of) .none kV doc pm an cdv ct) ⟨us, []⟩ = pure ((["one", "other"] : List Str).zip us) := fun _ _ _ _ _ _ us hl => match us, hl with | [_, _], _ => rfl
theorem bi_comes_before : ∀ (kV doc pm : Value) (an : Option Addr) (cdv ct : Value) (us : List Value), us.length = (["one", "other"] : List Str).length → bindArgs (PySem.W.fnOf "comes_before" "comes_before" (defArgs s_comes_before) (defBody s_comes_before) (defScope s_comes_before) .none kV doc pm an cdv ct) ⟨us, []⟩ = pure ((["one", "other"] : List Str).zip us) := fun _ _ _ _ _ _ us hl => match us, hl with | [_, _], _ => rfl
theorem bi_ratio_in : ∀ (kV doc pm : Value) (an : Option Addr) (cdv ct : Value) (us : List Value), us.length = (["value"] : List Str).length → bindArgs (PySem.W.fnOf "ratio_in" "ratio_in" (defArgs s_ratio_in) (defBody s_ratio_in) (defScope s_ratio_in) .none kV doc pm an cdv ct) ⟨us, []⟩ = pure ((["value"] : List Str).zip us) := fun _ _ _ _ _ _ us hl => match us, hl with | [_], _ => rfl
theorem bi_determinant_of : ∀ (kV doc pm : Value) (an : Option Addr) (cdv ct : Value) (us : List Value), us.length = (["vectors", "ratio"] : List Str).length → bindArgs (PySem.W.fnOf "determinant_of" "determinant_of" (defArgs s_determinant_of) (defBody s_determinant_of) (defScope s_determinant_of) .none kV doc pm an cdv ct) ⟨us, []⟩ = pure ((["vectors", "ratio"] : List Str).zip us) := fun _ _ _ _ _ _ us hl => match us, hl with | [_, _], _ => rfl
theorem bi_fixed : ∀ (kV doc pm : Value) (an : Option Addr) (cdv ct : Value) (us : List Value), us.length = (["value"] : List Str).length → bindArgs (PySem.W.fnOf "fixed" "fixed" (defArgs s_fixed) (defBody s_fixed) (defScope s_fixed) .none kV doc pm an cdv ct) ⟨us, []⟩ = pure ((["value"] : List Str).zip us) := fun _ _ _ _ _ _ us hl => match us, hl with | [_], _ => rfl
theorem bi_sides_of : ∀ (kV doc pm : Value) (an : Option Addr) (cdv ct : Value) (us : List Value), us.length = (["corners"] : List Str).length → bindArgs (PySem.W.fnOf "sides_of" "sides_of" (defArgs s_sides_of) (defBody s_sides_of) (defScope s_sides_of) .none kV doc pm an cdv ct) ⟨us, []⟩ = pure ((["corners"] : List Str).zip us) := fun _ _ _ _ _ _ us hl => match us, hl with | [_], _ => rfl
theorem bi__loose : ∀ (kV doc pm : Value) (an : Option Addr) (cdv ct : Value) (us : List Value), us.length = (["one", "other"] : List Str).length → bindArgs (PySem.W.fnOf "_loose" "_loose" (defArgs s__loose) (defBody s__loose) (defScope s__loose) .none kV doc pm an cdv ct) ⟨us, []⟩ = pure ((["one", "other"] : List Str).zip us) := fun _ _ _ _ _ _ us hl => match us, hl with | [_, _], _ => rfl
theorem bi_bend : ∀ (kV doc pm : Value) (an : Option Addr) (cdv ct : Value) (us : List Value), us.length = (["start", "middle", "end"] : List Str).length → bindArgs (PySem.W.fnOf "bend" "bend" (defArgs s_bend) (defBody s_bend) (defScope s_bend) .none kV doc pm an cdv ct) ⟨us, []⟩ = pure ((["start", "middle", "end"] : List Str).zip us) := fun _ _ _ _ _ _ us hl => match us, hl with | [_, _, _], _ => rfl
theorem bi__ordered : ∀ (kV doc pm : Value) (an : Option Addr) (cdv ct : Value) (us : List Value), us.length = (["side"] : List Str).length → bindArgs (PySem.W.fnOf "_ordered" "_ordered" (defArgs s__ordered) (defBody s__ordered) (defScope s__ordered) .none kV doc pm an cdv ct) ⟨us, []⟩ = pure ((["side"] : List Str).zip us) := fun _ _ _ _ _ _ us hl => match us, hl with | [_], _ => rfl
theorem bi__shared_stretch : ∀ (kV doc pm : Value) (an : Option Addr) (cdv ct : Value) (us : List Value), us.length = (["one", "other"] : List Str).length → bindArgs (PySem.W.fnOf "_shared_stretch" "_shared_stretch" (defArgs s__shared_stretch) (defBody s__shared_stretch) (defScope s__shared_stretch) .none kV doc pm an cdv ct) ⟨us, []⟩ = pure ((["one", "other"] : List Str).zip us) := fun _ _ _ _ _ _ us hl => match us, hl with | [_, _], _ => rfl
theorem bi_common_point : ∀ (kV doc pm : Value) (an : Option Addr) (cdv ct : Value) (us : List Value), us.length = (["one", "other"] : List Str).length → bindArgs (PySem.W.fnOf "common_point" "common_point" (defArgs s_common_point) (defBody s_common_point) (defScope s_common_point) .none kV doc pm an cdv ct) ⟨us, []⟩ = pure ((["one", "other"] : List Str).zip us) := fun _ _ _ _ _ _ us hl => match us, hl with | [_, _], _ => rfl
theorem bi__corners_in : ∀ (kV doc pm : Value) (an : Option Addr) (cdv ct : Value) (us : List Value), us.length = (["corners"] : List Str).length → bindArgs (PySem.W.fnOf "_corners_in" "_corners_in" (defArgs s__corners_in) (defBody s__corners_in) (defScope s__corners_in) .none kV doc pm an cdv ct) ⟨us, []⟩ = pure ((["corners"] : List Str).zip us) := fun _ _ _ _ _ _ us hl => match us, hl with | [_], _ => rfl
theorem bi__goes_back : ∀ (kV doc pm : Value) (an : Option Addr) (cdv ct : Value) (us : List Value), us.length = (["coming", "leaving"] : List Str).length → bindArgs (PySem.W.fnOf "_goes_back" "_goes_back" (defArgs s__goes_back) (defBody s__goes_back) (defScope s__goes_back) .none kV doc pm an cdv ct) ⟨us, []⟩ = pure ((["coming", "leaving"] : List Str).zip us) := fun _ _ _ _ _ _ us hl => match us, hl with | [_, _], _ => rfl
theorem bi_are_next : ∀ (kV doc pm : Value) (an : Option Addr) (cdv ct : Value) (us : List Value), us.length = (["one", "other", "many"] : List Str).length → bindArgs (PySem.W.fnOf "are_next" "are_next" (defArgs s_are_next) (defBody s_are_next) (defScope s_are_next) .none kV doc pm an cdv ct) ⟨us, []⟩ = pure ((["one", "other", "many"] : List Str).zip us) := fun _ _ _ _ _ _ us hl => match us, hl with | [_, _, _], _ => rfl
theorem bi__meeting : ∀ (kV doc pm : Value) (an : Option Addr) (cdv ct : Value) (us : List Value), us.length = (["sides"] : List Str).length → bindArgs (PySem.W.fnOf "_meeting" "_meeting" (defArgs s__meeting) (defBody s__meeting) (defScope s__meeting) .none kV doc pm an cdv ct) ⟨us, []⟩ = pure ((["sides"] : List Str).zip us) := fun _ _ _ _ _ _ us hl => match us, hl with | [_], _ => rfl
theorem bi__doubled_area : ∀ (kV doc pm : Value) (an : Option Addr) (cdv ct : Value) (us : List Value), us.length = (["corners"] : List Str).length → bindArgs (PySem.W.fnOf "_doubled_area" "_doubled_area" (defArgs s__doubled_area) (defBody s__doubled_area) (defScope s__doubled_area) .none kV doc pm an cdv ct) ⟨us, []⟩ = pure ((["corners"] : List Str).zip us) := fun _ _ _ _ _ _ us hl => match us, hl with | [_], _ => rfl
theorem bi__judged : ∀ (kV doc pm : Value) (an : Option Addr) (cdv ct : Value) (us : List Value), us.length = (["corners"] : List Str).length → bindArgs (PySem.W.fnOf "_judged" "_judged" (defArgs s__judged) (defBody s__judged) (defScope s__judged) .none kV doc pm an cdv ct) ⟨us, []⟩ = pure ((["corners"] : List Str).zip us) := fun _ _ _ _ _ _ us hl => match us, hl with | [_], _ => rfl
theorem bi__bends_of : ∀ (kV doc pm : Value) (an : Option Addr) (cdv ct : Value) (us : List Value), us.length = (["corners"] : List Str).length → bindArgs (PySem.W.fnOf "_bends_of" "_bends_of" (defArgs s__bends_of) (defBody s__bends_of) (defScope s__bends_of) .none kV doc pm an cdv ct) ⟨us, []⟩ = pure ((["corners"] : List Str).zip us) := fun _ _ _ _ _ _ us hl => match us, hl with | [_], _ => rfl
theorem bi__fences_in : ∀ (kV doc pm : Value) (an : Option Addr) (cdv ct : Value) (us : List Value), us.length = (["fences"] : List Str).length → bindArgs (PySem.W.fnOf "_fences_in" "_fences_in" (defArgs s__fences_in) (defBody s__fences_in) (defScope s__fences_in) .none kV doc pm an cdv ct) ⟨us, []⟩ = pure ((["fences"] : List Str).zip us) := fun _ _ _ _ _ _ us hl => match us, hl with | [_], _ => rfl
theorem bi__numbered_sides : ∀ (kV doc pm : Value) (an : Option Addr) (cdv ct : Value) (us : List Value), us.length = (["fences"] : List Str).length → bindArgs (PySem.W.fnOf "_numbered_sides" "_numbered_sides" (defArgs s__numbered_sides) (defBody s__numbered_sides) (defScope s__numbered_sides) .none kV doc pm an cdv ct) ⟨us, []⟩ = pure ((["fences"] : List Str).zip us) := fun _ _ _ _ _ _ us hl => match us, hl with | [_], _ => rfl
theorem bi_judged_fences : ∀ (kV doc pm : Value) (an : Option Addr) (cdv ct : Value) (us : List Value), us.length = (["fences"] : List Str).length → bindArgs (PySem.W.fnOf "judged_fences" "judged_fences" (defArgs s_judged_fences) (defBody s_judged_fences) (defScope s_judged_fences) .none kV doc pm an cdv ct) ⟨us, []⟩ = pure ((["fences"] : List Str).zip us) := fun _ _ _ _ _ _ us hl => match us, hl with | [_], _ => rfl
theorem bi_is_side : ∀ (kV doc pm : Value) (an : Option Addr) (cdv ct : Value) (us : List Value), us.length = (["lot", "at"] : List Str).length → bindArgs (PySem.W.fnOf "is_side" "is_side" (defArgs s_is_side) (defBody s_is_side) (defScope s_is_side) .none kV doc pm an cdv ct) ⟨us, []⟩ = pure ((["lot", "at"] : List Str).zip us) := fun _ _ _ _ _ _ us hl => match us, hl with | [_, _], _ => rfl
theorem bi_check_lot : ∀ (kV doc pm : Value) (an : Option Addr) (cdv ct : Value) (us : List Value), us.length = (["lot"] : List Str).length → bindArgs (PySem.W.fnOf "check_lot" "check_lot" (defArgs s_check_lot) (defBody s_check_lot) (defScope s_check_lot) .none kV doc pm an cdv ct) ⟨us, []⟩ = pure ((["lot"] : List Str).zip us) := fun _ _ _ _ _ _ us hl => match us, hl with | [_], _ => rfl
theorem bi_four_in : ∀ (kV doc pm : Value) (an : Option Addr) (cdv ct : Value) (us : List Value), us.length = (["lot", "four"] : List Str).length → bindArgs (PySem.W.fnOf "four_in" "four_in" (defArgs s_four_in) (defBody s_four_in) (defScope s_four_in) .none kV doc pm an cdv ct) ⟨us, []⟩ = pure ((["lot", "four"] : List Str).zip us) := fun _ _ _ _ _ _ us hl => match us, hl with | [_, _], _ => rfl
theorem bi_determinant : ∀ (kV doc pm : Value) (an : Option Addr) (cdv ct : Value) (us : List Value), us.length = (["lot", "four", "ratio"] : List Str).length → bindArgs (PySem.W.fnOf "determinant" "determinant" (defArgs s_determinant) (defBody s_determinant) (defScope s_determinant) .none kV doc pm an cdv ct) ⟨us, []⟩ = pure ((["lot", "four", "ratio"] : List Str).zip us) := fun _ _ _ _ _ _ us hl => match us, hl with | [_, _, _], _ => rfl
theorem bi__law_store : ∀ (kV doc pm : Value) (an : Option Addr) (cdv ct : Value) (us : List Value), us.length = (["script"] : List Str).length → bindArgs (PySem.W.fnOf "_law_store" "_law_store" (defArgs s__law_store) (defBody s__law_store) (defScope s__law_store) .none kV doc pm an cdv ct) ⟨us, []⟩ = pure ((["script"] : List Str).zip us) := fun _ _ _ _ _ _ us hl => match us, hl with | [_], _ => rfl
theorem bi__law_draw : ∀ (kV doc pm : Value) (an : Option Addr) (cdv ct : Value) (us : List Value), us.length = (["store", "many"] : List Str).length → bindArgs (PySem.W.fnOf "_law_draw" "_law_draw" (defArgs s__law_draw) (defBody s__law_draw) (defScope s__law_draw) .none kV doc pm an cdv ct) ⟨us, []⟩ = pure ((["store", "many"] : List Str).zip us) := fun _ _ _ _ _ _ us hl => match us, hl with | [_, _], _ => rfl
theorem bi__law_pick : ∀ (kV doc pm : Value) (an : Option Addr) (cdv ct : Value) (us : List Value), us.length = (["store", "some"] : List Str).length → bindArgs (PySem.W.fnOf "_law_pick" "_law_pick" (defArgs s__law_pick) (defBody s__law_pick) (defScope s__law_pick) .none kV doc pm an cdv ct) ⟨us, []⟩ = pure ((["store", "some"] : List Str).zip us) := fun _ _ _ _ _ _ us hl => match us, hl with | [_, _], _ => rfl
theorem bi__law_gcd : ∀ (kV doc pm : Value) (an : Option Addr) (cdv ct : Value) (us : List Value), us.length = (["one", "two"] : List Str).length → bindArgs (PySem.W.fnOf "_law_gcd" "_law_gcd" (defArgs s__law_gcd) (defBody s__law_gcd) (defScope s__law_gcd) .none kV doc pm an cdv ct) ⟨us, []⟩ = pure ((["one", "two"] : List Str).zip us) := fun _ _ _ _ _ _ us hl => match us, hl with | [_, _], _ => rfl
theorem bi__law_low : ∀ (kV doc pm : Value) (an : Option Addr) (cdv ct : Value) (us : List Value), us.length = (["top", "under"] : List Str).length → bindArgs (PySem.W.fnOf "_law_low" "_law_low" (defArgs s__law_low) (defBody s__law_low) (defScope s__law_low) .none kV doc pm an cdv ct) ⟨us, []⟩ = pure ((["top", "under"] : List Str).zip us) := fun _ _ _ _ _ _ us hl => match us, hl with | [_, _], _ => rfl
theorem bi__law_pt : ∀ (kV doc pm : Value) (an : Option Addr) (cdv ct : Value) (us : List Value), us.length = (["point", "under"] : List Str).length → bindArgs (PySem.W.fnOf "_law_pt" "_law_pt" (defArgs s__law_pt) (defBody s__law_pt) (defScope s__law_pt) .none kV doc pm an cdv ct) ⟨us, []⟩ = pure ((["point", "under"] : List Str).zip us) := fun _ _ _ _ _ _ us hl => match us, hl with | [_, _], _ => rfl
theorem bi__law_is_number : ∀ (kV doc pm : Value) (an : Option Addr) (cdv ct : Value) (us : List Value), us.length = (["value"] : List Str).length → bindArgs (PySem.W.fnOf "_law_is_number" "_law_is_number" (defArgs s__law_is_number) (defBody s__law_is_number) (defScope s__law_is_number) .none kV doc pm an cdv ct) ⟨us, []⟩ = pure ((["value"] : List Str).zip us) := fun _ _ _ _ _ _ us hl => match us, hl with | [_], _ => rfl
theorem bi__law_star : ∀ (kV doc pm : Value) (an : Option Addr) (cdv ct : Value) (us : List Value), us.length = (["store", "many", "heart", "least", "span"] : List Str).length → bindArgs (PySem.W.fnOf "_law_star" "_law_star" (defArgs s__law_star) (defBody s__law_star) (defScope s__law_star) .none kV doc pm an cdv ct) ⟨us, []⟩ = pure ((["store", "many", "heart", "least", "span"] : List Str).zip us) := fun _ _ _ _ _ _ us hl => match us, hl with | [_, _, _, _, _], _ => rfl
theorem bi__law_lot : ∀ (kV doc pm : Value) (an : Option Addr) (cdv ct : Value) (us : List Value), us.length = (["rows", "under"] : List Str).length → bindArgs (PySem.W.fnOf "_law_lot" "_law_lot" (defArgs s__law_lot) (defBody s__law_lot) (defScope s__law_lot) .none kV doc pm an cdv ct) ⟨us, []⟩ = pure ((["rows", "under"] : List Str).zip us) := fun _ _ _ _ _ _ us hl => match us, hl with | [_, _], _ => rfl
theorem bi__law_sides : ∀ (kV doc pm : Value) (an : Option Addr) (cdv ct : Value) (us : List Value), us.length = (["rows"] : List Str).length → bindArgs (PySem.W.fnOf "_law_sides" "_law_sides" (defArgs s__law_sides) (defBody s__law_sides) (defScope s__law_sides) .none kV doc pm an cdv ct) ⟨us, []⟩ = pure ((["rows"] : List Str).zip us) := fun _ _ _ _ _ _ us hl => match us, hl with | [_], _ => rfl
theorem bi__law_sign : ∀ (kV doc pm : Value) (an : Option Addr) (cdv ct : Value) (us : List Value), us.length = (["vectors", "ratio"] : List Str).length → bindArgs (PySem.W.fnOf "_law_sign" "_law_sign" (defArgs s__law_sign) (defBody s__law_sign) (defScope s__law_sign) .none kV doc pm an cdv ct) ⟨us, []⟩ = pure ((["vectors", "ratio"] : List Str).zip us) := fun _ _ _ _ _ _ us hl => match us, hl with | [_, _], _ => rfl
theorem bi__law_ratio : ∀ (kV doc pm : Value) (an : Option Addr) (cdv ct : Value) (us : List Value), us.length = (["store"] : List Str).length → bindArgs (PySem.W.fnOf "_law_ratio" "_law_ratio" (defArgs s__law_ratio) (defBody s__law_ratio) (defScope s__law_ratio) .none kV doc pm an cdv ct) ⟨us, []⟩ = pure ((["store"] : List Str).zip us) := fun _ _ _ _ _ _ us hl => match us, hl with | [_], _ => rfl
theorem bi__law_rows : ∀ (kV doc pm : Value) (an : Option Addr) (cdv ct : Value) (us : List Value), us.length = (["store"] : List Str).length → bindArgs (PySem.W.fnOf "_law_rows" "_law_rows" (defArgs s__law_rows) (defBody s__law_rows) (defScope s__law_rows) .none kV doc pm an cdv ct) ⟨us, []⟩ = pure ((["store"] : List Str).zip us) := fun _ _ _ _ _ _ us hl => match us, hl with | [_], _ => rfl
theorem bi__law_mirrored : ∀ (kV doc pm : Value) (an : Option Addr) (cdv ct : Value) (us : List Value), us.length = (["rows"] : List Str).length → bindArgs (PySem.W.fnOf "_law_mirrored" "_law_mirrored" (defArgs s__law_mirrored) (defBody s__law_mirrored) (defScope s__law_mirrored) .none kV doc pm an cdv ct) ⟨us, []⟩ = pure ((["rows"] : List Str).zip us) := fun _ _ _ _ _ _ us hl => match us, hl with | [_], _ => rfl
theorem bi__law_mirror_side : ∀ (kV doc pm : Value) (an : Option Addr) (cdv ct : Value) (us : List Value), us.length = (["rows", "at"] : List Str).length → bindArgs (PySem.W.fnOf "_law_mirror_side" "_law_mirror_side" (defArgs s__law_mirror_side) (defBody s__law_mirror_side) (defScope s__law_mirror_side) .none kV doc pm an cdv ct) ⟨us, []⟩ = pure ((["rows", "at"] : List Str).zip us) := fun _ _ _ _ _ _ us hl => match us, hl with | [_, _], _ => rfl
theorem bi__law_refused : ∀ (kV doc pm : Value) (an : Option Addr) (cdv ct : Value) (us : List Value), us.length = (["lot", "four", "ratio"] : List Str).length → bindArgs (PySem.W.fnOf "_law_refused" "_law_refused" (defArgs s__law_refused) (defBody s__law_refused) (defScope s__law_refused) .none kV doc pm an cdv ct) ⟨us, []⟩ = pure ((["lot", "four", "ratio"] : List Str).zip us) := fun _ _ _ _ _ _ us hl => match us, hl with | [_, _, _], _ => rfl
theorem bi_law : ∀ (kV doc pm : Value) (an : Option Addr) (cdv ct : Value) (us : List Value), us.length = (["script"] : List Str).length → bindArgs (PySem.W.fnOf "law" "law" (defArgs s_law) (defBody s_law) (defScope s_law) .none kV doc pm an cdv ct) ⟨us, []⟩ = pure ((["script"] : List Str).zip us) := fun _ _ _ _ _ _ us hl => match us, hl with | [_], _ => rfl
theorem bi_Paper_bool : ∀ (kV doc pm : Value) (an : Option Addr) (cdv ct : Value) (us : List Value), us.length = (["self"] : List Str).length → bindArgs (PySem.W.fnOf "__bool__" "Paper.__bool__" (defArgs s_Paper_bool) (defBody s_Paper_bool) (defScope s_Paper_bool) .none kV doc pm an cdv ct) ⟨us, []⟩ = pure ((["self"] : List Str).zip us) := fun _ _ _ _ _ _ us hl => match us, hl with | [_], _ => rfl
theorem bi_Fence_init : ∀ (kV doc pm : Value) (an : Option Addr) (cdv ct : Value) (us : List Value), us.length = (["self", "corners"] : List Str).length → bindArgs (PySem.W.fnOf "__init__" "Fence.__init__" (defArgs s_Fence_init) (defBody s_Fence_init) (defScope s_Fence_init) .none kV doc pm an cdv ct) ⟨us, []⟩ = pure ((["self", "corners"] : List Str).zip us) := fun _ _ _ _ _ _ us hl => match us, hl with | [_, _], _ => rfl
theorem bi_Fence_len : ∀ (kV doc pm : Value) (an : Option Addr) (cdv ct : Value) (us : List Value), us.length = (["self"] : List Str).length → bindArgs (PySem.W.fnOf "__len__" "Fence.__len__" (defArgs s_Fence_len) (defBody s_Fence_len) (defScope s_Fence_len) .none kV doc pm an cdv ct) ⟨us, []⟩ = pure ((["self"] : List Str).zip us) := fun _ _ _ _ _ _ us hl => match us, hl with | [_], _ => rfl
theorem bi_Lot_init : ∀ (kV doc pm : Value) (an : Option Addr) (cdv ct : Value) (us : List Value), us.length = (["self", "fences"] : List Str).length → bindArgs (PySem.W.fnOf "__init__" "Lot.__init__" (defArgs s_Lot_init) (defBody s_Lot_init) (defScope s_Lot_init) .none kV doc pm an cdv ct) ⟨us, []⟩ = pure ((["self", "fences"] : List Str).zip us) := fun _ _ _ _ _ _ us hl => match us, hl with | [_, _], _ => rfl
theorem bi_Lot_side : ∀ (kV doc pm : Value) (an : Option Addr) (cdv ct : Value) (us : List Value), us.length = (["self", "at"] : List Str).length → bindArgs (PySem.W.fnOf "side" "Lot.side" (defArgs s_Lot_side) (defBody s_Lot_side) (defScope s_Lot_side) .none kV doc pm an cdv ct) ⟨us, []⟩ = pure ((["self", "at"] : List Str).zip us) := fun _ _ _ _ _ _ us hl => match us, hl with | [_, _], _ => rfl
theorem bx_Closed_init : ∀ (cl : List (Str × Addr)) (kV doc pm : Value) (an : Option Addr) (cdv ct : Value) (us : List Value), us.length = (["self", "is_left"] : List Str).length → bindArgs (PySem.W.fnX "__init__" "Closed.__init__" (defArgs s_Closed_init) (defBody s_Closed_init) (defScope s_Closed_init) cl .none kV doc pm an cdv ct) ⟨us, []⟩ = pure ((["self", "is_left"] : List Str).zip us) := fun _ _ _ _ _ _ _ us hl => match us, hl with | [_, _], _ => rfl
theorem bx_Apart_init : ∀ (cl : List (Str × Addr)) (kV doc pm : Value) (an : Option Addr) (cdv ct : Value) (us : List Value), us.length = (["self"] : List Str).length → bindArgs (PySem.W.fnX "__init__" "Apart.__init__" (defArgs s_Apart_init) (defBody s_Apart_init) (defScope s_Apart_init) cl .none kV doc pm an cdv ct) ⟨us, []⟩ = pure ((["self"] : List Str).zip us) := fun _ _ _ _ _ _ _ us hl => match us, hl with | [_], _ => rfl
theorem facts {K : PySem.W.Frag} {h : Heap} {mg : Str → Option Value} (X : K.In h) (G : h.Ns mainGlobals mg) (c : SaysZ faL fnL ez suL K) : ∃ A : Ads, Txt K mg A ∧ A.f_law = ga K "law" := by
  have a := fun i b e => all_at (l := ezL K) (b := b) c.more i e
  obtain ⟨d_lowest, F_lowest⟩ := c.d.def_ 0 (d := dG "lowest" s_lowest) rfl
  obtain ⟨d_pair_of, F_pair_of⟩ := c.d.def_ 1 (d := dG "pair_of" s_pair_of) rfl
  obtain ⟨d_negative, F_negative⟩ := c.d.def_ 2 (d := dG "negative" s_negative) rfl
  obtain ⟨d_sum_of, F_sum_of⟩ := c.d.def_ 3 (d := dG "sum_of" s_sum_of) rfl
  obtain ⟨d_difference, F_difference⟩ := c.d.def_ 4 (d := dG "difference" s_difference) rfl
  obtain ⟨d_product_of, F_product_of⟩ := c.d.def_ 5 (d := dG "product_of" s_product_of) rfl
  obtain ⟨d_is_below, F_is_below⟩ := c.d.def_ 6 (d := dG "is_below" s_is_below) rfl
  obtain ⟨d_sign, F_sign⟩ := c.d.def_ 7 (d := dG "sign" s_sign) rfl
  obtain ⟨d_is_integer, F_is_integer⟩ := c.d.def_ 8 (d := dG "is_integer" s_is_integer) rfl
  obtain ⟨d_is_within, F_is_within⟩ := c.d.def_ 9 (d := dG "is_within" s_is_within) rfl
  obtain ⟨d_is_row, F_is_row⟩ := c.d.def_ 10 (d := dG "is_row" s_is_row) rfl
  obtain ⟨d_is_pair, F_is_pair⟩ := c.d.def_ 11 (d := dG "is_pair" s_is_pair) rfl
  obtain ⟨d_is_number, F_is_number⟩ := c.d.def_ 12 (d := dG "is_number" s_is_number) rfl
  obtain ⟨d_is_point, F_is_point⟩ := c.d.def_ 13 (d := dG "is_point" s_is_point) rfl
  obtain ⟨d_are_points, F_are_points⟩ := c.d.def_ 14 (d := dG "are_points" s_are_points) rfl
  obtain ⟨d_point_of, F_point_of⟩ := c.d.def_ 15 (d := dG "point_of" s_point_of) rfl
  obtain ⟨d_way_between, F_way_between⟩ := c.d.def_ 16 (d := dG "way_between" s_way_between) rfl
  obtain ⟨d_cross_of, F_cross_of⟩ := c.d.def_ 17 (d := dG "cross_of" s_cross_of) rfl
  obtain ⟨d_dot_of, F_dot_of⟩ := c.d.def_ 18 (d := dG "dot_of" s_dot_of) rfl
  obtain ⟨d_comes_before, F_comes_before⟩ := c.d.def_ 19 (d := dG "comes_before" s_comes_before) rfl
  obtain ⟨d_ratio_in, F_ratio_in⟩ := c.d.def_ 20 (d := dG "ratio_in" s_ratio_in) rfl
  obtain ⟨d_determinant_of, F_determinant_of⟩ := c.d.def_ 21 (d := dG "determinant_of" s_determinant_of) rfl
  obtain ⟨d_fixed, F_fixed⟩ := c.d.def_ 22 (d := dG "fixed" s_fixed) rfl
  obtain ⟨d_sides_of, F_sides_of⟩ := c.d.def_ 23 (d := dG "sides_of" s_sides_of) rfl
  obtain ⟨d__loose, F__loose⟩ := c.d.def_ 24 (d := dG "_loose" s__loose) rfl
  obtain ⟨d_bend, F_bend⟩ := c.d.def_ 25 (d := dG "bend" s_bend) rfl
  obtain ⟨d__ordered, F__ordered⟩ := c.d.def_ 26 (d := dG "_ordered" s__ordered) rfl
  obtain ⟨d__shared_stretch, F__shared_stretch⟩ := c.d.def_ 27 (d := dG "_shared_stretch" s__shared_stretch) rfl
  obtain ⟨d_common_point, F_common_point⟩ := c.d.def_ 28 (d := dG "common_point" s_common_point) rfl
  obtain ⟨d__corners_in, F__corners_in⟩ := c.d.def_ 29 (d := dG "_corners_in" s__corners_in) rfl
  obtain ⟨d__goes_back, F__goes_back⟩ := c.d.def_ 30 (d := dG "_goes_back" s__goes_back) rfl
  obtain ⟨d_are_next, F_are_next⟩ := c.d.def_ 31 (d := dG "are_next" s_are_next) rfl
  obtain ⟨d__meeting, F__meeting⟩ := c.d.def_ 32 (d := dG "_meeting" s__meeting) rfl
  obtain ⟨d__doubled_area, F__doubled_area⟩ := c.d.def_ 33 (d := dG "_doubled_area" s__doubled_area) rfl
  obtain ⟨d__judged, F__judged⟩ := c.d.def_ 34 (d := dG "_judged" s__judged) rfl
  obtain ⟨d__bends_of, F__bends_of⟩ := c.d.def_ 35 (d := dG "_bends_of" s__bends_of) rfl
  obtain ⟨d__fences_in, F__fences_in⟩ := c.d.def_ 36 (d := dG "_fences_in" s__fences_in) rfl
  obtain ⟨d__numbered_sides, F__numbered_sides⟩ := c.d.def_ 37 (d := dG "_numbered_sides" s__numbered_sides) rfl
  obtain ⟨d_judged_fences, F_judged_fences⟩ := c.d.def_ 38 (d := dG "judged_fences" s_judged_fences) rfl
  obtain ⟨d_is_side, F_is_side⟩ := c.d.def_ 39 (d := dG "is_side" s_is_side) rfl
  obtain ⟨d_check_lot, F_check_lot⟩ := c.d.def_ 40 (d := dG "check_lot" s_check_lot) rfl
  obtain ⟨d_four_in, F_four_in⟩ := c.d.def_ 41 (d := dG "four_in" s_four_in) rfl
  obtain ⟨d_determinant, F_determinant⟩ := c.d.def_ 42 (d := dG "determinant" s_determinant) rfl
  obtain ⟨d__law_store, F__law_store⟩ := c.d.def_ 43 (d := dG "_law_store" s__law_store) rfl
  obtain ⟨d__law_draw, F__law_draw⟩ := c.d.def_ 44 (d := dG "_law_draw" s__law_draw) rfl
  obtain ⟨d__law_pick, F__law_pick⟩ := c.d.def_ 45 (d := dG "_law_pick" s__law_pick) rfl
  obtain ⟨d__law_gcd, F__law_gcd⟩ := c.d.def_ 46 (d := dG "_law_gcd" s__law_gcd) rfl
  obtain ⟨d__law_low, F__law_low⟩ := c.d.def_ 47 (d := dG "_law_low" s__law_low) rfl
  obtain ⟨d__law_pt, F__law_pt⟩ := c.d.def_ 48 (d := dG "_law_pt" s__law_pt) rfl
  obtain ⟨d__law_is_number, F__law_is_number⟩ := c.d.def_ 49 (d := dG "_law_is_number" s__law_is_number) rfl
  obtain ⟨d__law_star, F__law_star⟩ := c.d.def_ 50 (d := dG "_law_star" s__law_star) rfl
  obtain ⟨d__law_lot, F__law_lot⟩ := c.d.def_ 51 (d := dG "_law_lot" s__law_lot) rfl
  obtain ⟨d__law_sides, F__law_sides⟩ := c.d.def_ 52 (d := dG "_law_sides" s__law_sides) rfl
  obtain ⟨d__law_sign, F__law_sign⟩ := c.d.def_ 53 (d := dG "_law_sign" s__law_sign) rfl
  obtain ⟨d__law_ratio, F__law_ratio⟩ := c.d.def_ 54 (d := dG "_law_ratio" s__law_ratio) rfl
  obtain ⟨d__law_rows, F__law_rows⟩ := c.d.def_ 55 (d := dG "_law_rows" s__law_rows) rfl
  obtain ⟨d__law_mirrored, F__law_mirrored⟩ := c.d.def_ 56 (d := dG "_law_mirrored" s__law_mirrored) rfl
  obtain ⟨d__law_mirror_side, F__law_mirror_side⟩ := c.d.def_ 57 (d := dG "_law_mirror_side" s__law_mirror_side) rfl
  obtain ⟨d__law_refused, F__law_refused⟩ := c.d.def_ 58 (d := dG "_law_refused" s__law_refused) rfl
  obtain ⟨d_law, F_law⟩ := c.d.def_ 59 (d := dG "law" s_law) rfl
  obtain ⟨d_Paper_init, F_Paper_init⟩ := c.d.def_ 60 (d := dM "Paper" "__init__" "Paper.__init__" s_Paper_init) rfl
  obtain ⟨d_Paper_bool, F_Paper_bool⟩ := c.d.def_ 61 (d := dM "Paper" "__bool__" "Paper.__bool__" s_Paper_bool) rfl
  obtain ⟨d_Fence_init, F_Fence_init⟩ := c.d.def_ 62 (d := dM "Fence" "__init__" "Fence.__init__" s_Fence_init) rfl
  obtain ⟨d_Fence_len, F_Fence_len⟩ := c.d.def_ 63 (d := dM "Fence" "__len__" "Fence.__len__" s_Fence_len) rfl
  obtain ⟨d_Lot_init, F_Lot_init⟩ := c.d.def_ 64 (d := dM "Lot" "__init__" "Lot.__init__" s_Lot_init) rfl
  obtain ⟨d_Lot_side, F_Lot_side⟩ := c.d.def_ 65 (d := dM "Lot" "side" "Lot.side" s_Lot_side) rfl
  obtain ⟨d_BadLot, F_BadLot⟩ := c.d.def_ 66 (d := dM "BadLot" "__init__" "BadLot.__init__" s_BadLot_init) rfl
  obtain ⟨d_BadSides, F_BadSides⟩ := c.d.def_ 67 (d := dM "BadSides" "__init__" "BadSides.__init__" s_BadSides_init) rfl
  obtain ⟨d_BadRatio, F_BadRatio⟩ := c.d.def_ 68 (d := dM "BadRatio" "__init__" "BadRatio.__init__" s_BadRatio_init) rfl
  obtain ⟨cda_Closed, cc_Closed, d_Closed_init, U_Closed, B_Closed⟩ := sup_ok (d := ⟨"Closed", "Closed.__init__", s_Closed_init⟩) (px := "Paper") (ps := ["self", "is_left"]) (c.sup 0 rfl) (a 20 _ rfl) bx_Closed_init
  obtain ⟨cda_Apart, cc_Apart, d_Apart_init, U_Apart, B_Apart⟩ := sup_ok (d := ⟨"Apart", "Apart.__init__", s_Apart_init⟩) (px := "Paper") (ps := ["self"]) (c.sup 1 rfl) (a 21 _ rfl) bx_Apart_init
  exact ⟨⟨ga K "lowest", d_lowest, ga K "pair_of", d_pair_of, ga K "negative", d_negative, ga K "sum_of", d_sum_of, ga K "difference", d_difference, ga K "product_of", d_product_of, ga K "is_below", d_is_below, ga K "sign", d_sign, ga K "is_integer", d_is_integer, ga K "is_within", d_is_within, ga K "is_row", d_is_row, ga K "is_pair", d_is_pair, ga K "is_number", d_is_number, ga K "is_point", d_is_point, ga K "are_points", d_are_points, ga K "point_of", d_point_of, ga K "way_between", d_way_between, ga K "cross_of", d_cross_of, ga K "dot_of", d_dot_of, ga K "comes_before", d_comes_before, ga K "ratio_in", d_ratio_in, ga K "determinant_of", d_determinant_of, ga K "fixed", d_fixed, ga K "sides_of", d_sides_of, ga K "_loose", d__loose, ga K "bend", d_bend, ga K "_ordered", d__ordered, ga K "_shared_stretch", d__shared_stretch, ga K "common_point", d_common_point, ga K "_corners_in", d__corners_in, ga K "_goes_back", d__goes_back, ga K "are_next", d_are_next, ga K "_meeting", d__meeting, ga K "_doubled_area", d__doubled_area, ga K "_judged", d__judged, ga K "_bends_of", d__bends_of, ga K "_fences_in", d__fences_in, ga K "_numbered_sides", d__numbered_sides, ga K "judged_fences", d_judged_fences, ga K "is_side", d_is_side, ga K "check_lot", d_check_lot, ga K "four_in", d_four_in, ga K "determinant", d_determinant, ga K "_law_store", d__law_store, ga K "_law_draw", d__law_draw, ga K "_law_pick", d__law_pick, ga K "_law_gcd", d__law_gcd, ga K "_law_low", d__law_low, ga K "_law_pt", d__law_pt, ga K "_law_is_number", d__law_is_number, ga K "_law_star", d__law_star, ga K "_law_lot", d__law_lot, ga K "_law_sides", d__law_sides, ga K "_law_sign", d__law_sign, ga K "_law_ratio", d__law_ratio, ga K "_law_rows", d__law_rows, ga K "_law_mirrored", d__law_mirrored, ga K "_law_mirror_side", d__law_mirror_side, ga K "_law_refused", d__law_refused, ga K "law", d_law, ga K "BadLot", ma K (ga K "BadLot") "__init__", ga K "BadSides", ma K (ga K "BadSides") "__init__", ga K "BadRatio", ma K (ga K "BadRatio") "__init__", ga K "ZERO", ga K "BENDS", ga K "Paper", ga K "Closed", ga K "Fence", ga K "Lot", ga K "Apart", ma K (ga K "Paper") "__init__", d_Paper_init, ma K (ga K "Paper") "__bool__", d_Paper_bool, ma K (ga K "Fence") "__init__", d_Fence_init, ma K (ga K "Fence") "__len__", d_Fence_len, ma K (ga K "Lot") "__init__", d_Lot_init, ma K (ga K "Lot") "side", d_Lot_side, ma K (ga K "Closed") "__init__", d_Closed_init, ma K (ga K "Apart") "__init__", d_Apart_init, cda_Closed, cc_Closed, cda_Apart, cc_Apart⟩, ⟨⟨glo_ok X G (c.d.fact 0 (f := .glo "lowest") rfl), fun_of F_lowest, F_lowest.bindsN bi_lowest⟩,
    ⟨glo_ok X G (c.d.fact 1 (f := .glo "pair_of") rfl), fun_of F_pair_of, F_pair_of.bindsN bi_pair_of⟩,
    ⟨glo_ok X G (c.d.fact 2 (f := .glo "negative") rfl), fun_of F_negative, F_negative.bindsN bi_negative⟩,
    ⟨glo_ok X G (c.d.fact 3 (f := .glo "sum_of") rfl), fun_of F_sum_of, F_sum_of.bindsN bi_sum_of⟩,
    ⟨glo_ok X G (c.d.fact 4 (f := .glo "difference") rfl), fun_of F_difference, F_difference.bindsN bi_difference⟩,
    ⟨glo_ok X G (c.d.fact 5 (f := .glo "product_of") rfl), fun_of F_product_of, F_product_of.bindsN bi_product_of⟩,
    ⟨glo_ok X G (c.d.fact 6 (f := .glo "is_below") rfl), fun_of F_is_below, F_is_below.bindsN bi_is_below⟩,
    ⟨glo_ok X G (c.d.fact 7 (f := .glo "sign") rfl), fun_of F_sign, F_sign.bindsN bi_sign⟩,
    ⟨glo_ok X G (c.d.fact 8 (f := .glo "is_integer") rfl), fun_of F_is_integer, F_is_integer.bindsN bi_is_integer⟩,
    ⟨glo_ok X G (c.d.fact 9 (f := .glo "is_within") rfl), fun_of F_is_within, F_is_within.bindsN bi_is_within⟩,
    ⟨glo_ok X G (c.d.fact 10 (f := .glo "is_row") rfl), fun_of F_is_row, F_is_row.bindsN bi_is_row⟩,
    ⟨glo_ok X G (c.d.fact 11 (f := .glo "is_pair") rfl), fun_of F_is_pair, F_is_pair.bindsN bi_is_pair⟩,
    ⟨glo_ok X G (c.d.fact 12 (f := .glo "is_number") rfl), fun_of F_is_number, F_is_number.bindsN bi_is_number⟩,
    ⟨glo_ok X G (c.d.fact 13 (f := .glo "is_point") rfl), fun_of F_is_point, F_is_point.bindsN bi_is_point⟩,
    ⟨glo_ok X G (c.d.fact 14 (f := .glo "are_points") rfl), fun_of F_are_points, F_are_points.bindsN bi_are_points⟩,
    ⟨glo_ok X G (c.d.fact 15 (f := .glo "point_of") rfl), fun_of F_point_of, F_point_of.bindsN bi_point_of⟩,
    ⟨glo_ok X G (c.d.fact 16 (f := .glo "way_between") rfl), fun_of F_way_between, F_way_between.bindsN bi_way_between⟩,
    ⟨glo_ok X G (c.d.fact 17 (f := .glo "cross_of") rfl), fun_of F_cross_of, F_cross_of.bindsN bi_cross_of⟩,
    ⟨glo_ok X G (c.d.fact 18 (f := .glo "dot_of") rfl), fun_of F_dot_of, F_dot_of.bindsN bi_dot_of⟩,
    ⟨glo_ok X G (c.d.fact 19 (f := .glo "comes_before") rfl), fun_of F_comes_before, F_comes_before.bindsN bi_comes_before⟩,
    ⟨glo_ok X G (c.d.fact 20 (f := .glo "ratio_in") rfl), fun_of F_ratio_in, F_ratio_in.bindsN bi_ratio_in⟩,
    ⟨glo_ok X G (c.d.fact 21 (f := .glo "determinant_of") rfl), fun_of F_determinant_of, F_determinant_of.bindsN bi_determinant_of⟩,
    ⟨glo_ok X G (c.d.fact 22 (f := .glo "fixed") rfl), fun_of F_fixed, F_fixed.bindsN bi_fixed⟩,
    ⟨glo_ok X G (c.d.fact 23 (f := .glo "sides_of") rfl), fun_of F_sides_of, F_sides_of.bindsN bi_sides_of⟩,
    ⟨glo_ok X G (c.d.fact 24 (f := .glo "_loose") rfl), fun_of F__loose, F__loose.bindsN bi__loose⟩,
    ⟨glo_ok X G (c.d.fact 25 (f := .glo "bend") rfl), fun_of F_bend, F_bend.bindsN bi_bend⟩,
    ⟨glo_ok X G (c.d.fact 26 (f := .glo "_ordered") rfl), fun_of F__ordered, F__ordered.bindsN bi__ordered⟩,
    ⟨glo_ok X G (c.d.fact 27 (f := .glo "_shared_stretch") rfl), fun_of F__shared_stretch, F__shared_stretch.bindsN bi__shared_stretch⟩,
    ⟨glo_ok X G (c.d.fact 28 (f := .glo "common_point") rfl), fun_of F_common_point, F_common_point.bindsN bi_common_point⟩,
    ⟨glo_ok X G (c.d.fact 29 (f := .glo "_corners_in") rfl), fun_of F__corners_in, F__corners_in.bindsN bi__corners_in⟩,
    ⟨glo_ok X G (c.d.fact 30 (f := .glo "_goes_back") rfl), fun_of F__goes_back, F__goes_back.bindsN bi__goes_back⟩,
    ⟨glo_ok X G (c.d.fact 31 (f := .glo "are_next") rfl), fun_of F_are_next, F_are_next.bindsN bi_are_next⟩,
    ⟨glo_ok X G (c.d.fact 32 (f := .glo "_meeting") rfl), fun_of F__meeting, F__meeting.bindsN bi__meeting⟩,
    ⟨glo_ok X G (c.d.fact 33 (f := .glo "_doubled_area") rfl), fun_of F__doubled_area, F__doubled_area.bindsN bi__doubled_area⟩,
    ⟨glo_ok X G (c.d.fact 34 (f := .glo "_judged") rfl), fun_of F__judged, F__judged.bindsN bi__judged⟩,
    ⟨glo_ok X G (c.d.fact 35 (f := .glo "_bends_of") rfl), fun_of F__bends_of, F__bends_of.bindsN bi__bends_of⟩,
    ⟨glo_ok X G (c.d.fact 36 (f := .glo "_fences_in") rfl), fun_of F__fences_in, F__fences_in.bindsN bi__fences_in⟩,
    ⟨glo_ok X G (c.d.fact 37 (f := .glo "_numbered_sides") rfl), fun_of F__numbered_sides, F__numbered_sides.bindsN bi__numbered_sides⟩,
    ⟨glo_ok X G (c.d.fact 38 (f := .glo "judged_fences") rfl), fun_of F_judged_fences, F_judged_fences.bindsN bi_judged_fences⟩,
    ⟨glo_ok X G (c.d.fact 39 (f := .glo "is_side") rfl), fun_of F_is_side, F_is_side.bindsN bi_is_side⟩,
    ⟨glo_ok X G (c.d.fact 40 (f := .glo "check_lot") rfl), fun_of F_check_lot, F_check_lot.bindsN bi_check_lot⟩,
    ⟨glo_ok X G (c.d.fact 41 (f := .glo "four_in") rfl), fun_of F_four_in, F_four_in.bindsN bi_four_in⟩,
    ⟨glo_ok X G (c.d.fact 42 (f := .glo "determinant") rfl), fun_of F_determinant, F_determinant.bindsN bi_determinant⟩,
    ⟨glo_ok X G (c.d.fact 43 (f := .glo "_law_store") rfl), fun_of F__law_store, F__law_store.bindsN bi__law_store⟩,
    ⟨glo_ok X G (c.d.fact 44 (f := .glo "_law_draw") rfl), fun_of F__law_draw, F__law_draw.bindsN bi__law_draw⟩,
    ⟨glo_ok X G (c.d.fact 45 (f := .glo "_law_pick") rfl), fun_of F__law_pick, F__law_pick.bindsN bi__law_pick⟩,
    ⟨glo_ok X G (c.d.fact 46 (f := .glo "_law_gcd") rfl), fun_of F__law_gcd, F__law_gcd.bindsN bi__law_gcd⟩,
    ⟨glo_ok X G (c.d.fact 47 (f := .glo "_law_low") rfl), fun_of F__law_low, F__law_low.bindsN bi__law_low⟩,
    ⟨glo_ok X G (c.d.fact 48 (f := .glo "_law_pt") rfl), fun_of F__law_pt, F__law_pt.bindsN bi__law_pt⟩,
    ⟨glo_ok X G (c.d.fact 49 (f := .glo "_law_is_number") rfl), fun_of F__law_is_number, F__law_is_number.bindsN bi__law_is_number⟩,
    ⟨glo_ok X G (c.d.fact 50 (f := .glo "_law_star") rfl), fun_of F__law_star, F__law_star.bindsN bi__law_star⟩,
    ⟨glo_ok X G (c.d.fact 51 (f := .glo "_law_lot") rfl), fun_of F__law_lot, F__law_lot.bindsN bi__law_lot⟩,
    ⟨glo_ok X G (c.d.fact 52 (f := .glo "_law_sides") rfl), fun_of F__law_sides, F__law_sides.bindsN bi__law_sides⟩,
    ⟨glo_ok X G (c.d.fact 53 (f := .glo "_law_sign") rfl), fun_of F__law_sign, F__law_sign.bindsN bi__law_sign⟩,
    ⟨glo_ok X G (c.d.fact 54 (f := .glo "_law_ratio") rfl), fun_of F__law_ratio, F__law_ratio.bindsN bi__law_ratio⟩,
    ⟨glo_ok X G (c.d.fact 55 (f := .glo "_law_rows") rfl), fun_of F__law_rows, F__law_rows.bindsN bi__law_rows⟩,
    ⟨glo_ok X G (c.d.fact 56 (f := .glo "_law_mirrored") rfl), fun_of F__law_mirrored, F__law_mirrored.bindsN bi__law_mirrored⟩,
    ⟨glo_ok X G (c.d.fact 57 (f := .glo "_law_mirror_side") rfl), fun_of F__law_mirror_side, F__law_mirror_side.bindsN bi__law_mirror_side⟩,
    ⟨glo_ok X G (c.d.fact 58 (f := .glo "_law_refused") rfl), fun_of F__law_refused, F__law_refused.bindsN bi__law_refused⟩,
    ⟨glo_ok X G (c.d.fact 59 (f := .glo "law") rfl), fun_of F_law, F_law.bindsN bi_law⟩,
    low_ok X G (c.d.fact 60 (f := .glo "BadLot") rfl) (a 0 _ rfl) F_BadLot,
    low_ok X G (c.d.fact 61 (f := .glo "BadSides") rfl) (a 1 _ rfl) F_BadSides,
    low_ok X G (c.d.fact 62 (f := .glo "BadRatio") rfl) (a 2 _ rfl) F_BadRatio,
    free_ok X G (c.d.fact 69 (f := .free "len") rfl),
    free_ok X G (c.d.fact 70 (f := .free "abs") rfl),
    free_ok X G (c.d.fact 71 (f := .free "isinstance") rfl),
    free_ok X G (c.d.fact 72 (f := .free "int") rfl),
    free_ok X G (c.d.fact 73 (f := .free "bool") rfl),
    free_ok X G (c.d.fact 74 (f := .free "list") rfl),
    free_ok X G (c.d.fact 75 (f := .free "tuple") rfl),
    free_ok X G (c.d.fact 76 (f := .free "range") rfl),
    free_ok X G (c.d.fact 77 (f := .free "all") rfl),
    free_ok X G (c.d.fact 78 (f := .free "zip") rfl),
    free_ok X G (c.d.fact 79 (f := .free "enumerate") rfl),
    free_ok X G (c.d.fact 80 (f := .free "super") rfl),
    free_ok X G (c.d.fact 81 (f := .free "type") rfl),
    gcd_ok X G (a 3 _ rfl),
    glo_ok X G (c.d.fact 63 (f := .glo "ZERO") rfl),
    fun H => tupB_ok (a 4 _ rfl) H,
    glo_ok X G (c.d.fact 64 (f := .glo "BENDS") rfl),
    (fun k hk => hk.elim (fun e => by subst e; exact kint_ok (a 5 _ rfl)) fun hk => hk.elim (fun e => by subst e; exact kint_ok (a 6 _ rfl)) fun e => by subst e; exact kint_ok (a 7 _ rfl)),
    int_ok X G (c.d.fact 82 (f := .int "FEWEST_CORNERS" 3) rfl),
    int_ok X G (c.d.fact 83 (f := .int "MOST_CORNERS" 40) rfl),
    int_ok X G (c.d.fact 84 (f := .int "MOST_FENCES" 6) rfl),
    int_ok X G (c.d.fact 85 (f := .int "MOST_SIDES" 60) rfl),
    ⟨fun_of F_Paper_bool, F_Paper_bool.bindsN bi_Paper_bool⟩,
    ⟨fun_of F_Fence_init, F_Fence_init.bindsN bi_Fence_init⟩,
    ⟨fun_of F_Fence_len, F_Fence_len.bindsN bi_Fence_len⟩,
    ⟨fun_of F_Lot_init, F_Lot_init.bindsN bi_Lot_init⟩,
    ⟨fun_of F_Lot_side, F_Lot_side.bindsN bi_Lot_side⟩,
    fun_of F_Paper_init,
    U_Closed,
    U_Apart,
    (fun T hT => hT.elim (fun e => by subst e; exact of_decide_eq_true (a 10 _ rfl)) fun hT => hT.elim (fun e => by subst e; exact of_decide_eq_true (a 11 _ rfl)) fun e => by subst e; exact of_decide_eq_true (a 12 _ rfl)),
    B_Closed,
    B_Apart,
    cls_ok (c.d.fact 86 (f := .cls "Closed") rfl),
    cls_ok (c.d.fact 88 (f := .cls "Fence") rfl),
    cls_ok (c.d.fact 90 (f := .cls "Lot") rfl),
    cls_ok (c.d.fact 92 (f := .cls "Apart") rfl),
    noat_ok (c.d.fact 94 (f := .noat "Closed" "word") rfl),
    noat_ok (c.d.fact 95 (f := .noat "Closed" "parts") rfl),
    noat_ok (c.d.fact 96 (f := .noat "Closed" "is_left") rfl),
    noat_ok (c.d.fact 97 (f := .noat "Apart" "word") rfl),
    noat_ok (c.d.fact 98 (f := .noat "Apart" "parts") rfl),
    noat_ok (c.d.fact 99 (f := .noat "Fence" "corners") rfl),
    noat_ok (c.d.fact 100 (f := .noat "Fence" "sides") rfl),
    noat_ok (c.d.fact 101 (f := .noat "Fence" "area") rfl),
    noat_ok (c.d.fact 102 (f := .noat "Fence" "bends") rfl),
    noat_ok (c.d.fact 103 (f := .noat "Lot" "fences") rfl),
    noat_ok (c.d.fact 104 (f := .noat "Lot" "sides") rfl),
    mkr_ok (c.d.fact 87 (f := .mkr "Closed") rfl),
    mkr_ok (c.d.fact 89 (f := .mkr "Fence") rfl),
    mkr_ok (c.d.fact 91 (f := .mkr "Lot") rfl),
    mkr_ok (c.d.fact 93 (f := .mkr "Apart") rfl),
    glo_ok X G (c.d.fact 65 (f := .glo "Closed") rfl),
    glo_ok X G (c.d.fact 66 (f := .glo "Fence") rfl),
    glo_ok X G (c.d.fact 67 (f := .glo "Lot") rfl),
    glo_ok X G (c.d.fact 68 (f := .glo "Apart") rfl),
    eqO_ok (a 13 _ rfl),
    eqO_ok (a 14 _ rfl),
    of_decide_eq_true (a 15 _ rfl),
    eqO_ok (a 16 _ rfl),
    of_decide_eq_true (a 17 _ rfl),
    meth_ok (c.d.fact 105 (f := .meth "Lot" "side") rfl),
    ins_ok (a 8 _ rfl),
    ins_ok (a 9 _ rfl),
    of_decide_eq_true (a 18 _ rfl),
    of_decide_eq_true (a 19 _ rfl),
    exm_ok (c.d.fact 106 (f := .exm "BadSides" "BadLot" false) rfl),
    exm_ok (c.d.fact 107 (f := .exm "BadRatio" "BadLot" false) rfl),
    exm_ok (c.d.fact 108 (f := .exm "BadRatio" "BadSides" false) rfl)⟩, rfl⟩
end Odd
open PySem PySem.W PySem.Calls PyProof.Rows
set_option maxHeartbeats 0 in
theorem PySem.Challenge.cw_oddsquares_k14_determinants_of_four_side_holds : PySem.Challenge.rw_oddsquares_k14_determinants_of_four_side.Holds := by
  w_on; o_law
  refine HandSHeadRun.head_imp (r := OpenLaw.row PySem.Challenge.rw_oddsquares_k14_determinants_of_four_side) (q := view (OpenLaw.row PySem.Challenge.rw_oddsquares_k14_determinants_of_four_side).prog [0, 107]) (H := Odd.hk) (ob := Odd.obH) (M := 30000) (loose := Odd.names) (d := HandSHeadRun.topDef (OpenLaw.row PySem.Challenge.rw_oddsquares_k14_determinants_of_four_side).prog 107) (kwd := []) Odd.obH_eq Odd.run (by kernel_rfl) (by kernel_rfl) (by kernel_rfl) (by rfl) (by first | assumption | decide +kernel) (by decide +kernel) ⟨rfl, rfl, rfl, rfl, rfl, by decide +kernel⟩ ?hw ?hc
  case hw => w_witness2
  case hc =>
    refine L2.walk_ofE (l := PySem.Challenge.rw_oddsquares_k14_determinants_of_four_side) (n := 63) (k := 13) (x := "script") (CX := L2.CX0) rfl (by decide) (by kernel_rfl) ⟨rfl, by decide, by decide⟩ ?F (fun _ _ _ _ z => z)
    intro w mg fa h Y G hmg0
    obtain ⟨K, KX, c⟩ := Y
    have hmg : mg ("law" : PySem.Str) = some (.ref fa) := by
      have e : (HandSHeadRun.topDef (OpenLaw.row PySem.Challenge.rw_oddsquares_k14_determinants_of_four_side).prog 107).name = ("law" : PySem.Str) := by kernel_rfl
      rw [← e]
      exact hmg0
    obtain ⟨A, T, hA⟩ := Odd.facts KX G c
    have e := hmg.symm.trans T.law.g
    rw [hA] at e
    injection e with e
    injection e with e
    subst e
    refine ⟨K, A.d_law, Odd.spLaw K, KX, ?_, fun H a ns hl _ hS => ⟨a, ns, rfl, hS, hl, fun _ => rfl⟩, fun base _ _ => by rw [← hA]; exact Odd.ok_law T⟩
    intro s v
    obtain ⟨oc, od, kV, doc, pm, an, cdv, ct, osl, ed, lk, hcd⟩ := T.law.F.ex
    rw [ed]
    exact .of_eq rfl
#print axioms PySem.Challenge.cw_oddsquares_k14_determinants_of_four_side_holds
