import PyProof.Rows.All
import Wide.All
import OpenK.AllK
import Wide.FinOn
import HandS.ForMost
import HandS.ForExc
import HandS.Gcd
import HandS.Wide
import HandS.IsInst
import HandS.Style
import HandS.RaiseMore
import HandS.Defaults
import HandS.TryOnly
import KE.KExcIs
import HandS.ExcIs
import PyProof.ReprRoads
import HandS.StrMore
import HandS.FStr
import HandS.MapJoin
import HandS.Codes
import HandS.Walk
import HandS.Deep
import PySem.Challenge.RW_oddsquares_k04_texts_of_numbers_and_poin
set_option Elab.async false
set_option linter.all false
set_option maxRecDepth 100000
set_option maxHeartbeats 4000000
namespace Odd
open PySem PySem.Spec PyProof.Rows L2

/-! ### numbers -/
def Canon (p : Int × Int) : Prop := 1 ≤ p.2 ∧ Nat.gcd p.1.natAbs p.2.natAbs = 1
def IsLow (t u : Int) (p : Int × Int) : Prop := Canon p ∧ p.1 * u = t * p.2
def low (t u : Int) : Int × Int := if u < 0 then (t.fdiv (-(Nat.gcd t.natAbs u.natAbs : Int)), u.fdiv (-(Nat.gcd t.natAbs u.natAbs : Int))) else (t.fdiv (Nat.gcd t.natAbs u.natAbs : Int), u.fdiv (Nat.gcd t.natAbs u.natAbs : Int))

theorem low_pos {t u : Int} (h : 0 < u) : ∃ g : Int, 0 < g ∧ t = g * (low t u).1 ∧ u = g * (low t u).2 ∧ Nat.gcd (low t u).1.natAbs (low t u).2.natAbs = 1 := by
  have hg : 0 < Nat.gcd t.natAbs u.natAbs := Nat.gcd_pos_of_pos_right _ (by omega)
  have d1 : ((Nat.gcd t.natAbs u.natAbs : Nat) : Int) ∣ t := Int.ofNat_dvd_left.mpr (Nat.gcd_dvd_left _ _)
  have d2 : ((Nat.gcd t.natAbs u.natAbs : Nat) : Int) ∣ u := Int.ofNat_dvd_left.mpr (Nat.gcd_dvd_right _ _)
  have e1 := Int.mul_fdiv_cancel' d1
  have e2 := Int.mul_fdiv_cancel' d2
  have el : low t u = (t.fdiv (Nat.gcd t.natAbs u.natAbs : Int), u.fdiv (Nat.gcd t.natAbs u.natAbs : Int)) := by
    unfold low
    rw [if_neg (by omega)]
  refine ⟨(Nat.gcd t.natAbs u.natAbs : Int), by omega, ?_, ?_, ?_⟩
  · rw [el]; exact e1.symm
  · rw [el]; exact e2.symm
  · rw [el]
    have a1 : t.natAbs = Nat.gcd t.natAbs u.natAbs * (t.fdiv (Nat.gcd t.natAbs u.natAbs : Int)).natAbs := by
      have := congrArg Int.natAbs e1
      rw [Int.natAbs_mul] at this
      exact this.symm
    have a2 : u.natAbs = Nat.gcd t.natAbs u.natAbs * (u.fdiv (Nat.gcd t.natAbs u.natAbs : Int)).natAbs := by
      have := congrArg Int.natAbs e2
      rw [Int.natAbs_mul] at this
      exact this.symm
    have a3 : Nat.gcd t.natAbs u.natAbs = Nat.gcd t.natAbs u.natAbs * Nat.gcd (t.fdiv (Nat.gcd t.natAbs u.natAbs : Int)).natAbs (u.fdiv (Nat.gcd t.natAbs u.natAbs : Int)).natAbs := by
      rw [← Nat.gcd_mul_left, ← a1, ← a2]
    exact Nat.eq_of_mul_eq_mul_left hg (by rw [Nat.mul_one]; exact a3.symm)
theorem low_neg {t u : Int} (h : u < 0) : low t u = low (-t) (-u) := by
  unfold low
  rw [if_pos h, if_neg (by omega), Int.natAbs_neg, Int.natAbs_neg]
  have k : ∀ x : Int, x.fdiv (-((Nat.gcd t.natAbs u.natAbs : Nat) : Int)) = (-x).fdiv ((Nat.gcd t.natAbs u.natAbs : Nat) : Int) := fun x => by
    have q := Int.neg_fdiv_neg (-x) ((Nat.gcd t.natAbs u.natAbs : Nat) : Int)
    rw [Int.neg_neg] at q
    exact q
  rw [k t, k u]
theorem natAbs_mul_le {g x y : Int} (hg : g ≠ 0) (e : x = g * y) : y.natAbs ≤ x.natAbs := by
  rw [e, Int.natAbs_mul]
  exact Nat.le_mul_of_pos_left _ (by omega)
/-- what lowest makes -/
theorem low_is {t u : Int} (h : u ≠ 0) : IsLow t u (low t u) ∧ (low t u).1.natAbs ≤ t.natAbs ∧ (low t u).2.natAbs ≤ u.natAbs := by
  have pos : ∀ t u : Int, 0 < u → IsLow t u (low t u) ∧ (low t u).1.natAbs ≤ t.natAbs ∧ (low t u).2.natAbs ≤ u.natAbs := fun t u hu => by
    obtain ⟨g, hg, e1, e2, e3⟩ := low_pos (t := t) hu
    generalize low t u = q at *
    obtain ⟨a, b⟩ := q
    dsimp only at *
    have hb : 0 < b := by
      rcases Int.lt_or_le 0 b with x | x
      · exact x
      · have : g * b ≤ 0 := Int.mul_nonpos_of_nonneg_of_nonpos (by omega) x
        omega
    refine ⟨⟨⟨by show 1 ≤ b; omega, e3⟩, ?_⟩, natAbs_mul_le (by omega) e1, natAbs_mul_le (by omega) e2⟩
    show a * u = t * b
    rw [e1, e2, ← Int.mul_assoc, Int.mul_comm a g]
  rcases Int.lt_or_le 0 u with hu | hu
  · exact pos t u hu
  · have hn : u < 0 := by omega
    obtain ⟨⟨c, e⟩, l1, l2⟩ := pos (-t) (-u) (by omega)
    rw [low_neg hn]
    rw [Int.natAbs_neg] at l1 l2
    refine ⟨⟨c, ?_⟩, l1, l2⟩
    rw [Int.mul_neg, Int.neg_mul] at e
    omega
/-- two pairs in lowest terms that are the same number are the same pair -/
theorem canon_eq {p q : Int × Int} (hp : Canon p) (hq : Canon q) (e : p.1 * q.2 = q.1 * p.2) : p = q := by
  obtain ⟨a, b⟩ := p
  obtain ⟨c, d⟩ := q
  obtain ⟨hb, g1⟩ := hp
  obtain ⟨hd, g2⟩ := hq
  dsimp only at *
  have n : a.natAbs * d.natAbs = c.natAbs * b.natAbs := by
    have := congrArg Int.natAbs e
    rwa [Int.natAbs_mul, Int.natAbs_mul] at this
  have d1 : d.natAbs ∣ b.natAbs := (Nat.Coprime.symm g2 : Nat.Coprime d.natAbs c.natAbs).dvd_of_dvd_mul_left ⟨a.natAbs, by rw [← n, Nat.mul_comm]⟩
  have d2 : b.natAbs ∣ d.natAbs := (Nat.Coprime.symm g1 : Nat.Coprime b.natAbs a.natAbs).dvd_of_dvd_mul_left ⟨c.natAbs, by rw [n, Nat.mul_comm]⟩
  have ebd : b = d := by
    have := Nat.dvd_antisymm d2 d1
    omega
  subst ebd
  have : a = c := Int.eq_of_mul_eq_mul_right (by omega) e
  rw [this]
/-- the pair in lowest terms of a pair in lowest terms is itself -/
theorem IsLow.uniq {t u : Int} {p q : Int × Int} (hu : u ≠ 0) (hp : IsLow t u p) (hq : IsLow t u q) : p = q := by
  refine canon_eq hp.1 hq.1 ?_
  refine Int.eq_of_mul_eq_mul_right hu ?_
  have e1 := hp.2
  have e2 := hq.2
  calc p.1 * q.2 * u = (p.1 * u) * q.2 := by rw [Int.mul_assoc, Int.mul_comm q.2 u, ← Int.mul_assoc]
    _ = t * p.2 * q.2 := by rw [e1]
    _ = (t * q.2) * p.2 := by rw [Int.mul_assoc, Int.mul_comm p.2 q.2, ← Int.mul_assoc]
    _ = q.1 * u * p.2 := by rw [e2]
    _ = q.1 * p.2 * u := by rw [Int.mul_assoc, Int.mul_comm u p.2, ← Int.mul_assoc]

/-! ### rules -/
def CDivX (_ j : Int) : Prop := j ≠ 0 ∧ j.natAbs.log2 < 9000
theorem op_fdivX {X : Cx} : OpR X (binaryOp .FloorDiv) (rI CDivX fun i j => .int (i.fdiv j)) := opI fun i j _ _ _ _ _ hc q => floordiv_int hc.1 q (.inl (PyProof.noPylong_of_log2 hc.2))
theorem divx {j : Int} {b : Nat} (h : j ≠ 0) (hb : j.natAbs < 2 ^ b) (h0 : 0 < b) (h9 : b ≤ 9000) : CDivX i j := ⟨h, Nat.lt_of_lt_of_le (PySem.Flt.log2_lt_of h0 hb) h9⟩

/-! ### heaps -/
theorem same_upd {H : Hp} {p : Addr} {o : HO} (h : H p = none) : Same H (upd H p o) := fun b x e => by
  rw [upd_ne (ne_of_none e h)]
  exact e
theorem same_tup {K : PySem.W.Frag} {H H' : Hp} {a : Addr} {xs : List V} (e : Same H H') (h : SqT K H a xs) : SqT K H' a xs := by
  rcases h with (h | ⟨o, h⟩) | h
  · exact .inl (.inl (e _ _ h))
  · exact .inl (.inr ⟨o, e _ _ h⟩)
  · exact .inr h
/-- all but the object at u stands as it stood -/
def But (u : Addr) (H H' : Hp) : Prop := (∀ b, b ≠ u → ∀ o, H b = some o → H' b = some o) ∧ ∀ c ys, H u = some (.lst (c :: ys)) → ∃ ys', H' u = some (.lst (c :: ys'))
theorem same_but {u : Addr} {H H' : Hp} (s : Same H H') : But u H H' := ⟨fun b _ o e => s b o e, fun c ys e => ⟨ys, s _ _ e⟩⟩
theorem But.trans {u : Addr} {H H1 H2 : Hp} (a : But u H H1) (b : But u H1 H2) : But u H H2 := ⟨fun c n o h => b.1 c n o (a.1 c n o h), fun c ys e => by obtain ⟨y1, e1⟩ := a.2 c ys e; exact b.2 c y1 e1⟩
theorem But.refl (u : Addr) (H : Hp) : But u H H := ⟨fun _ _ _ h => h, fun c ys e => ⟨ys, e⟩⟩
theorem but_upd {u : Addr} {H : Hp} {c : V} {xs ys : List V} (h : H u = some (.lst (c :: xs))) : But u H (upd H u (.lst (c :: ys))) := ⟨fun b nb o e => by rw [upd_ne nb]; exact e, fun c' y' e => by rw [h] at e; cases e; exact ⟨ys, upd_same⟩⟩
theorem But.tup {K : PySem.W.Frag} {u : Addr} {H H' : Hp} {a : Addr} {xs : List V} {ys : List V} (s : But u H H') (hu : H u = some (.lst ys)) (h : SqT K H a xs) : SqT K H' a xs := by
  rcases h with (h | ⟨o, h⟩) | h
  · exact .inl (.inl (s.1 _ (ne_of h hu (by intro z; cases z)) _ h))
  · exact .inl (.inr ⟨o, s.1 _ (ne_of h hu (by intro z; cases z)) _ h⟩)
  · exact .inr h
theorem But.lst {K : PySem.W.Frag} {u : Addr} {H H' : Hp} {a : Addr} {xs : List V} {ys : List V} (s : But u H H') (hu : H u = some (.lst ys)) (d : xs ≠ ys) (h : SqL K H a xs) : SqL K H' a xs := by
  rcases h with (h | ⟨o, h⟩) | h
  · exact .inl (.inl (s.1 _ (ne_of h hu (by intro z; injection z with z; exact d z)) _ h))
  · exact .inl (.inr ⟨o, s.1 _ (ne_of h hu (by intro z; cases z)) _ h⟩)
  · exact .inr h

/-! ### what a value is -/
inductive TyN (K : PySem.W.Frag) (H : Hp) : V → String → Prop
  | non : TyN K H .non "NoneType"
  | bl (b : Bool) : TyN K H (.bl b) "bool"
  | int (i : Int) : TyN K H (.int i) "int"
  | str (x : Str) : TyN K H (.str x) "str"
  | lst {p : Addr} {xs : List V} (h : SqL K H p xs) : TyN K H (.ref p) "list"
  | tup {p : Addr} {xs : List V} (h : SqT K H p xs) : TyN K H (.ref p) "tuple"
  | dict {p : Addr} {kvs : List (Key × V)} (h : H p = some (.dK kvs)) : TyN K H (.ref p) "dict"
theorem TyN.x {K : PySem.W.Frag} {H : Hp} {v : V} {T : String} (h : TyN K H v T) : TyX K H v (.type T) := by
  cases h with
  | non => exact .base .non
  | bl b => exact .base (.bl b)
  | int i => exact .base (.int i)
  | str x => exact .base (.str x)
  | lst h =>
    rcases h with (h | ⟨o, h⟩) | ⟨o, its, n, h, c, _⟩
    · exact .base (.lst h)
    · exact .base (.frz h)
    · exact .kList h c
  | tup h =>
    rcases h with (h | ⟨o, h⟩) | ⟨o, its, n, h, c, _⟩
    · exact .base (.tup h)
    · exact .fTuple h
    · exact .kTuple h c
  | dict h => exact .base (.dK h)
theorem TyN.same {K : PySem.W.Frag} {H H' : Hp} {v : V} {T : String} (s : Same H H') (h : TyN K H v T) : TyN K H' v T := by
  cases h with
  | non => exact .non
  | bl b => exact .bl b
  | int i => exact .int i
  | str x => exact .str x
  | lst h => exact .lst (s.seq h)
  | tup h => exact .tup (same_tup s h)
  | dict h => exact .dict (s _ _ h)
/-- a list or a tuple of these values -/
def Sq (K : PySem.W.Frag) (H : Hp) (p : Addr) (xs : List V) : Prop := SqL K H p xs ∨ SqT K H p xs
theorem Sq.same {K : PySem.W.Frag} {H H' : Hp} {p : Addr} {xs : List V} (s : Same H H') (h : Sq K H p xs) : Sq K H' p xs := by
  rcases h with h | h
  · exact .inl (s.seq h)
  · exact .inr (same_tup s h)
theorem Sq.but {K : PySem.W.Frag} {u : Addr} {H H' : Hp} {p : Addr} {xs ys : List V} (s : But u H H') (hu : H u = some (.lst ys)) (d : xs ≠ ys) (h : Sq K H p xs) : Sq K H' p xs := by
  rcases h with h | h
  · exact .inl (s.lst hu d h)
  · exact .inr (s.tup hu h)
/-- a pair of integers as a list or a tuple in lowest terms, or an integer: a number -/
inductive Num (K : PySem.W.Frag) (H : Hp) : V → Int × Int → Prop
  | int (n : Int) : Num K H (.int n) (n, 1)
  | sq {p : Addr} {a b : Int} (h : Sq K H p [.int a, .int b]) (c : Canon (a, b)) : Num K H (.ref p) (a, b)
theorem Num.same {K : PySem.W.Frag} {H H' : Hp} {v : V} {q : Int × Int} (s : Same H H') (h : Num K H v q) : Num K H' v q := by
  cases h with
  | int n => exact .int n
  | sq h c => exact .sq (h.same s) c
theorem Num.but {K : PySem.W.Frag} {u : Addr} {H H' : Hp} {v : V} {q : Int × Int} {c : Addr} {ys : List V} (s : But u H H') (hu : H u = some (.lst (.ref c :: ys))) (h : Num K H v q) : Num K H' v q := by
  cases h with
  | int n => exact .int n
  | sq h c => exact .sq (h.but s hu (by intro z; cases z)) c
theorem Num.canon {K : PySem.W.Frag} {H : Hp} {v : V} {q : Int × Int} (h : Num K H v q) : Canon q := by
  cases h with
  | int n => exact ⟨by show (1 : Int) ≤ 1; omega, Nat.gcd_one_right _⟩
  | sq h c => exact c
/-- a tuple that is a number -/
def Pr (K : PySem.W.Frag) (H : Hp) (v : V) (q : Int × Int) : Prop := ∃ p, v = .ref p ∧ SqT K H p [.int q.1, .int q.2]
theorem Pr.same {K : PySem.W.Frag} {H H' : Hp} {v : V} {q : Int × Int} (s : Same H H') (h : Pr K H v q) : Pr K H' v q := by
  obtain ⟨p, e, h⟩ := h
  exact ⟨p, e, same_tup s h⟩
theorem Pr.but {K : PySem.W.Frag} {u : Addr} {H H' : Hp} {v : V} {q : Int × Int} {ys : List V} (s : But u H H') (hu : H u = some (.lst ys)) (h : Pr K H v q) : Pr K H' v q := by
  obtain ⟨p, e, h⟩ := h
  exact ⟨p, e, s.tup hu h⟩
theorem Pr.num {K : PySem.W.Frag} {H : Hp} {v : V} {q : Int × Int} (h : Pr K H v q) (c : Canon q) : Num K H v q := by
  obtain ⟨p, rfl, h⟩ := h
  exact .sq (.inr h) c
/-- what is no number -/
inductive Bad (K : PySem.W.Frag) (H : Hp) : V → Prop
  | scal {v : V} {T : String} (h : TyN K H v T) (h1 : T ≠ "int") (h2 : T ≠ "list") (h3 : T ≠ "tuple") : Bad K H v
  | len {p : Addr} {xs : List V} (h : Sq K H p xs) (l : xs.length ≠ 2) : Bad K H (.ref p)
  | top {p : Addr} {x y : V} {T U : String} (h : Sq K H p [x, y]) (hx : TyN K H x T) (hT : T ≠ "int") (hy : TyN K H y U) : Bad K H (.ref p)
  | und {p : Addr} {a : Int} {y : V} {U : String} (h : Sq K H p [.int a, y]) (hy : TyN K H y U) (hU : U ≠ "int") : Bad K H (.ref p)
  | low {p : Addr} {a b : Int} (h : Sq K H p [.int a, .int b]) (c : ¬ Canon (a, b)) : Bad K H (.ref p)
theorem Bad.same {K : PySem.W.Frag} {H H' : Hp} {v : V} (s : Same H H') (h : Bad K H v) : Bad K H' v := by
  cases h with
  | scal h h1 h2 h3 => exact .scal (h.same s) h1 h2 h3
  | len h l => exact .len (h.same s) l
  | top h hx hT hy => exact .top (h.same s) (hx.same s) hT (hy.same s)
  | und h hy hU => exact .und (h.same s) (hy.same s) hU
  | low h c => exact .low (h.same s) c
/-- of so many bits -/
def Sm (N : Nat) (q : Int × Int) : Prop := q.1.natAbs < 2 ^ N ∧ q.2.natAbs < 2 ^ N
/-- hands back a number as a tuple -/
def RetP (K : PySem.W.Frag) (H : Hp) (q : Int × Int) (Q : VK) : Prop := ∀ H' p, Same H H' → SqT K H' p [.int q.1, .int q.2] → Q (.ref p) H'
/-- hands back a value -/
def RetV (H : Hp) (v : V) (Q : VK) : Prop := ∀ H', Same H H' → Q v H'
/-- raises an error of the class at C with this part -/
def RaiseP (H : Hp) (C : Addr) (part : V) (E : XK) : Prop := ∀ H' d, Same H H' → H' d = some (.xd [(("part" : Str), part)]) → E (.ref C) (some d) H'
theorem RetP.same {K : PySem.W.Frag} {H H' : Hp} {q : Int × Int} {Q : VK} (s : Same H H') (h : RetP K H q Q) : RetP K H' q Q := fun H2 p s2 e => h H2 p (s.trans s2) e
theorem RetV.same {H H' : Hp} {v : V} {Q : VK} (s : Same H H') (h : RetV H v Q) : RetV H' v Q := fun H2 s2 => h H2 (s.trans s2)
theorem RaiseP.same {H H' : Hp} {C : Addr} {part : V} {E : XK} (s : Same H H') (h : RaiseP H C part E) : RaiseP H' C part E := fun H2 d s2 e => h H2 d (s.trans s2) e
theorem st_of {K : PySem.W.Frag} {H : Hp} {a : Addr} {xs : List V} (h : H a = some (.tup xs)) : SqT K H a xs := .inl (.inl h)
theorem sl_of {K : PySem.W.Frag} {H : Hp} {a : Addr} {xs : List V} (h : H a = some (.lst xs)) : SqL K H a xs := .inl (.inl h)
theorem bt_len : bootBuiltins "len" = some (.builtin "len") := by decide +kernel
theorem bt_abs : bootBuiltins "abs" = some (.builtin "abs") := by decide +kernel
theorem bt_repr : bootBuiltins "repr" = some (.builtin "repr") := by decide +kernel
theorem bt_isinstance : bootBuiltins "isinstance" = some (.builtin "isinstance") := by decide +kernel
theorem bt_int : bootBuiltins "int" = some (.type "int") := by decide +kernel
theorem bt_bool : bootBuiltins "bool" = some (.type "bool") := by decide +kernel
theorem bt_str : bootBuiltins "str" = some (.type "str") := by decide +kernel
theorem bt_list : bootBuiltins "list" = some (.type "list") := by decide +kernel
theorem bt_tuple : bootBuiltins "tuple" = some (.type "tuple") := by decide +kernel
theorem bt_all : bootBuiltins "all" = some (.builtin "all") := by decide +kernel
theorem bt_range : bootBuiltins "range" = some (.type "range") := by decide +kernel
section
variable {X : Cx} {CX : CXT} {k : Nat} {f : Addr} {fd : FuncData} {ps ks : List Str} {sp : Sp} {E : XK} {x : Str} {p pos : Pos} {kws : List Keyword} {tk : TA} {g : List Value → List Value → List Value} {gV : List V → List V → List V}
/-- f(k = v, ..) -/
theorem pe_callK0 (F : FnOk X.prog X.w X.K X.mg X.base CX k f fd ps sp) (hr : Room k X.A) (hg : Gl X x) (hm : X.mg x = some (.ref f)) (hk : PySem.W.keepIn X.K (.ref f) = true) (hb : KBinds X.K fd ps ks g gV) (hx : Passes CX X E)
    (hkw : PK X kws tk) (hall : (backToKw pos (keywordEach kws X.env)).all (·.1.isSome) = true := by rfl) (hks : (backToKw pos (keywordEach kws X.env)).filterMap (·.1) = ks := by rfl)
    (hdb : (x == ("__debug__" : Str)) = false := by decide) (hpl : ((backTo pos (starEach [] X.env)).any (·.1) || (backToKw pos (keywordEach kws X.env)).any (·.1.isNone)) = false := by rfl) :
    PE X (.Call (.Name x p) [] kws pos) (tCallK sp gV E tNil tk) := by
  refine ⟨fun pins s σ H Q I h => ?_⟩
  refine wpAny_Call_Name_kw (ld_glob I hg hm ?_ hdb)
  refine PySem.W.callWith_KW0 (h₀ := X.base) I.ok.mod.kin hk hall (thn (hkw.run pos pins s σ H _ I h) fun ws s2 ⟨zs, H2, I2, rz, q2⟩ => ⟨I2.kIn, ?_⟩) hpl
  rw [hks]
  exact run_fnk (us := []) F hr hb hx I2 .nil rz q2
/-- repr of a bool, of an int -/
theorem call_reprX : CallR X (.builtin "repr") (fun xs H Q => (∃ i : Int, xs = [.int i] ∧ i.natAbs.log2 < 1920 ∧ Q (.str (toString i)) H) ∨ ∃ b : Bool, xs = [.bl b] ∧ Q (.str (if b then "True" else "False")) H) := by
  intro pins s σ H xs us Q I r h
  rcases h with h | ⟨b, rfl, q⟩
  · exact SkE.call_repr_int pins s σ H xs us Q I r h
  · obtain ⟨u, rfl, e⟩ := vals1 r
    cases e
    exact PySem.P.repr_of_bool (by cases b <;> exact ⟨.str _, H, I.tok _, ⟨_, rfl⟩, q⟩)
end
end Odd
namespace PySem
namespace LowX
open PySem.W PySem.Calls PyProof.Rows PySem.HandSPX
/-! ### the text of __init__ -/
def iA (p1 p2 : Pos) : Arguments := { posonlyargs := [], args := [{ arg := "self", annotation := none, pos := p1 }, { arg := "part", annotation := none, pos := p2 }], vararg := none, kwonlyargs := [], kw_defaults := [], kwarg := none, defaults := [] }
def iB (q1 q2 q3 q4 : Pos) : List Stmt := [.Assign [.Attribute (.Name "self" q1) "part" q2] (.Name "part" q3) q4]
def iS : Scope := { kind := .function, names := [(PySem.Str.ofString "self", .local), (PySem.Str.ofString "part", .local)], isGenerator := false, isCoroutine := false, more := [] }
/-- what the written part says of Low, at C, and of its __init__, at fI -/
structure LowTxt (nx qn : Str) (K : Frag) (mg : Str → Option Value) (C fI : Addr) : Prop where
  gC : mg nx = some (.ref C)
  cls : ∃ nm q N bs bm sn sub ab col dd k0 k1 k2 k3 k5, K.lookup C = some (excClassObj nm q C N bs bm true sn sub ab col dd k0 k1 k2 k3 k5 "ValueError.__new__") ∧ refsVE bm = true
  sa : findIn K (.ref C) "__setattr__" = some (some (.builtin "object.__setattr__"))
  ga : findIn K (.ref C) "__getattribute__" = some (some (.builtin "BaseException.__getattribute__"))
  gg : findIn K (.ref C) "__getattr__" = some none
  noN : findIn K (.ref C) "part" = some none
  iC : findIn K (.ref C) "__init__" = some (some (.ref fI))
  tC : typeIn K (.ref fI) = some (.type "function")
  kC : keepIn K (.ref C) = true
  exC : subIn K (.ref C) (.type "BaseException") = some true
  tyC : typeIn K (.ref C) = some (.type "type")
  hdC : hasDictIn K C = true
  te : exmOne K (.ref C) (.ref C) = some true
  fn : ∃ (oc : Value) (od : Option Addr) (doc pm : Value) (an : Option Addr) (cdv ct : Value) (osl : Array (Option Value)) (p1 p2 q1 q2 q3 q4 : Pos),
    K.lookup fI = some ⟨oc, od, .func (fnOf "__init__" qn (iA p1 p2) (iB q1 q2 q3 q4) iS .none .none doc pm an cdv ct), osl⟩ ∧ codeIn K cdv qn = true
theorem one_size (v : Value) : [v].length ≤ sizeLine := by
  rw [sizeLine_eq]
  exact (by decide : 1 ≤ 16777216)
theorem kept_but {K : Frag} {h h' : Heap} {x : Addr} (X : K.In h) (hx : K.lookup x = none) (k : ∀ b o, b ≠ x → h.get? b = some o → h'.get? b = some o) : K.In h' := fun a o e =>
  k a o (fun z => by rw [z, hx] at e; cases e) (X a o e)
theorem ldC {M : Model} {s : Shared} {name : Str} {scope : Scope} {L a : Addr} {cd : Value} {m : Str → Option Value} {x : Str} {pos : Pos} {v : Value} {Q : Value → Shared → Prop} {A : Around} {E : Value → Shared → Prop} (hn : s.heap.Ns L m) (hv : m x = some v) (h : Q v s)
    (hk : scope.kind = .function := by rfl) (hl : (envOfC name scope L a cd).kindOf x = some .local := by rfl) (hd : (x == ("__debug__" : Str)) = false := by decide) :
    wpAny M A (eval (.Name x pos) (envOfC name scope L a cd)) Q E s := wpAny_Name (wpAny_loadName_local hk hl hn hv h) hd
/-- what __init__ leaves of a fresh exception at x -/
structure InitEnd (h h' : Heap) (x C dx t1 : Addr) (v : Value) : Prop where
  keep : ∀ b o, b ≠ x → h.get? b = some o → h'.get? b = some o
  obj : h'.get? x = some { cls := .ref C, dict := some dx, data := .fields #[.ref t1, .none, .none, .none, .bool false, .none] }
  dbig : h.objs.size ≤ dx
  dne : dx ≠ x
  ns : h'.Ns1 dx (fun y => if y = "part" then some v else none)
/-- a made Low -/
structure OwnMade (h h' : Heap) (e C d : Addr) (v : Value) : Prop where
  keep : ∀ b o, h.get? b = some o → h'.get? b = some o
  new : h.objs.size ≤ e
  obj : ∃ oe vs, h'.get? e = some oe ∧ oe.cls = .ref C ∧ oe.dict = some d ∧ oe.data = .fields vs ∧ vs[1]? = some .none
  dbig : h.objs.size ≤ d
  dne : d ≠ e
  ns : h'.Ns1 d (fun y => if y = "part" then some v else none)
section
variable {prog : Program} {w : World} {A : Around} {E : Value → Shared → Prop} {R : Result → Shared → Prop} {s : Shared} {K : Frag} {mg : Str → Option Value} {C fI : Addr} {nx qn : Str}
theorem low_init (T : LowTxt nx qn K mg C fI) {x t0 : Addr} {v : Value} (X : K.In s.heap) (hlim : s.heap.NoLimit) (hx : s.heap.get? x = some (excO C t0)) (hnx : K.lookup x = none) (hroom : A.depth < recursionLimit)
    (hq : ∀ h' tk dx, InitEnd s.heap h' x C dx t0 v → R (.ok (.ret .none)) { s with heap := h', toks := tk }) :
    codeAny (model prog w) A (.call (.ref fI) ⟨[.ref x, v], []⟩) R s := by
  obtain ⟨oc, od, doc, pm, an, cdv, ct, osl, p1, p2, q1, q2, q3, q4, ho, hcd⟩ := T.fn
  obtain ⟨nm, q, N, bs, bm, sn, sub, ab, col, dd, k0, k1, k2, k3, k5, hC, hbm⟩ := T.cls
  have hcl : clsIn K C = some { name := nm, bases := bs, mro := .ref C :: bm, ns := N, qualname := q, hasDict := true, slotNames := sn, subclasses := sub, abstract := ab, collection := col, hasDel := false } := by unfold clsIn; rw [hC] <;> rfl
  refine Att.call_fn (binds := [("self", .ref x), ("part", v)]) X hlim ho hcd hroom (BindsTo.of_eq (by first | rfl | with_unfolding_all rfl)) (by first | rfl | decide | with_unfolding_all rfl) (fun s₁ IC => ?_) rfl rfl rfl
  obtain ⟨h₁, tk₁, rfl⟩ := IC.toInCall.same
  have k : ∀ b o, s.heap.get? b = some o → h₁.get? b = some o := IC.toInCall.keep
  have hn := IC.toInCall.ns
  have hxL : s.heap.objs.size ≠ x := Nat.ne_of_gt (Heap.lt_size hx)
  have X₁ : K.In h₁ := X.keeps k
  have hx₁ := k _ _ hx
  -- self.by = by
  show wpAny _ _ (execs _ _) _ _ _
  refine wpAny_execs_cons (plainObj_wpAny_Assign_Attribute ?_)
  refine ldC (v := v) hn (by first | rfl | with_unfolding_all rfl | kernel_rfl) (ldC (v := .ref x) hn (by first | rfl | with_unfolding_all rfl | kernel_rfl) ?_)
  refine set_plain X₁ (ox := excO C t0) (od := none) ⟨hx₁, rfl, rfl, trivial⟩ T.sa ?_
  refine exc_osa X₁ hx₁ hcl (show refsVE (.ref C :: bm) = true from hbm) rfl T.noN (fun h₃ tk₃ dx k₃ dn dne hx₃ hn₃ => ?_)
  show wpAny _ _ (execs _ _) _ _ _
  have z : s.heap.objs.size < h₁.objs.size := hn.lt
  exact wpAny_execs_nil (hq h₃ tk₃ dx ⟨fun b o hb e => k₃ b o hb (k b o e), hx₃, Nat.le_of_lt (Nat.lt_of_lt_of_le z dn), dne, hn₃⟩)
theorem low_made (T : LowTxt nx qn K mg C fI) {v : Value} (X : K.In s.heap) (hlim : s.heap.NoLimit) (hroom : A.depth + 1 < recursionLimit)
    (hq : ∀ h' tk e d, OwnMade s.heap h' e C d v → R (.ok (.ret (.ref e))) { s with heap := h', toks := tk }) :
    codeAny (model prog w) A (.call (.ref C) ⟨[v], []⟩) R s := by
  obtain ⟨nm, q, N, bs, bm, sn, sub, ab, col, dd, k0, k1, k2, k3, k5, hC, hbm⟩ := T.cls
  obtain ⟨hp, g, dr, tk, os⟩ := s
  have k : ∀ b o, hp.get? b = some o → ((hp.push (kdv_tup [v])).push (excO C hp.objs.size)).get? b = some o := fun b o e => Heap.get?_push_of_some _ (Heap.get?_push_of_some _ e)
  have hget : ((hp.push (kdv_tup [v])).push (excO C hp.objs.size)).get? (hp.objs.size + 1) = some (excO C hp.objs.size) := by heap_get
  have hnx : K.lookup (hp.objs.size + 1) = none := by
    cases e : K.lookup (hp.objs.size + 1) with
    | none => rfl
    | some o =>
      have z : hp.get? (hp.objs.size + 1) = some o := X _ _ e
      exact absurd (Nat.lt_of_succ_lt (Heap.lt_size z)) (Nat.lt_irrefl _)
  refine call_own F.excBase_ValueError (fun X => refsVE_contains X bm hbm) (X _ _ hC) (looks_findIn X T.iC) (fun self => bind_fn X self T.tC) (one_size v) ?_
  refine low_init (s := ⟨(hp.push (kdv_tup [v])).push (excO C hp.objs.size), g, dr, tk, os⟩) T (X.keeps k) (hlim.keeps k) hget hnx ?_ fun h' tk' dx ⟨k', hx, dn, dne, hns⟩ => ?_
  · show A.depth + 1 < recursionLimit
    exact hroom
  · have old : ∀ b o, hp.get? b = some o → h'.get? b = some o := fun b o e => k' b o (Nat.ne_of_lt (Nat.lt_succ_of_lt (Heap.lt_size e))) (k b o e)
    have z : hp.objs.size + 1 + 1 ≤ dx := by
      first
        | (simpa only [Heap.size_push] using dn)
        | exact dn
        | (have q := dn; rw [Heap.size_push, Heap.size_push] at q; exact q)
    exact ⟨rfl, hq h' tk' (hp.objs.size + 1) dx ⟨old, Nat.le_succ _, ⟨_, _, hx, rfl, rfl, rfl, rfl⟩, Nat.le_trans (Nat.le_trans (Nat.le_succ _) (Nat.le_succ _)) z, dne, hns⟩⟩
end
end LowX
end PySem
namespace L2
open PySem PySem.Spec PyProof.Rows
theorem relO_low {v : V} {v' : Value} (r : RelV v v') (f : Str) : RelO (List.lookup f [(("part" : Str), v)]) (if f = "part" then some v' else none) := by
  by_cases hw : f = "part"
  · subst hw
    rw [if_pos rfl]
    have q : List.lookup ("part" : Str) [(("part" : Str), v)] = some v := by simp [List.lookup]
    rw [q]
    exact r
  · rw [if_neg hw]
    have qw : (f == ("part" : Str)) = false := by simpa using hw
    have q2 : List.lookup f [(("part" : Str), v)] = none := by simp [List.lookup, qw]
    rw [q2]
    trivial
section
variable {X : Cx} {C fI : Addr} {nx qn : Str}
/-- Low(e) -/
def tMkLow (C : Addr) (ta : TA) : St → Hp → XK → Prop := fun σ H Q => ta σ H fun vs H1 => ∃ v, vs = [v] ∧ ∀ d, H1 d = none → Q (.ref C) (some d) (upd H1 d (.xd [(("part" : Str), v)]))
theorem pmk_low {a : Expr} {ta : TA} {p pos : Pos} {k : Nat} (T : PySem.LowX.LowTxt nx qn X.K X.mg C fI) (hr : Room k X.A) (ha : PA X [a] ta) (hg : Gl X nx := by rfl) (hnd : (nx == ("__debug__" : Str)) = false := by decide)
    (he : starEach (a :: []) X.env = (false, eval a X.env) :: starEach [] X.env := by rfl) (hpl : (backTo pos (starEach [] X.env)).any (·.1) = false := by rfl) :
    PMk X (.Call (.Name nx p) [a] [] pos) (tMkLow C ta) := by
  intro pins s σ H Q I h
  refine wpAny_Call_Name_kw (ld_glob I hg T.gC ?_ hnd)
  refine PySem.W.callWith_K (h₀ := X.base) I.ok.mod.kin T.kC (thn (ha.run pos pins s σ H _ I h) fun us s1 hh => ?_) he hpl
  obtain ⟨vs, H1, I1, r1, v, ev, q1⟩ := hh
  subst ev
  refine ⟨I1.kIn, ?_⟩
  cases r1 with
  | cons rv rn =>
    rename_i v' us'
    cases rn
    show wpAny _ _ (call (.ref C) [v']) _ _ _
    have hlim := I1.nolimit
    obtain ⟨hp, g, dr, tk, os⟩ := s1
    refine wpAny_call (PySem.LowX.low_made T I1.kIn hlim (by have := hr.dp; omega) fun h' tk' e d M => ?_)
    show MkP X pins σ Q (.ref e) ⟨h', g, dr, tk', os⟩
    obtain ⟨oe, fv, hoe, hc, hd, hdat, h1⟩ := M.obj
    have hns := M.ns
    obtain ⟨G', g1, g2⟩ := restrict h' fun b => decide (b ≠ e)
    have gk : ∀ b, b ≠ e → G'.get? b = h'.get? b := fun b hb => g1 b (decide_eq_true hb)
    have ge : G'.get? e = none := g2 e (by simp)
    have old : ∀ b o, hp.get? b = some o → G'.get? b = some o := fun b o q => (gk b (Nat.ne_of_lt (Nat.lt_of_lt_of_le (Heap.lt_size q) M.new))).trans (M.keep b o q)
    have ob : ObjOk X.prog X.w (upd H1 d (.xd [(("part" : Str), v)])) G' d (.xd [(("part" : Str), v)]) :=
      ⟨_, hns.at (fun o q => (gk d M.dne).trans q), fun f => relO_low rv f⟩
    have J : Inv X pins σ (upd H1 d (.xd [(("part" : Str), v)])) ⟨G', g, dr, tk', os⟩ := I1.laid (t' := tk') old M.dbig ob
    refine ⟨e, oe, fv, ⟨G', g, dr, tk', os⟩, _, .ref C, some d, rfl, J, fun b o q => ?_, ge, hoe, ⟨hc, hd⟩, hdat, h1, ?_, rfl, I1.bare, raises_own T.exC T.tyC, q1 d (I1.hok.fresh M.dbig)⟩
    · by_cases hb : b = e
      · have q' : G'.get? b = some o := q
        rw [hb, ge] at q'; cases q'
      · exact (gk b hb).symm.trans q
    · rw [upd_ne (Ne.symm M.dne)]
      exact I1.hok.fresh M.new
/-- raise Low(e) -/
def tRaiseLow (C : Addr) (W : WX) (ta : TA) : TS := fun _ σ H => tMkLow C ta σ H fun cls d H' => W cls d σ H'
theorem ps_raiseLow {a : Expr} {ta : TA} {W : WX} {p pos pos2 : Pos} {k : Nat} (hc : X.calm = true) (T : PySem.LowX.LowTxt nx qn X.K X.mg C fI) (hr : Room k X.A) (tk : Takes X W) (ha : PA X [a] ta) (hg : Gl X nx := by rfl) (hnd : (nx == ("__debug__" : Str)) = false := by decide)
    (he : starEach (a :: []) X.env = (false, eval a X.env) :: starEach [] X.env := by rfl) (hpl : (backTo pos (starEach [] X.env)).any (·.1) = false := by rfl) :
    PS X (.Raise (some (.Call (.Name nx p) [a] [] pos)) none pos2) (tRaiseLow C W ta) := ps_raise hc tk (pmk_low T hr ha hg hnd he hpl)
/-- low.by, low the exception that the suite holds (at a; its class cls, its dict d) -/
def tByLow (C : Addr) (a : Addr) (cls : Value) (d : Option Addr) (te : TE) : TE := fun σ H Q => te σ H fun x H1 => x = .ref a ∧ cls = .ref C ∧ ∃ (dd : Addr) (v : V), d = some dd ∧ H1 dd = some (.xd [(("part" : Str), v)]) ∧ Q v H1
theorem pe_byLow {a : Addr} {oe : Obj} {cls : Value} {d : Option Addr} {pn : List (Addr × Obj)} {e : Expr} {te : TE} {pos : Pos} (T : PySem.LowX.LowTxt nx qn X.K X.mg C fI) (hz : Zc cls d oe) (hf : ∃ vs, oe.data = .fields vs) (he : PE (X.suite a ((a, oe) :: pn)) e te)
    (hb : attributeBase e "part" X.env (eval e X.env) = eval e X.env := by rfl) :
    PE (X.suite a ((a, oe) :: pn)) (.Attribute e "part" pos) (tByLow C a cls d te) := by
  refine ⟨fun pins s σ H Q I h => ?_⟩
  refine attr_of hb (thn (he.run pins s σ H _ I h) fun u s1 hh => ?_)
  obtain ⟨x, H1, I1, rx, ex, ec, dd, v, ed, ea, q⟩ := hh
  subst ex
  obtain rfl : u = Value.ref a := rx
  subst ec
  subst ed
  obtain ⟨ha, _⟩ := I1.pin (a, oe) (List.mem_append_left _ List.mem_cons_self)
  obtain ⟨vs, hd⟩ := hf
  have hx : ObjOk X.prog X.w H1 s1.heap dd (.xd [(("part" : Str), v)]) := I1.hok dd _ ea
  obtain ⟨mA, hns, hr⟩ := hx
  obtain ⟨od, ho, hl⟩ := lookIn_ns hns
  have l : List.lookup ("part" : Str) [(("part" : Str), v)] = some v := by simp [List.lookup]
  obtain ⟨u, hu, ru⟩ := RelO.some_of (v := v) (o := mA "part") (by rw [← l]; exact hr "part")
  have J : PySem.W.InstAt s1.heap a oe C (some od) := ⟨ha, hz.1, by unfold PySem.W.notCls; rw [hd] <;> rfl, by rw [hz.2]; exact ho⟩
  exact HandSPX.exc_get I1.kIn J T.ga T.gg T.exC (PySem.W.findObj_own T.hdC T.noN rfl (by rw [hl, hu])) (handed_of ru) ⟨v, H1, I1.tok _, ru, q⟩
end
end L2

namespace L2
open PySem PySem.Spec PyProof.Rows
/-- an if whose test is known -/
theorem if_true_of {c : Bool} {A B : Prop} (hc : c = true) (h : A) : if c = true then A else B := by
  rw [if_pos hc]
  exact h
theorem if_false_of {c : Bool} {A B : Prop} (hc : c = false) (h : B) : if c = true then A else B := by
  rw [hc, if_neg Bool.false_ne_true]
  exact h
end L2
namespace Odd
open PySem PySem.Spec PyProof.Rows L2
/-! ### small rules that readings use -/
theorem cx_K {CX : CXT} {P : Program} {w : World} {K : PySem.W.Frag} {mg : Str → Option Value} {base : Heap} {N : List Str} {qual : Str} {sc : Scope} {f : Addr} {cd : Value} {A : Around} {outer : List Env} {s : Shared} {H : Hp} {E : XK} :
    (cxOf CX P w K mg base N qual sc f cd A outer s H E).K = K := rfl
theorem cx_Kn {X : Cx} : (Cx.nox X).K = X.K := rfl
def gSeq (K : PySem.W.Frag) (n : Nat) (t : TGs) : TG := fun v σ H Q => ∃ a xs, v = .ref a ∧ Sq K H a xs ∧ xs.length = n ∧ t xs σ H Q
theorem pg_seq2 {X : Cx} {pos : Pos} {es : List Expr} {k : Nat} {t : TGs} {n : Nat} (hc : X.calm = true) (h : PGs X es t)
    (hn : (assignEach es X.env).length = n := by rfl) (hst : (assignEach es X.env).findIdx? (·.1) = none := by rfl) : PG X (.Tuple es k pos) (gSeq X.K n t) := by
  refine ⟨fun pins s σ H v u Q I r hw => ?_⟩
  obtain ⟨a, xs, e1, hq, hl, hw⟩ := hw
  rcases hq with hq | hq
  · exact (pg_lst hc h hn hst).run pins s σ H v u Q I r ⟨a, xs, e1, hq, hl, hw⟩
  · exact (pg_tup hc h hn hst).run pins s σ H v u Q I r ⟨a, xs, e1, hq, hl, hw⟩
section
variable {K : PySem.W.Frag} {H H0 : Hp} {Q : VK} {p : Addr} {xs : List V} {v : V} {i : Int}
theorem ixT (h : SqT K H p xs) (e : atI xs i = some v) (q : Q v H) : rIxT K (.ref p) (.int i) H Q := ⟨p, xs, i, v, rfl, rfl, h, e, q⟩
theorem ixL (h : SqL K H p xs) (e : atI xs i = some v) (q : Q v H) : rIxL K (.ref p) (.int i) H Q := ⟨p, xs, i, v, rfl, rfl, h, e, q⟩
theorem ty_int {T : String} (h : TyN K H v T) (q : Q (.bl (T == "int" || T == "bool")) H) : rIsi K [v, .ty "int"] H Q := by
  refine ⟨v, .ty "int", .type T, .type "int", _, rfl, .ty _, h.x, ?_, q⟩
  cases h <;> exact kit_ty (by decide +kernel)
theorem ty_bool {T : String} (h : TyN K H v T) (q : Q (.bl (T == "bool")) H) : rIsi K [v, .ty "bool"] H Q := by
  refine ⟨v, .ty "bool", .type T, .type "bool", _, rfl, .ty _, h.x, ?_, q⟩
  cases h <;> exact kit_ty (by decide +kernel)
theorem ty_tuple {T : String} (h : TyN K H v T) (q : Q (.bl (T == "tuple")) H) : rIsi K [v, .ty "tuple"] H Q := by
  refine ⟨v, .ty "tuple", .type T, .type "tuple", _, rfl, .ty _, h.x, ?_, q⟩
  cases h <;> exact kit_ty (by decide +kernel)
theorem ty_str {T : String} (h : TyN K H v T) (q : Q (.bl (T == "str")) H) : rIsi K [v, .ty "str"] H Q := by
  refine ⟨v, .ty "str", .type T, .type "str", _, rfl, .ty _, h.x, ?_, q⟩
  cases h <;> exact kit_ty (by decide +kernel)
theorem kl (T : String) (h : TyN K H v T) : PySem.W.kitOne K (.type T) (.type "list") = some (T == "list") := by
  cases h <;> exact kit_ty (by decide +kernel)
theorem kt (T : String) (h : TyN K H v T) : PySem.W.kitOne K (.type T) (.type "tuple") = some (T == "tuple") := by
  cases h <;> exact kit_ty (by decide +kernel)
theorem ty_row {T : String} (h : TyN K H v T) (hp : H p = some (.tup [.ty "list", .ty "tuple"])) (q : Q (.bl (T == "list" || T == "tuple")) H) : rIsiT K [v, .ref p] H Q := by
  refine ⟨v, p, _, .type T, [.type "list", .type "tuple"], _, rfl, hp, .cons (.ty _) (.cons (.ty _) .nil), h.x, ?_, q⟩
  refine kitAny_cons (kl T h) (fun e => ?_) (fun e => by rw [e] <;> rfl)
  rw [e, Bool.false_or]
  exact kitAny_cons (kt T h) (fun e => by rw [e]; exact kitAny_nil) (fun e => e)
end
theorem TyN.intI {K : PySem.W.Frag} {H : Hp} {v : V} {T : String} (h : TyN K H v T) (e : T = "int") : ∃ i, v = .int i := by
  cases h <;> first | exact ⟨_, rfl⟩ | exact absurd e (by decide)
theorem seq_by {t u : TS} {D : Ends} {σ : L2.St} {H : Hp} (h : ∀ N, N = u D → t { D with nx := N } σ H) : tSeq t u D σ H := h _ rfl
theorem dpAll_ints {K : PySem.W.Frag} {H : Hp} : ∀ ns : List Int, DpAll K H (ns.map V.int) (ns.map PyData.int)
  | [] => .nil
  | n :: ns => .cons (.int n) (dpAll_ints ns)
theorem dp_ints {K : PySem.W.Frag} {H : Hp} {a : Addr} {ns : List Int} (h : SqL K H a (ns.map V.int)) : Dp K H (.ref a) (.list (ns.map PyData.int)) := .lst h (dpAll_ints ns)
theorem dp_intsT {K : PySem.W.Frag} {H : Hp} {a : Addr} {ns : List Int} (h : SqT K H a (ns.map V.int)) : Dp K H (.ref a) (.tuple (ns.map PyData.int)) := .tup h (dpAll_ints ns)
theorem lay_ints : ∀ ns : List Int, PyData.canLayAll0 (ns.map PyData.int) = true
  | [] => by simp [PyData.canLayAll0]
  | n :: ns => by simp [PyData.canLayAll0, PyData.canLay0, lay_ints ns]
theorem dep_ints : ∀ ns : List Int, PyData.depthAll (ns.map PyData.int) = 0
  | [] => by simp [PyData.depthAll]
  | n :: ns => by simp [PyData.depthAll, PyData.depth, dep_ints ns]
theorem sh_ints (ns : List Int) : SeqAt.shaped (.list (ns.map PyData.int)) = true := by
  simp [SeqAt.shaped, PyData.canLay0, PyData.depth, lay_ints, dep_ints]
theorem sh_intsT (ns : List Int) : SeqAt.shaped (.tuple (ns.map PyData.int)) = true := by
  simp [SeqAt.shaped, PyData.canLay0, PyData.depth, lay_ints, dep_ints]
theorem eqv_ints : ∀ ns ms : List Int, PyData.eqvAll (ns.map PyData.int) (ms.map PyData.int) = decide (ns = ms)
  | [], [] => by simp [PyData.eqvAll]
  | [], m :: ms => by simp [PyData.eqvAll]
  | n :: ns, [] => by simp [PyData.eqvAll]
  | n :: ns, m :: ms => by
    rw [List.map_cons, List.map_cons, PyData.eqvAll, eqv_ints ns ms, PyData.eqv, Bool.eq_iff_iff]
    simp
section
variable {X : Cx} {CX : CXT} {k : Nat} {f : Addr} {fd : FuncData} {ps ks : List Str} {sp : Sp} {E : XK} {x : Str} {p pos : Pos} {kws : List Keyword} {tk : TA} {g : List Value → List Value → List Value} {gV : List V → List V → List V}
/-- f(k = v, ..) -/
theorem pe_callN0 (F : FnOk X.prog X.w X.K X.mg X.base CX k f fd ps sp) (hr : Room k X.A) (hg : Gl X x) (hm : X.mg x = some (.ref f)) (hk : PySem.W.keepIn X.K (.ref f) = true) (hb : KBn X.K fd ps 0 ks g gV) (hx : Passes CX X E)
    (hkw : PK X kws tk) (hall : (backToKw pos (keywordEach kws X.env)).all (·.1.isSome) = true := by rfl) (hks : (backToKw pos (keywordEach kws X.env)).filterMap (·.1) = ks := by rfl)
    (hdb : (x == ("__debug__" : Str)) = false := by decide) (hpl : ((backTo pos (starEach [] X.env)).any (·.1) || (backToKw pos (keywordEach kws X.env)).any (·.1.isNone)) = false := by rfl) :
    PE X (.Call (.Name x p) [] kws pos) (tCallN 0 ks.length sp gV E tNil tk) := by
  refine ⟨fun pins s σ H Q I h => ?_⟩
  refine wpAny_Call_Name_kw (ld_glob I hg hm ?_ hdb)
  refine PySem.W.callWith_KW0 (h₀ := X.base) I.ok.mod.kin hk hall (thn (hkw.run pos pins s σ H _ I h) fun ws s2 ⟨zs, H2, I2, rz, l1, l2, q2⟩ => ⟨I2.kIn, ?_⟩) hpl
  rw [hks]
  exact run_fnN (us := []) F hr hb hx I2 .nil rz l1 l2 q2
end
/-- a def without defaults, called by keywords alone, in the parameters' order -/
theorem fun_kb {K : PySem.W.Frag} {x qual : Str} {st : Stmt} {f : Addr} {fd : FuncData} {ps : List Str} (F : Fun K x qual st f fd)
    (h : ∀ (kV doc pm : Value) (an : Option Addr) (cdv ct : Value) (ws : List Value), ws.length = ps.length → bindArgs (PySem.W.fnOf x qual (defArgs st) (defBody st) (defScope st) .none kV doc pm an cdv ct) ⟨[], ps.zip ws⟩ = pure (ps.zip ws)) : KBn K fd ps 0 ps (fun _ ws => ws) (fun _ zs => zs) := by
  obtain ⟨oc, od, kV, doc, pm, an, cdv, ct, osl, rfl, lk, hcd⟩ := F.ex
  refine ⟨fun s us ws X l1 l2 => ?_, fun _ r => r⟩
  obtain rfl := List.eq_nil_of_length_eq_zero l1
  exact .of_eq (h kV doc pm an cdv ct ws l2)
/-- a def with defaults, called by keywords alone -/
theorem funD_kb {K : PySem.W.Frag} {x qual : Str} {params : Arguments} {body : List Stmt} {scope : Scope} {dvs : List V} {f : Addr} {fd : FuncData} {ps ks : List Str} {j : Nat} (F : FunD K x qual params body scope dvs [] f fd) (hd : dvs ≠ [])
    (h : ∀ (T : Addr) (kV doc pm : Value) (an : Option Addr) (cdv ct : Value) (its ws : List Value), its.length = dvs.length → ws.length = ks.length →
      ∃ k, bindArgs (PySem.W.fnOf x qual params body scope (.ref T) kV doc pm an cdv ct) ⟨[], ks.zip ws⟩ = seqItems? (.ref T) >>= k ∧ k (some its.toArray) = pure (ps.zip (ws ++ its.drop j))) :
    ∃ its : List Value, KBn K fd ps 0 ks (fun _ ws => ws ++ its.drop j) (fun _ zs => zs ++ dvs.drop j) := by
  obtain ⟨oc, od, dV, kV, doc, pm, an, cdv, ct, osl, rfl, lk, hcd, hD, hK⟩ := F.ex
  rcases hD with ⟨e, _⟩ | ⟨_, T, o, its, m, rfl, lT, oT, rT⟩
  · exact absurd e hd
  · refine ⟨its, fun s us ws X l1 l2 => ?_, fun _ r => r.append (rT.drop j)⟩
    obtain rfl := List.eq_nil_of_length_eq_zero l1
    obtain ⟨k, e1, e2⟩ := h T kV doc pm an cdv ct its ws rT.length.symm l2
    refine BindsTo.of_looks fun M => ?_
    rw [e1]
    exact looks_items X lT oT (.of_pure e2)
theorem call_reprB {X : Cx} : CallR X (.builtin "repr") (fun xs H Q => ∃ b : Bool, xs = [.bl b] ∧ Q (.str (if b = true then "True" else "False")) H) := fun pins s σ H xs us Q I r h => call_reprX pins s σ H xs us Q I r (.inr h)
theorem call_reprI {X : Cx} : CallR X (.builtin "repr") (fun xs H Q => ∃ i : Int, xs = [.int i] ∧ i.natAbs.log2 < 1920 ∧ Q (.str (toString i)) H) := fun pins s σ H xs us Q I r h => call_reprX pins s σ H xs us Q I r (.inl h)
def optV : Option Int → V
  | none => .non
  | some i => .int i
theorem is_int {K : PySem.W.Frag} {H : Hp} {v : V} (T : String) (h : TyN K H v T) : ((T == "int" || T == "bool") && !(T == "bool")) = (T == "int") := by
  cases h <;> decide
theorem Num.ty {K : PySem.W.Frag} {H : Hp} {v : V} {q : Int × Int} (h : Num K H v q) : ∃ T, TyN K H v T ∧ (T = "int" ∨ T = "list" ∨ T = "tuple") := by
  cases h with
  | int n => exact ⟨_, .int n, .inl rfl⟩
  | sq h c =>
    rcases h with h | h
    · exact ⟨_, .lst h, .inr (.inl rfl)⟩
    · exact ⟨_, .tup h, .inr (.inr rfl)⟩
theorem Sq.ty {K : PySem.W.Frag} {H : Hp} {p : Addr} {xs : List V} (h : Sq K H p xs) : ∃ T, TyN K H (.ref p) T ∧ (T == "list" || T == "tuple") = true := by
  rcases h with h | h
  · exact ⟨_, .lst h, by decide⟩
  · exact ⟨_, .tup h, by decide⟩
end Odd
/-! one clause 'except (x, y) as n' -/
namespace L2
open PySem PySem.Spec PyProof.Rows
theorem odd_fly_push {B h : Heap} {l : List Env} {e : Addr} {Z : Obj → Prop} {o : Obj} (x : HandSPX.FlyingZ B l e Z h) : HandSPX.FlyingZ B l e Z (h.push o) := by
  obtain ⟨f1, f2, f3, oe, vs, T, oT, ts, he, hz, hd, h1, hnT, hTe, hT, hdT, h3⟩ := x
  exact ⟨fun b o' q => Heap.get?_push_of_some _ (f1 b o' q), f2, Heap.FunFrames.of_keeps (fun b o' q _ => ⟨o', Heap.get?_push_of_some _ q, rfl⟩) f3, oe, vs, T, oT, ts, Heap.get?_push_of_some _ he, hz, hd, h1, hnT, hTe, Heap.get?_push_of_some _ hT, hdT, h3⟩
def oddEnds2 (i : Nat) (D : Ends) : Ends := { nx := fun τ G => D.nx (τ.set i none) G, rt := D.rt, bk := fun τ G => D.bk (τ.set i none) G, ct := fun τ G => D.ct (τ.set i none) G }
/-- what such a clause wishes of an exception -/
def oddWish2 (K : PySem.W.Frag) (i : Nat) (W : WX) (D : Ends) (c1 c2 : Value) (ts : Addr → Value → Option Addr → TS) : WX :=
  fun cls d τ G => ∃ fits : Bool, PySem.W.exmAny K cls [c1, c2] = some fits ∧ (fits = true → ∀ a, G a = none → ts a cls d (oddEnds2 i D) (τ.set i (some (.ref a))) G) ∧ (fits = false → W cls d τ G)
theorem oddTry2 {X : Cx} {n : Str} {i : Nat} {body : List Stmt} {pos : Pos} {tb : WX → TS} {Wout : WX} {x1 x2 : Str} {c1 c2 : Value} {p1 p2 tp : Pos} {kk : Nat} {first : Stmt} {suite : List Stmt} {p' : Pos} {ts : Addr → Value → Option Addr → TS}
    (hs : X.stack = X.env :: X.outer) (hf : X.env.frame = some X.env.locals) (hN : X.N.Nodup) (hi : X.N[i]? = some n) (hln : X.env.kindOf n = some .local) (tk : Takes X Wout)
    (known1 : Names X x1 c1) (known2 : Names X x2 c2)
    (hb : ∀ (W : WX) (pn : List (Addr × Obj)) (xe : Value → Shared → Prop), Takes (X.tr pn xe) W → PassesOwn (model X.prog X.w) X.A X.env xe → PSs (X.tr pn xe) body (tb W))
    (run : ∀ (a : Addr) (oe : Obj) (cls : Value) (d : Option Addr) (pn : List (Addr × Obj)), Zc cls d oe → (∃ vs, oe.data = .fields vs) → PSs (X.suite a ((a, oe) :: pn)) (first :: suite) (ts a cls d)) :
    PS X (.Try body [.ExceptHandler (some (.Tuple [.Name x1 p1, .Name x2 p2] kk tp)) (some n) (first :: suite) p'] [] [] pos) (fun D σ H => tb (oddWish2 X.K i Wout D c1 c2 ts) D σ H) := by
  refine ⟨fun held s σ H D I h => ?_⟩
  have good := I.ok
  have onTop : X.A.frames = some (X.env :: X.outer) := by rw [good.frames, hs]
  have isLoc : Loc X.env.scope n := .inl hln
  refine wpAny_Try_except ?_
  refine wpAny_mono ((hb (oddWish2 X.K i Wout D c1 c2 ts) (X.pn ++ held) (fun e s₁ => wpAny (model X.prog X.w) X.A (noteFrame e X.env) (fun _ s₂ => wpAny (model X.prog X.w) X.A (setFlight e none) (fun _ s₃ =>
    wpAny (model X.prog X.w) X.A (handleBy e X.env [.ExceptHandler (some (.Tuple [.Name x1 p1, .Name x2 p2] kk tp)) (some n) (first :: suite) p']) (SP X held D) X.xe s₃) X.xe s₂) X.xe s₁) (fun u s' got => ?_) PassesOwn.looking).run [] s σ H D (I.toTry _) h) (fun f s1 fin0 => ?_) (fun e s1 he => he)
  · obtain ⟨a, B, sIn, held2, τ, G, cls, d, rfl, invT, bare, rise, sk, off0, osq, gen, wish⟩ := got
    have inv : Inv X held τ G sIn := invT.ofTry good
    have air : Sky B (X.env :: X.outer) a (Zc cls d) X.env.locals s'.heap := by rw [← hs]; exact sk
    show wpAny (model X.prog X.w) X.A (noteFrame (.ref a) X.env) _ _ _
    refine Sky.land Zc.steady onTop hf air fun k3 lnd3 rise3 => ?_
    have inv3 : Inv X held τ G { s' with heap := k3 } := inv.landed bare lnd3.1 (rise.trans rise3) osq gen
    obtain ⟨ob3, fs3, at3, zc3, fd3⟩ := lnd3.there
    have off : a ∉ frs (X.env :: X.outer) := fun hm => by
      obtain ⟨_, o', e', hnf⟩ := lnd3.2.2.1.mem hm
      rw [at3] at e'; cases e'
      exact hnf _ fd3
    have notL : a ≠ X.env.locals := fun z => off (List.mem_filterMap.mpr ⟨X.env, List.mem_cons_self, by rw [hf, z]⟩)
    have notF : a ∉ X.fs := fun hm => by
      obtain ⟨e, he, q⟩ := List.mem_filterMap.mp hm
      exact off (List.mem_filterMap.mpr ⟨e, List.mem_cons_of_mem _ he, q⟩)
    have sui3 := inv3.suite at3 fd3 off0 notL notF
    have lkT : PySem.W.Looks (model X.prog X.w) k3 (typeOf (.ref a)) cls := fun A Q E s k q => wpAny_typeOf_ref (k _ _ at3) (by rw [zc3.1]; exact q)
    have test : ∀ {x : Str} {p : Pos} {c : Value} {Q : Value → Shared → Prop} {E : Value → Shared → Prop}, Names X x c → Q c { s' with heap := k3 } → wpAny (model X.prog X.w) (X.A.mark (some (.ref a))) (eval (.Name x p) X.env) Q E { s' with heap := k3 } := fun {x p c Q E} known q => by
      obtain ⟨hg, hdbg, hm | ⟨hm, hv, hnn⟩⟩ := known
      · exact ld_glob (X := X.suite a ((a, ob3) :: (X.pn ++ held))) sui3 hg hm q hdbg
      · exact ld_blt (X := X.suite a ((a, ob3) :: (X.pn ++ held))) sui3 hg hm hv q hnn hdbg
    obtain ⟨fits, hb1, hyes, hno⟩ := wish
    refine wpAny_handleBy_cons (codeAny_handlers_test ?_) (by intro q; cases q)
    refine wpAny_Tuple (wpAny_items_cons (test known1 (wpAny_items_cons (test known2 (wpAny_items_nil ⟨by size_fits, ?_⟩)))))
    have kp : ∀ q o, k3.get? q = some o → (k3.push { cls := .type "tuple", data := .seq [c1, c2].toArray }).get? q = some o := fun _ _ z => Heap.get?_push_of_some _ z
    refine (PySem.W.exm_tup2 (inv3.kIn.keeps kp) (lkT.keeps kp) (Heap.get?_push_size k3 rfl) hb1).here ?_
    have lnd3 := odd_fly_push (o := { cls := .type "tuple", data := .seq [c1, c2].toArray }) lnd3
    have rise3 := rise3.trans (Heap.UpToSlots.of_keeps kp)
    generalize k3.push { cls := .type "tuple", data := .seq [c1, c2].toArray } = k3 at *
    cases fits with
    | false =>
      refine wpAny_handleBy_nil ?_
      obtain ⟨j1, j2, j3, oe, vs, tb0, tbo, tbs, he, hz, hd, h1, hr⟩ := id lnd3
      have inv3 : Inv X held τ G { s' with heap := k3 } := inv.landed bare lnd3.1 (rise.trans rise3) osq gen
      unfold PySem.passOn
      refine wpAny_bind (wpAny_field he hd h1 ?_)
      rw [if_neg (show ¬ ((Value.ref tb0 == Value.none) = true) from by simp)]
      have fin : wpAny (model X.prog X.w) X.A (setFlight (.ref a) X.env.frame) (fun _ s4 => wpAny (model X.prog X.w) X.A (throw (.ref a) : Sem Flow) (SP X held D) X.xe s4) X.xe { s' with heap := k3 } := by
        rw [hf]
        exact HandSPX.setFlight_upZ lnd3 fun k4 low4 rise4 => wpAny_throw (tk _ _ ⟨a, B, sIn, held, τ, G, cls, d, rfl, inv, bare, (rise.trans rise3).trans rise4, .inr (.inr (by rw [hs]; exact low4)), off0, osq, gen, hno rfl⟩)
      first
        | exact wpAny_bind (wpAny_pure (wpAny_bind fin))
        | exact wpAny_bind fin
    | true =>
      refine codeAny_handlers_suite_as ?_
      refine HandSPX.lands_againZ lnd3 fun k4 lnd4 rise4 => ?_
      have inv4 : Inv X held τ G { s' with heap := k4 } := inv.landed bare lnd4.1 ((rise.trans rise3).trans rise4) osq gen
      obtain ⟨ob4, fs4, at4, zc4, fd4⟩ := lnd4.there
      have sui4 := inv4.suite at4 fd4 off0 notL notF
      refine store_ok (X := X.suite a ((a, ob4) :: (X.pn ++ held))) (v := .ref a) sui4 hN hi isLoc rfl (fun t5 sui5 => ?_) (.inr hln)
      refine wpAny_mono ((run a ob4 cls d (X.pn ++ held) zc4 ⟨_, fd4⟩).run [] t5 _ G _ sui5 (hyes rfl a off0)) (fun f s6 fin0 => ?_) (fun _ _ z => False.elim z)
      have gone : ∀ {τ6 : St} {G6 : Hp} {Q : Shared → Prop}, Inv (X.suite a ((a, ob4) :: (X.pn ++ held))) [] τ6 G6 s6 → (∀ s7, Inv X held (τ6.set i none) G6 s7 → Q s7) →
          wpAny (model X.prog X.w) X.A (do bindName X.env n .none; unbindBehindTheSuite X.env n p') (fun _ s7 => Q s7) X.xe s6 := fun {τ6 G6 Q} sui6 hq => gone_ok (sui6.unsuite good) hN hi hln hq
      cases f with
      | next => obtain ⟨τ6, G6, sui6, q6⟩ := fin0; exact gone sui6 fun s7 inv7 => ⟨_, _, inv7, q6⟩
      | brk => obtain ⟨τ6, G6, sui6, q6⟩ := fin0; exact gone sui6 fun s7 inv7 => ⟨_, _, inv7, q6⟩
      | cont => obtain ⟨τ6, G6, sui6, q6⟩ := fin0; exact gone sui6 fun s7 inv7 => ⟨_, _, inv7, q6⟩
      | ret u => obtain ⟨v6, τ6, G6, sui6, r6, q6⟩ := fin0; exact gone sui6 fun s7 inv7 => ⟨_, _, _, inv7, r6, q6⟩
  · cases f with
    | next => obtain ⟨τ, G, invT, q⟩ := fin0; exact wpAny_execs_nil ⟨τ, G, invT.ofTry good, q⟩
    | brk => obtain ⟨τ, G, invT, q⟩ := fin0; exact ⟨τ, G, invT.ofTry good, q⟩
    | cont => obtain ⟨τ, G, invT, q⟩ := fin0; exact ⟨τ, G, invT.ofTry good, q⟩
    | ret u => obtain ⟨v, τ, G, invT, r, q⟩ := fin0; exact ⟨v, τ, G, invT.ofTry good, r, q⟩
/-- isinstance(e, c), e the exception that the suite holds, with fields of its own -/
def rIsF (K : PySem.W.Frag) (cls : Value) (d : Option Addr) (a : Addr) : List V → Hp → VK → Prop := fun xs H Q => ∃ (C : Addr) (c : V) (cv : Value) (b : Bool) (dd : Addr) (fs : List (Str × V)), xs = [.ref a, c] ∧ cls = .ref C ∧ ExcC K C ∧ d = some dd ∧ H dd = some (.xd fs) ∧ (∀ u, RelV c u → u = cv) ∧ PySem.W.kitOne K (.ref C) cv = some b ∧ Q (.bl b) H
theorem call_isF {X : Cx} {a : Addr} {cls : Value} {d : Option Addr} {oe : Obj} {pn : List (Addr × Obj)} (hz : Zc cls d oe) (hf : ∃ vs, oe.data = .fields vs) : CallR (X.suite a ((a, oe) :: pn)) (.builtin "isinstance") (rIsF X.K cls d a) := by
  intro pins s σ H xs us Q I r h
  obtain ⟨D, c, cv, b, dd, fs, rfl, rfl, C, rfl, ea, hcv, e, q⟩ := h
  cases r with
  | cons rx rr =>
    cases rr with
    | cons rt rr =>
      cases rr
      cases rx
      have ec := hcv _ rt
      subst ec
      obtain ⟨hget, _⟩ := I.pin (a, oe) (List.mem_append.mpr (.inl List.mem_cons_self))
      obtain ⟨vs, hv⟩ := hf
      have hx : ObjOk X.prog X.w H s.heap dd (.xd fs) := I.hok dd _ ea
      obtain ⟨mA, hns, hr⟩ := hx
      obtain ⟨od, ho, hl⟩ := lookIn_ns hns
      have J : PySem.W.InstAt s.heap a oe D (some od) := ⟨hget, hz.1, by unfold PySem.W.notCls; rw [hv] <;> rfl, by rw [hz.2]; exact ho⟩
      exact PySem.W.kia_one (PySem.W.kitx_exc (by obtain ⟨cd, hc, _⟩ := PySem.W.any_some C.hd; rw [hc]; rfl) C.hg C.hk C.hs C.ha C.hn C.ht C.hm) I.kIn J e (fun z => nomatch z) fun tk => ⟨.bl b, H, I.kept (t' := tk) fun _ _ z => z, rfl, q⟩
/-- error.part, of one of some classes -/
def tByAny (S : Addr → Prop) (a : Addr) (cls : Value) (d : Option Addr) (te : TE) : TE := fun σ H Q => te σ H fun x H1 => x = .ref a ∧ ∃ C, S C ∧ cls = .ref C ∧ ∃ (dd : Addr) (v : V), d = some dd ∧ H1 dd = some (.xd [(("part" : Str), v)]) ∧ Q v H1
theorem pe_byAny {X : Cx} {S : Addr → Prop} {a : Addr} {oe : Obj} {cls : Value} {d : Option Addr} {pn : List (Addr × Obj)} {e : Expr} {te : TE} {pos : Pos} (T : ∀ C, S C → ∃ nx qn fI, PySem.LowX.LowTxt nx qn X.K X.mg C fI) (hz : Zc cls d oe) (hf : ∃ vs, oe.data = .fields vs) (he : PE (X.suite a ((a, oe) :: pn)) e te)
    (hb : attributeBase e "part" X.env (eval e X.env) = eval e X.env := by rfl) :
    PE (X.suite a ((a, oe) :: pn)) (.Attribute e "part" pos) (tByAny S a cls d te) := by
  refine ⟨fun pins s σ H Q I h => ?_⟩
  refine attr_of hb (thn (he.run pins s σ H _ I h) fun u s1 hh => ?_)
  obtain ⟨x, H1, I1, rx, ex, C, hS, ec, dd, v, ed, ea, q⟩ := hh
  obtain ⟨nx, qn, fI, T⟩ := T C hS
  subst ex
  obtain rfl : u = Value.ref a := rx
  subst ec
  subst ed
  obtain ⟨ha, _⟩ := I1.pin (a, oe) (List.mem_append_left _ List.mem_cons_self)
  obtain ⟨vs, hd⟩ := hf
  have hx : ObjOk X.prog X.w H1 s1.heap dd (.xd [(("part" : Str), v)]) := I1.hok dd _ ea
  obtain ⟨mA, hns, hr⟩ := hx
  obtain ⟨od, ho, hl⟩ := lookIn_ns hns
  have l : List.lookup ("part" : Str) [(("part" : Str), v)] = some v := by simp [List.lookup]
  obtain ⟨u, hu, ru⟩ := RelO.some_of (v := v) (o := mA "part") (by rw [← l]; exact hr "part")
  have J : PySem.W.InstAt s1.heap a oe C (some od) := ⟨ha, hz.1, by unfold PySem.W.notCls; rw [hd] <;> rfl, by rw [hz.2]; exact ho⟩
  exact HandSPX.exc_get I1.kIn J T.ga T.gg T.exC (PySem.W.findObj_own T.hdC T.noN rfl (by rw [hl, hu])) (handed_of ru) ⟨v, H1, I1.tok _, ru, q⟩
theorem odd_vals_of_at : ∀ {xs : List V} {us : List Value}, xs.length = us.length → (∀ (j : Nat) (x : V) (u : Value), xs[j]? = some x → us[j]? = some u → RelV x u) → Vals xs us
  | [], [], _, _ => .nil
  | [], _ :: _, h, _ => by simp at h
  | _ :: _, [], h, _ => by simp at h
  | x :: xs, u :: us, h, f => .cons (f 0 x u rfl rfl) (odd_vals_of_at (by simpa using h) fun j y w h1 h2 => f (j + 1) y w (by simpa using h1) (by simpa using h2))
/-- list(x), x a text -/
def rListS : List V → Hp → VK → Prop := fun xs H Q => ∃ x : Str, xs = [.str x] ∧ x.length ≤ sizeLine ∧ ∀ q, H q = none → Q (.ref q) (upd H q (.lst ((TL.tl x).map fun c => V.str ⟨#[c]⟩)))
theorem call_listS {X : Cx} (hc : X.calm = true) : CallR X (.type "list") rListS := by
  intro pins s σ H xs us Q I r h
  obtain ⟨x, rfl, hz, q⟩ := h
  obtain ⟨u, rfl, t, rfl⟩ := vals1 r
  have hl : (TL.tl x).length = x.cps.size := by unfold TL.tl; exact Array.length_toList
  refine PySem.call_list_str (I.ok.hd hc) x t (fun h' tk acc' c' hkeep hS hacc => ?_) hz
  refine ⟨.ref s.heap.objs.size, upd H s.heap.objs.size (.lst ((TL.tl x).map fun c => V.str ⟨#[c]⟩)), I.laid hkeep (Nat.le_refl _) (show ObjOk X.prog X.w _ _ _ (.lst _) from ⟨?_, acc'.toList, c', ?_, ?_⟩), rfl, q _ (I.hok.fresh (Nat.le_refl _))⟩
  · rw [List.length_map, hl]; exact hz
  · have el : acc'.toList.length = acc'.size := by simp
    refine odd_vals_of_at (by rw [List.length_map, el, hacc.1, hl]) fun j y w h1 h2 => ?_
    obtain ⟨c, u, e1, e2⟩ := hacc.2 j w (by rw [← Array.getElem?_toList]; exact h2)
    have e3 : (TL.tl x)[j]? = some c := by
      show x.cps.toList[j]? = some c
      rw [Array.getElem?_toList]
      exact e1
    rw [List.getElem?_map, e3] at h1
    cases h1
    exact ⟨u, e2⟩
  · exact hS
end L2
namespace Odd
open PySem PySem.Spec PyProof.Rows L2
def topS (i : Nat) : Stmt := PySem.Challenge.pw_oddsquares_k04_texts_of_numbers_and_poin.main.body.getD i (.Pass ⟨0, 0, 0, 0⟩)
abbrev s_pair_of : Stmt := topS 2
theorem sc_pair_of : FnScope ["value"] ["value"] (defScope s_pair_of) := ⟨rfl, rfl, rfl, by decide +kernel, rfl, by decide +kernel, by decide +kernel⟩
abbrev s_is_integer : Stmt := topS 4
theorem sc_is_integer : FnScope ["value"] ["value"] (defScope s_is_integer) := ⟨rfl, rfl, rfl, by decide +kernel, rfl, by decide +kernel, by decide +kernel⟩
abbrev s_is_within : Stmt := topS 5
theorem sc_is_within : FnScope ["value", "least", "most"] ["value", "least", "most"] (defScope s_is_within) := ⟨rfl, rfl, rfl, by decide +kernel, rfl, by decide +kernel, by decide +kernel⟩
abbrev s_is_row : Stmt := topS 6
theorem sc_is_row : FnScope ["value"] ["value"] (defScope s_is_row) := ⟨rfl, rfl, rfl, by decide +kernel, rfl, by decide +kernel, by decide +kernel⟩
abbrev s_is_pair : Stmt := topS 7
theorem sc_is_pair : FnScope ["value"] ["value"] (defScope s_is_pair) := ⟨rfl, rfl, rfl, by decide +kernel, rfl, by decide +kernel, by decide +kernel⟩
abbrev s_is_number : Stmt := topS 8
theorem sc_is_number : FnScope ["value", "top", "under"] ["value"] (defScope s_is_number) := ⟨rfl, rfl, rfl, by decide +kernel, rfl, by decide +kernel, by decide +kernel⟩
abbrev s_is_point : Stmt := topS 9
theorem sc_is_point : FnScope ["value"] ["value"] (defScope s_is_point) := ⟨rfl, rfl, rfl, by decide +kernel, rfl, by decide +kernel, by decide +kernel⟩
abbrev s_point_of : Stmt := topS 16
theorem sc_point_of : FnScope ["value"] ["value"] (defScope s_point_of) := ⟨rfl, rfl, rfl, by decide +kernel, rfl, by decide +kernel, by decide +kernel⟩
abbrev s_number_in : Stmt := topS 18
theorem sc_number_in : FnScope ["value", "part"] ["value", "part"] (defScope s_number_in) := ⟨rfl, rfl, rfl, by decide +kernel, rfl, by decide +kernel, by decide +kernel⟩
abbrev s_point_in : Stmt := topS 19
theorem sc_point_in : FnScope ["value", "part"] ["value", "part"] (defScope s_point_in) := ⟨rfl, rfl, rfl, by decide +kernel, rfl, by decide +kernel, by decide +kernel⟩
abbrev s_number_text : Stmt := topS 22
theorem sc_number_text : FnScope ["value", "top", "under"] ["value"] (defScope s_number_text) := ⟨rfl, rfl, rfl, by decide +kernel, rfl, by decide +kernel, by decide +kernel⟩
abbrev s_is_count : Stmt := topS 23
theorem sc_is_count : FnScope ["text"] ["text"] (defScope s_is_count) := ⟨rfl, rfl, rfl, by decide +kernel, rfl, by decide +kernel, by decide +kernel⟩
abbrev s_parsed_number : Stmt := topS 24
theorem sc_parsed_number : FnScope ["text", "is_negative", "top_text", "stroke", "under_text", "top"] ["text"] (defScope s_parsed_number) := ⟨rfl, rfl, rfl, by decide +kernel, rfl, by decide +kernel, by decide +kernel⟩
abbrev s_read_number : Stmt := topS 25
theorem sc_read_number : FnScope ["text", "value"] ["text"] (defScope s_read_number) := ⟨rfl, rfl, rfl, by decide +kernel, rfl, by decide +kernel, by decide +kernel⟩
abbrev s_point_text : Stmt := topS 27
theorem sc_point_text : FnScope ["value", "x", "y"] ["value"] (defScope s_point_text) := ⟨rfl, rfl, rfl, by decide +kernel, rfl, by decide +kernel, by decide +kernel⟩
abbrev s_parsed_point : Stmt := topS 28
theorem sc_parsed_point : FnScope ["text", "words", "x", "y"] ["text"] (defScope s_parsed_point) := ⟨rfl, rfl, rfl, by decide +kernel, rfl, by decide +kernel, by decide +kernel⟩
abbrev s_read_point : Stmt := topS 29
theorem sc_read_point : FnScope ["text", "value"] ["text"] (defScope s_read_point) := ⟨rfl, rfl, rfl, by decide +kernel, rfl, by decide +kernel, by decide +kernel⟩
abbrev s__law_crate : Stmt := topS 31
theorem sc__law_crate : FnScope ["script", "cell"] ["script"] (defScope s__law_crate) := ⟨rfl, rfl, rfl, by decide +kernel, rfl, by decide +kernel, by decide +kernel⟩
abbrev s__law_pick : Stmt := topS 32
theorem sc__law_pick : FnScope ["crate", "many", "rest", "at", "cell", "mixed"] ["crate", "many"] (defScope s__law_pick) := ⟨rfl, rfl, rfl, by decide +kernel, rfl, by decide +kernel, by decide +kernel⟩
abbrev s__law_one_of : Stmt := topS 33
theorem sc__law_one_of : FnScope ["crate", "some"] ["crate", "some"] (defScope s__law_one_of) := ⟨rfl, rfl, rfl, by decide +kernel, rfl, by decide +kernel, by decide +kernel⟩
abbrev s__law_shared : Stmt := topS 34
theorem sc__law_shared : FnScope ["one", "other", "a", "b", "turn"] ["one", "other"] (defScope s__law_shared) := ⟨rfl, rfl, rfl, by decide +kernel, rfl, by decide +kernel, by decide +kernel⟩
abbrev s__law_read : Stmt := topS 35
theorem sc__law_read : FnScope ["text", "body", "values", "part", "top", "sign"] ["text"] (defScope s__law_read) := ⟨rfl, rfl, rfl, by decide +kernel, rfl, by decide +kernel, by decide +kernel⟩
abbrev s__law_read_two : Stmt := topS 36
theorem sc__law_read_two : FnScope ["text", "parts", "part"] ["text"] (defScope s__law_read_two) := ⟨rfl, rfl, rfl, by decide +kernel, rfl, by decide +kernel, by decide +kernel⟩
abbrev s__law_size : Stmt := topS 37
theorem sc__law_size : FnScope ["crate", "way"] ["crate"] (defScope s__law_size) := ⟨rfl, rfl, rfl, by decide +kernel, rfl, by decide +kernel, by decide +kernel⟩
abbrev s__law_drawn : Stmt := topS 38
theorem sc__law_drawn : FnScope ["crate", "top", "under", "shared"] ["crate"] (defScope s__law_drawn) := ⟨rfl, rfl, rfl, by decide +kernel, rfl, by decide +kernel, by decide +kernel⟩
abbrev s__law_written : Stmt := topS 39
theorem sc__law_written : FnScope ["pair"] ["pair"] (defScope s__law_written) := ⟨rfl, rfl, rfl, by decide +kernel, rfl, by decide +kernel, by decide +kernel⟩
abbrev s__law_bent : Stmt := topS 40
theorem sc__law_bent : FnScope ["crate", "text", "signs", "turn", "at", "way", "sign"] ["crate", "text"] (defScope s__law_bent) := ⟨rfl, rfl, rfl, by decide +kernel, rfl, by decide +kernel, by decide +kernel⟩
abbrev s__law_told : Stmt := topS 41
theorem sc__law_told : FnScope ["is_number_v", "text", "told", "error"] ["is_number_v", "text"] (defScope s__law_told) := ⟨rfl, rfl, rfl, by decide +kernel, rfl, by decide +kernel, by decide +kernel⟩
abbrev s__law_part : Stmt := topS 42
theorem sc__law_part : FnScope ["is_number_v", "value", "part", "error"] ["is_number_v", "value"] (defScope s__law_part) := ⟨rfl, rfl, rfl, by decide +kernel, rfl, by decide +kernel, by decide +kernel⟩
abbrev s_law : Stmt := topS 43
theorem sc_law : FnScope ["script", "crate", "turn", "x", "y", "one", "two", "part", "bent", "other", "great", "number", "texts", "text", "bad", "odd", "far"] ["script"] (defScope s_law) := ⟨rfl, rfl, rfl, by decide +kernel, rfl, by decide +kernel, by decide +kernel⟩
structure Ads where
  (f_pair_of : Addr) (d_pair_of : FuncData)
  (f_is_integer : Addr) (d_is_integer : FuncData)
  (f_is_within : Addr) (d_is_within : FuncData)
  (f_is_row : Addr) (d_is_row : FuncData)
  (f_is_pair : Addr) (d_is_pair : FuncData)
  (f_is_number : Addr) (d_is_number : FuncData)
  (f_is_point : Addr) (d_is_point : FuncData)
  (f_point_of : Addr) (d_point_of : FuncData)
  (f_number_in : Addr) (d_number_in : FuncData)
  (f_point_in : Addr) (d_point_in : FuncData)
  (f_number_text : Addr) (d_number_text : FuncData)
  (f_is_count : Addr) (d_is_count : FuncData)
  (f_parsed_number : Addr) (d_parsed_number : FuncData)
  (f_read_number : Addr) (d_read_number : FuncData)
  (f_point_text : Addr) (d_point_text : FuncData)
  (f_parsed_point : Addr) (d_parsed_point : FuncData)
  (f_read_point : Addr) (d_read_point : FuncData)
  (f__law_crate : Addr) (d__law_crate : FuncData)
  (f__law_pick : Addr) (d__law_pick : FuncData)
  (f__law_one_of : Addr) (d__law_one_of : FuncData)
  (f__law_shared : Addr) (d__law_shared : FuncData)
  (f__law_read : Addr) (d__law_read : FuncData)
  (f__law_read_two : Addr) (d__law_read_two : FuncData)
  (f__law_size : Addr) (d__law_size : FuncData)
  (f__law_drawn : Addr) (d__law_drawn : FuncData)
  (f__law_written : Addr) (d__law_written : FuncData)
  (f__law_bent : Addr) (d__law_bent : FuncData)
  (f__law_told : Addr) (d__law_told : FuncData)
  (f__law_part : Addr) (d__law_part : FuncData)
  (f_law : Addr) (d_law : FuncData)
  (c_BadNumber i_BadNumber : Addr)
  (c_BadPoint i_BadPoint : Addr)
  (c_BadText i_BadText : Addr)
structure DefOk (K : PySem.W.Frag) (mg : Str → Option Value) (x : Str) (st : Stmt) (f : Addr) (fd : FuncData) (ps : List Str) : Prop where
  g : mg x = some (.ref f)
  F : Fun K x x st f fd
  b : Binds K fd ps []
structure Txt (K : PySem.W.Frag) (mg : Str → Option Value) (A : Ads) : Prop where
  pair_of : DefOk K mg "pair_of" s_pair_of A.f_pair_of A.d_pair_of ["value"]
  is_integer : DefOk K mg "is_integer" s_is_integer A.f_is_integer A.d_is_integer ["value"]
  is_within : DefOk K mg "is_within" s_is_within A.f_is_within A.d_is_within ["value", "least", "most"]
  is_row : DefOk K mg "is_row" s_is_row A.f_is_row A.d_is_row ["value"]
  is_pair : DefOk K mg "is_pair" s_is_pair A.f_is_pair A.d_is_pair ["value"]
  is_number : DefOk K mg "is_number" s_is_number A.f_is_number A.d_is_number ["value"]
  is_point : DefOk K mg "is_point" s_is_point A.f_is_point A.d_is_point ["value"]
  point_of : DefOk K mg "point_of" s_point_of A.f_point_of A.d_point_of ["value"]
  number_in : DefOk K mg "number_in" s_number_in A.f_number_in A.d_number_in ["value", "part"]
  point_in : DefOk K mg "point_in" s_point_in A.f_point_in A.d_point_in ["value", "part"]
  number_text : DefOk K mg "number_text" s_number_text A.f_number_text A.d_number_text ["value"]
  is_count : DefOk K mg "is_count" s_is_count A.f_is_count A.d_is_count ["text"]
  parsed_number : DefOk K mg "parsed_number" s_parsed_number A.f_parsed_number A.d_parsed_number ["text"]
  read_number : DefOk K mg "read_number" s_read_number A.f_read_number A.d_read_number ["text"]
  point_text : DefOk K mg "point_text" s_point_text A.f_point_text A.d_point_text ["value"]
  parsed_point : DefOk K mg "parsed_point" s_parsed_point A.f_parsed_point A.d_parsed_point ["text"]
  read_point : DefOk K mg "read_point" s_read_point A.f_read_point A.d_read_point ["text"]
  _law_crate : DefOk K mg "_law_crate" s__law_crate A.f__law_crate A.d__law_crate ["script"]
  _law_pick : DefOk K mg "_law_pick" s__law_pick A.f__law_pick A.d__law_pick ["crate", "many"]
  _law_one_of : DefOk K mg "_law_one_of" s__law_one_of A.f__law_one_of A.d__law_one_of ["crate", "some"]
  _law_shared : DefOk K mg "_law_shared" s__law_shared A.f__law_shared A.d__law_shared ["one", "other"]
  _law_read : DefOk K mg "_law_read" s__law_read A.f__law_read A.d__law_read ["text"]
  _law_read_two : DefOk K mg "_law_read_two" s__law_read_two A.f__law_read_two A.d__law_read_two ["text"]
  _law_size : DefOk K mg "_law_size" s__law_size A.f__law_size A.d__law_size ["crate"]
  _law_drawn : DefOk K mg "_law_drawn" s__law_drawn A.f__law_drawn A.d__law_drawn ["crate"]
  _law_written : DefOk K mg "_law_written" s__law_written A.f__law_written A.d__law_written ["pair"]
  _law_bent : DefOk K mg "_law_bent" s__law_bent A.f__law_bent A.d__law_bent ["crate", "text"]
  _law_told : DefOk K mg "_law_told" s__law_told A.f__law_told A.d__law_told ["is_number_v", "text"]
  _law_part : DefOk K mg "_law_part" s__law_part A.f__law_part A.d__law_part ["is_number_v", "value"]
  law : DefOk K mg "law" s_law A.f_law A.d_law ["script"]
  low_BadNumber : PySem.LowX.LowTxt "BadNumber" "BadNumber.__init__" K mg A.c_BadNumber A.i_BadNumber
  low_BadPoint : PySem.LowX.LowTxt "BadPoint" "BadPoint.__init__" K mg A.c_BadPoint A.i_BadPoint
  low_BadText : PySem.LowX.LowTxt "BadText" "BadText.__init__" K mg A.c_BadText A.i_BadText
  n_len : mg "len" = none
  n_abs : mg "abs" = none
  n_repr : mg "repr" = none
  n_isinstance : mg "isinstance" = none
  n_int : mg "int" = none
  n_bool : mg "bool" = none
  n_list : mg "list" = none
  n_tuple : mg "tuple" = none
  n_range : mg "range" = none
  n_str : mg "str" = none
  ex_N : ExcC K A.c_BadNumber
  ex_P : ExcC K A.c_BadPoint
  ki_N : PySem.W.kitOne K (.ref A.c_BadNumber) (.ref A.c_BadNumber) = some true
  ki_P : PySem.W.kitOne K (.ref A.c_BadPoint) (.ref A.c_BadNumber) = some false
  am_N : PySem.W.exmAny K (.ref A.c_BadNumber) [.ref A.c_BadNumber, .ref A.c_BadPoint] = some true
  am_P : PySem.W.exmAny K (.ref A.c_BadPoint) [.ref A.c_BadNumber, .ref A.c_BadPoint] = some true
  g_gcd : mg "gcd" = some (.builtin "math.gcd")
  g_MOST_DIGITS : ∃ t, mg "MOST_DIGITS" = some (.int 60 t)
end Odd
namespace Odd
open PySem PySem.Spec PyProof.Rows L2
/-! ### repr of lists and tuples: it asks that no such text is being made around; so what is known of the guards goes along -/
def rRepr (K : PySem.W.Frag) : List V → Hp → VK → Prop := fun xs H Q => ∃ a d, xs = [.ref a] ∧ Dp K H (.ref a) d ∧ d.showable = true ∧ d.hasDict = false ∧ d.depth ≤ 60 ∧ d.shown.length ≤ sizeLine ∧ Q (.str d.shown) H
theorem call_reprD {X : Cx} (hg : X.A.guards = some []) (hu : X.A.units + 64 < cLine) : CallR X (.builtin "repr") (rRepr X.K) := by
  intro pins s σ H xs us Q I r h
  obtain ⟨a, d, rfl, hd, h1, h2, h3, h4, q⟩ := h
  obtain ⟨u, rfl, e⟩ := vals1 r
  obtain rfl : u = Value.ref a := e
  obtain ⟨as, hr⟩ := Dp.reads I d _ _ hd rfl
  exact repr_of_reads' hr h1 (PyData.noDict_hsm h2) hg (by omega) (fun _ _ z => z) (fun h' t tk k => ⟨.str d.shown, H, I.kept (h' := h') (t' := tk) k, ⟨t, rfl⟩, q⟩) h4
/-- a def's promise where the guards are known to be none -/
structure GOk (P : Program) (w : World) (K : PySem.W.Frag) (mg : Str → Option Value) (base : Heap) (CX : CXT) (k : Nat) (f : Addr) (fd : FuncData) (ps : List Str) (sp : Sp) : Prop where
  size : ∀ vs H Q E, sp vs H Q E → vs.length = ps.length
  go : ∀ {A : Around} {outer : List Env} {s : Shared} {H : Hp} {args : Args} {us : List Value} {vs : List V} {Q : VK} {E : XK}, A.guards = some [] → Room k A → Env0 P w K mg base A outer s H →
    BindsTo s fd args (ps.zip us) → Vals vs us → sp vs H Q E → codeAny (model P w) A (.call (.ref f) args) (CR CX outer P w H s Q E) s
section
variable {P : Program} {w : World} {K : PySem.W.Frag} {mg : Str → Option Value} {base : Heap}
/-- from a def's text and its body -/
theorem gok {x qual : Str} {st : Stmt} {f : Addr} {fd : FuncData} {N ps : List Str} {k : Nat} {sp : Sp} (F : Fun K x qual st f fd) (S : FnScope N ps (defScope st)) (size : ∀ vs H Q E, sp vs H Q E → vs.length = ps.length)
    (body : ∀ (cdv : Value) (A : Around) (outer : List Env) (s : Shared) (H : Hp) (vs : List V) (Q : VK) (E : XK), A.guards = some [] → Room k (A.deeper (envOfC qual (defScope st) s.heap.objs.size f cdv)) → sp vs H Q E →
      ∃ t, PSs (cxOf CX0 P w K mg base N qual (defScope st) f cdv A outer s H E).nox (defBody st) t ∧ t { nx := fun _ H' => Q .non H', rt := Q } (start N vs) H) : GOk P w K mg base CX0 (k + 1) f fd ps sp := by
  obtain ⟨oc, od, kV, doc, pm, an, cdv, ct, osl, rfl, lk, hcd⟩ := F.ex
  constructor
  · exact size
  intro A outer s H args us vs Q E hg hr e0 hb r hsp
  have up := fun b o (e : base.get? b = some o) => (e0.bs b o e).1
  have In := e0.mod.kin.keeps up
  have free := e0.mod.nolimit.keeps up
  have kinds : ∀ y ∈ ps.zip us, (defScope st).names.lookup y.1 = some .local ∨ ((defScope st).names.lookup y.1 = some .cell ∧ ((cellsFrom (s.heap.objs.size + 1) (defScope st).names []).lookup y.1).isSome = true) := by
    rintro ⟨n, v⟩ hy
    cases S.par n (List.of_mem_zip hy).1 with
    | inl q => exact Or.inl q
    | inr q => exact Or.inr ⟨q, PySem.W.cellsFrom_some _ _ _ (Or.inl q)⟩
  apply codeAny_call_function hr.depth (In _ _ lk) rfl S.co S.gen rfl (PySem.W.codeRec_of In hcd)
  apply hb
  apply wpAny_newFunctionEnv_cells S.kind kinds
  rintro env rfl s1 x
  refine ⟨free.keeps x.toInCall.keep, codeAny_func ?_⟩
  obtain ⟨t, ht, hq⟩ := body cdv A outer s H vs Q E hg (hr.deeper _) hsp
  have I := inv_start (CX := CX0) (mg := mg) (base := base) (E := E) S hr.hd e0 (size _ _ _ _ hsp) r x
  apply wpAny_mono (ht.nox.run [] s1 (start N vs) H _ I hq) _ (fun e s' hs => hs)
  intro fl s' hs
  cases fl with
  | ret u =>
    obtain ⟨v, σ', H', J, rv, q⟩ := hs
    exact ⟨v, H', J.os, J.bare, J.base, J.hok, rv, q⟩
  | next =>
    obtain ⟨σ', H', J, q⟩ := hs
    exact ⟨.non, H', J.os, J.bare, J.base, J.hok, rfl, q⟩
  | brk => exact hs.elim fun _ z => z.elim fun _ z => z.2.elim
  | cont => exact hs.elim fun _ z => z.elim fun _ z => z.2.elim
end
section
variable {X : Cx} {k : Nat} {f : Addr} {fd : FuncData} {ps : List Str} {sp : Sp} {x : Str} {p pos : Pos} {e : Expr} {es : List Expr} {t : TA}
theorem pe_callG (F : GOk X.prog X.w X.K X.mg X.base CX0 k f fd ps sp) (hgu : X.A.guards = some []) (hr : Room k X.A) (hg : Gl X x) (hm : X.mg x = some (.ref f)) (hk : PySem.W.keepIn X.K (.ref f) = true) (hb : Binds X.K fd ps [])
    (ha : PA X (e :: es) t) (hdb : (x == ("__debug__" : Str)) = false := by decide) (he : starEach (e :: es) X.env = (false, eval e X.env) :: starEach es X.env := by rfl) (hpl : (backTo pos (starEach es X.env)).any (·.1) = false := by rfl) :
    PE X (.Call (.Name x p) (e :: es) [] pos) (tCall sp [] E0 t) := by
  constructor
  intro pins s σ H Q I h
  apply wpAny_Call_Name_kw
  apply ld_glob I hg hm _ hdb
  apply PySem.W.callWith_K (h₀ := X.base) I.ok.mod.kin hk _ he hpl
  apply thn (ha.run pos pins s σ H _ I h)
  rintro us s1 ⟨vs, H1, I1, r, q⟩
  refine ⟨I1.kIn, wpAny_call (codeAny_mono (F.go hgu hr I1.env0 ?_ (vs := vs) (us := us) (Q := Q) (E := E0) r (by rw [List.append_nil] at q; exact q)) ?_)⟩
  · have b := hb s1 us I1.kIn (by rw [List.append_nil, ← r.length]; rw [List.append_nil] at q; exact F.size _ _ _ _ q)
    rwa [List.append_nil] at b
  · intro r' s' hq
    match r', hq with
    | .error e, hq => exact hq.elim
    | .ok (.ret u), hq => exact I1.after hq
end
end Odd
namespace Odd
open PySem PySem.Spec PyProof.Rows L2
/-! ### the end of a law whose def's promise speaks of the guards -/
/-- the script as the only thing that is tracked, or nothing at all -/
def scrH (a : Addr) (ob : Obj) (ns : List Int) (t : Bool) : Hp := fun b => if b = a ∧ t = true then some (.frz ob (.lst (ns.map V.int))) else none
theorem scrH_at {a b : Addr} {ob : Obj} {ns : List Int} {t : Bool} {u : HO} (h : scrH a ob ns t b = some u) : b = a ∧ t = true ∧ u = .frz ob (.lst (ns.map V.int)) := by
  unfold scrH at h
  split at h
  · rename_i c
    exact ⟨c.1, c.2, (Option.some.inj h).symm⟩
  · cases h
theorem walk_ofG {l : PySem.W.OpenLaw} {n k : Nat} {q : Program} {loose : List Str} {XP : (Str → Option Value) → Heap → Prop} {YP : World → Heap → Prop} {d : DefRec} {K : Params → PySem.W.Frag} {sp : World → Sp} {x : Str}
    (hn : l.most = some n) (hn2 : n ≤ sizeLine) (hdf : d.params.defaults = []) (hr : Room k callerA) (hY : ∀ (w : World) (h : Heap), YP w h → (K w.params).In h)
    (F : ∀ (w : World) (mg : Str → Option Value) (fa : Addr) (h : Heap), (K w.params).In h → h.Ns mainGlobals mg → mg d.name = some (.ref fa) →
      ∃ fd : FuncData, (∀ (s : Shared) (u : Value), BindsTo s fd ⟨[u], []⟩ [(x, u)]) ∧ ∀ base : Heap, (K w.params).In base → base.Ns mainGlobals mg → GOk l.prog w (K w.params) mg base CX0 k fa fd [x] (sp w))
    (hsp : ∀ (w : World) (H : Hp) (a : Addr) (ns : List Int), ns.length ≤ n → SqL (K w.params) H a (ns.map V.int) → sp w [.ref a] H (fun v _ => v = .bl true) E0) :
    PySem.W.WalkO q loose XP YP l.row.toRowW d [] (fun f vs => PySem.call f vs) := by
  refine Att.attach_call hn hdf fun w s₀ s₁ mg mb fa o pm cd doc a vs ns G Y ho hd hcd hmg hobj hints hlen hg => ?_
  have KX := hY w _ Y
  obtain ⟨fd, hbind, hF⟩ := F w mg fa _ KX G.T.g hmg
  have rv := vals_ints hints
  -- tracked: unless it stands in the written part
  obtain ⟨t, ht⟩ : ∃ t : Bool, t = true ↔ (K w.params).lookup a = none := by
    cases e : (K w.params).lookup a with
    | none => exact ⟨true, by simp⟩
    | some o => exact ⟨false, by simp⟩
  let ob : Obj := { cls := .type "list", data := .seq vs.toArray }
  have hob : s₁.heap.get? a = some ob := hobj
  have hok : HOk l.prog w (scrH a ob ns t) s₁.heap := by
    intro b u z
    obtain ⟨rfl, _, rfl⟩ := scrH_at z
    exact ⟨hob, by rw [List.length_map]; exact Nat.le_trans hlen hn2, vs, _, rv, hob⟩
  have hS : SqL (K w.params) (scrH a ob ns t) a (ns.map V.int) := by
    cases t with
    | true => exact .inl (.inr ⟨ob, if_pos ⟨rfl, rfl⟩⟩)
    | false =>
      cases e : (K w.params).lookup a with
      | none => exact absurd (ht.mpr e) Bool.false_ne_true
      | some o =>
        have e' := KX a o e
        rw [hob] at e'
        cases e'
        exact .inr ⟨_, vs.toArray, _, e, rfl, rfl, rfl, by rw [List.size_toArray, hints.length]; exact Nat.le_trans hlen hn2, by simpa using rv⟩
  -- what the top has left is not tracked
  have apart : ∀ {b : Addr} {ob' : Obj}, s₁.heap.get? b = some ob' → (∀ n' its, ob'.data ≠ .seq its n') ∨ (K w.params).lookup b ≠ none → scrH a ob ns t b = none := by
    intro b ob' e h
    cases z : scrH a ob ns t b with
    | none => rfl
    | some u =>
      obtain ⟨rfl, ht', _⟩ := scrH_at z
      rcases h with h | h
      · rw [hob] at e
        cases e
        exact absurd rfl (h _ _)
      · exact absurd (ht.mp ht') h
  have ns2 : ∀ {b : Addr} {m : Str → Option Value}, s₁.heap.Ns b m → (hidT s₁.heap (scrH a ob ns t)).Ns b m := by
    rintro b m ⟨o', es, ep, e, dd, r⟩
    exact ⟨o', es, ep, hidT_get e (apart e (.inl fun n' its z => by rw [dd] at z; cases z)), dd, r⟩
  have kin : (K w.params).In (hidT s₁.heap (scrH a ob ns t)) := fun b o' e => hidT_get (KX b o' e) (apart (KX b o' e) (.inr fun z => by rw [z] at e; cases e))
  obtain ⟨mc, lim1, lim2⟩ := G.T.nolimit
  have e0 : Env0 l.prog w (K w.params) mg (hidT s₁.heap (scrH a ob ns t)) callerA [] s₁ (scrH a ob ns t) :=
    ⟨rfl, ⟨kin, ns2 G.T.g, ⟨mb, ns2 G.T.b, G.T.builtins⟩, mc, ns2 lim1, lim2⟩, fun b o' e => of_hidT e, Nat.le_of_eq (hidT_size _ _), trivial, fun b hb => absurd (show b ∈ ([] : List Addr) from hb) (by simp), hok, .of_eq hg⟩
  refine codeAny_mono ((hF _ kin (ns2 G.T.g)).go (us := [.ref a]) (vs := [.ref a]) rfl hr e0 (hbind s₁ (.ref a)) (.cons rfl .nil) (hsp w _ a ns hlen hS)) ?_
  intro r s' h
  match r, h with
  | .error e, h => exact h.elim
  | .ok (.ret u), h =>
    obtain ⟨v, H', os, bare, un, hok', r', qq⟩ := h
    obtain rfl : v = .bl true := qq
    obtain rfl : u = Value.bool true := r'
    refine ⟨rfl, OldK.of_keep fun b ob' e => ?_, os, bare⟩
    cases z : scrH a ob ns t b with
    | none => exact un.keep b ob' e z (by intro y; exact absurd (show b ∈ ([] : List Addr) from y) (by simp)) (by simp)
    | some u =>
      obtain ⟨rfl, ht', rfl⟩ := scrH_at z
      have z2 := un.frzs b ob _ z
      obtain ⟨e2, _⟩ := hok' b _ z2
      rw [hob] at e
      cases e
      exact e2
end Odd
namespace Odd
open PySem PySem.Spec PyProof.Rows L2
local macro_rules | `(tactic| walk_at "vc") => `(tactic| simp only [tSeq, tAsg, gName, tCB, tCons, tNil, tVar, tC, tOp, tUn, rI0, rI, rU, tTup, tLst, tIfS, tTest, tB, tRet, tNext, rGcd, L2.start, List.map, List.set, List.replicate, List.cons_append, List.nil_append, List.length_cons, List.length_nil, List.getElem?_cons_succ, List.getElem?_cons_zero, Option.some.injEq, exists_eq_left', exists_eq_left, List.append_nil, List.cons.injEq, V.int.injEq, exists_and_left, and_true, true_and, and_assoc, exists_const, V.bl.injEq, V.ref.injEq, Nat.sub_self, Nat.reduceAdd, Nat.reduceSub, List.replicate_succ, List.replicate_zero, tAnd, tOr, tNot, tAndV, tOrV, tNotV, tIf, tCall, tCallK, tDrop, rEq, rNe, decide_eq_true_eq, Bool.not_eq_true', decide_eq_false_iff_not, Bool.false_eq_true, if_true, if_false, reduceIte, reduceCtorEq, tMkLow, tRaiseLow, rIsB, rNotB, tBreak, tPar, gSub, rSetL, tChain, gTup, gCons, gNil, gSeq, cx_K, cx_Kn, optV, V.str.injEq, Bool.not_true, Bool.not_false, false_and, and_false, or_false, false_or, exists_false, tCallN, tCallS, tPairs])
section
theorem iteN {A B : Prop} (h : A) : if false = false then A else B := by
  rw [if_pos rfl]
  exact h
theorem iteF' {A B : Prop} {b : Bool} (hb : b = true) (h : B) : if b = false then A else B := by
  subst hb
  rw [if_neg (by decide)]
  exact h
variable {P : Program} {w : World} {K : PySem.W.Frag} {mg : Str → Option Value} {base : Heap} {A : Ads}
def spPairOf (K : PySem.W.Frag) : Sp := fun vs H Q _ => ∃ v a, vs = [v] ∧ Num K H v a ∧ RetP K H a Q
theorem ok_pair_of (T : Txt K mg A) : FnOk P w K mg base CX0 1 A.f_pair_of A.d_pair_of ["value"] (spPairOf K) := by
  refine T.pair_of.F.ok sc_pair_of (fun vs H Q E h => ?_) (fun cdv A' outer s H vs Q E hr h => ?_)
  · obtain ⟨t, u, rfl, _⟩ := h; rfl
  · obtain ⟨v, a, rfl, hn, q⟩ := h
    refine ⟨_, (pss_cons (ps_if (pt_val (pe_callB call_isiT (by rfl) T.n_isinstance bt_isinstance (pa_cons (pv 0) (pa_cons (pe_tup (pa_cons (pe_bltn (v := .ty "list") (by rfl) T.n_list bt_list rfl) (pa_cons (pe_bltn (v := .ty "tuple") (by rfl) T.n_tuple bt_tuple rfl) pa_nil))) pa_nil)))) (pss_one (ps_ret (pe_callTy call_tuple_of (by rfl) T.n_tuple bt_tuple (pa_cons (pv 0) pa_nil)))) pss_nil)
      (pss_one (ps_ret (pe_tup (pa_cons (pv 0) (pa_cons pe_int pa_nil)))))), ?_⟩
    walk_at "vc"
    refine ⟨by decide, fun p hp => ?_⟩
    have sp := same_upd (o := .tup [.ty "list", .ty "tuple"]) hp
    cases hn with
    | int n =>
      refine ty_row (.int n) upd_same ⟨_, rfl, iteF ⟨by decide, fun p2 hp2 => q _ _ (sp.trans (same_upd hp2)) (st_of upd_same)⟩⟩
    | sq h c =>
      obtain ⟨U, hU, e⟩ := (h.same sp).ty
      refine ty_row hU upd_same ⟨_, rfl, ?_⟩
      rw [e]
      refine iteT ⟨_, rfl, ?_⟩
      rcases h with h | h
      · exact ⟨_, .inl ⟨sp.seq h, fun l hl => q _ _ (sp.trans (same_upd hl)) (st_of upd_same)⟩⟩
      · exact ⟨_, .inr ⟨same_tup sp h, q _ _ sp (same_tup sp h)⟩⟩
def spIsInteger (K : PySem.W.Frag) : Sp := fun vs H Q _ => ∃ v U, vs = [v] ∧ TyN K H v U ∧ RetV H (.bl (U == "int")) Q
theorem ok_is_integer (T : Txt K mg A) : FnOk P w K mg base CX0 1 A.f_is_integer A.d_is_integer ["value"] (spIsInteger K) := by
  refine T.is_integer.F.ok sc_is_integer (fun vs H Q E h => ?_) (fun cdv A' outer s H vs Q E hr h => ?_)
  · obtain ⟨_, _, rfl, _⟩ := h; rfl
  · obtain ⟨v, U, rfl, hv, q⟩ := h
    refine ⟨_, (pss_one (ps_ret (pe_and (pe_callB call_isi (by rfl) T.n_isinstance bt_isinstance (pa_cons (pv 0) (pa_cons (pe_bltn (v := .ty "int") (by rfl) T.n_int bt_int rfl) pa_nil))) (pe_one (pe_not (pe_callB call_isi (by rfl) T.n_isinstance bt_isinstance (pa_cons (pv 0) (pa_cons (pe_bltn (v := .ty "bool") (by rfl) T.n_bool bt_bool rfl) pa_nil)))))))), ?_⟩
    walk_at "vc"
    have q := q H (Same.refl H)
    refine ty_int hv ⟨_, rfl, ?_⟩
    cases e : (U == "int" || U == "bool") with
    | true =>
      refine iteT (ty_bool hv ⟨_, rfl, ?_⟩)
      rw [← is_int U hv, e] at q
      exact q
    | false =>
      refine iteF ?_
      rw [← is_int U hv, e] at q
      exact q
def spWithin (K : PySem.W.Frag) : Sp := fun vs H Q _ => ∃ v lo hi, vs = [v, optV lo, optV hi] ∧ ((∃ U, TyN K H v U ∧ U ≠ "int" ∧ RetV H (.bl false) Q) ∨ ∃ n, v = .int n ∧ RetV H (.bl (lo.all (fun l => decide (l ≤ n)) && hi.all (fun m => decide (n ≤ m)))) Q)
theorem ok_is_within (T : Txt K mg A) : FnOk P w K mg base CX0 2 A.f_is_within A.d_is_within ["value", "least", "most"] (spWithin K) := by
  refine T.is_within.F.ok sc_is_within (fun vs H Q E h => ?_) (fun cdv A' outer s H vs Q E hr h => ?_)
  · obtain ⟨_, _, _, rfl, _⟩ := h; rfl
  · obtain ⟨v, lo, hi, rfl, h⟩ := h
    refine ⟨_, (pss_cons (ps_if (pt_not (pt_val (pe_call (ok_is_integer T) (hr.mono (by decide)) (by rfl) T.is_integer.g T.is_integer.F.kp T.is_integer.b .nil pass0 (pa_cons (pv 0) pa_nil)))) (pss_one (ps_ret pe_bl)) pss_nil)
      (pss_cons (ps_if (PW.pt (pw_and (pt_cmpR op_notN (pv 1) pe_non (nomark _)) (pw_and1 (pt_cmpR op_lt (pv 0) (pv 1) (nomark _))))) (pss_one (ps_ret pe_bl)) pss_nil)
      (pss_one (ps_ret (pe_or (pe_cmpR op_isN (pv 2) pe_non (nomark _)) (pe_one (pe_cmpR op_le (pv 0) (pv 2) (nomark _)))))))), ?_⟩
    walk_at "vc"
    rcases h with ⟨U, hv, hU, q⟩ | ⟨n, rfl, q⟩
    · refine ⟨v, U, rfl, hv, fun H' sH => ⟨_, rfl, ?_⟩⟩
      rw [beq_false_of_ne hU]
      exact q H' sH
    · refine ⟨_, _, rfl, .int n, fun H' sH => ⟨_, rfl, ?_⟩⟩
      have q := q H' sH
      rw [if_neg (by decide)]
      cases lo with
      | none =>
        cases hi with
        | none => walk_at "vc"; exact q
        | some m => walk_at "vc"; simpa using q
      | some l =>
        by_cases hl : l ≤ n
        · cases hi with
          | none =>
            have hl' : ¬ n < l := by omega
            simp [hl, hl'] at q ⊢
            exact q
          | some m =>
            have hl' : ¬ n < l := by omega
            simp [hl, hl'] at q ⊢
            exact q
        · have hl' : n < l := by omega
          cases hi with
          | none =>
            simp [hl, hl'] at q ⊢
            exact q
          | some m =>
            simp [hl, hl'] at q ⊢
            exact q
def spIsRow (K : PySem.W.Frag) : Sp := fun vs H Q _ => ∃ v U, vs = [v] ∧ TyN K H v U ∧ RetV H (.bl (U == "list" || U == "tuple")) Q
theorem ok_is_row (T : Txt K mg A) : FnOk P w K mg base CX0 1 A.f_is_row A.d_is_row ["value"] (spIsRow K) := by
  refine T.is_row.F.ok sc_is_row (fun vs H Q E h => ?_) (fun cdv A' outer s H vs Q E hr h => ?_)
  · obtain ⟨_, _, rfl, _⟩ := h; rfl
  · obtain ⟨v, U, rfl, hv, q⟩ := h
    refine ⟨_, (pss_one (ps_ret (pe_callB call_isiT (by rfl) T.n_isinstance bt_isinstance (pa_cons (pv 0) (pa_cons (pe_tup (pa_cons (pe_bltn (v := .ty "list") (by rfl) T.n_list bt_list rfl) (pa_cons (pe_bltn (v := .ty "tuple") (by rfl) T.n_tuple bt_tuple rfl) pa_nil))) pa_nil))))), ?_⟩
    walk_at "vc"
    refine ⟨by decide, fun p hp => ?_⟩
    have sp := same_upd (o := .tup [.ty "list", .ty "tuple"]) hp
    exact ty_row (hv.same sp) upd_same (q _ sp)
/-- is_pair: a list or tuple of two | no list, no tuple | one of another length -/
def spIsPair (K : PySem.W.Frag) : Sp := fun vs H Q _ => ∃ v, vs = [v] ∧ ((∃ U, TyN K H v U ∧ U ≠ "list" ∧ U ≠ "tuple" ∧ RetV H (.bl false) Q) ∨ (∃ p xs, v = .ref p ∧ Sq K H p xs ∧ RetV H (.bl (decide (xs.length = 2))) Q))
theorem ok_is_pair (T : Txt K mg A) : FnOk P w K mg base CX0 2 A.f_is_pair A.d_is_pair ["value"] (spIsPair K) := by
  refine T.is_pair.F.ok sc_is_pair (fun vs H Q E h => ?_) (fun cdv A' outer s H vs Q E hr h => ?_)
  · obtain ⟨_, rfl, _⟩ := h; rfl
  · obtain ⟨v, rfl, h⟩ := h
    refine ⟨_, (pss_one (ps_ret (pe_and (pe_call (ok_is_row T) (hr.mono (by decide)) (by rfl) T.is_row.g T.is_row.F.kp T.is_row.b .nil pass0 (pa_cons (pv 0) pa_nil)) (pe_one (pe_cmpR op_eq (pe_callB call_len_seq (by rfl) T.n_len bt_len (pa_cons (pv 0) pa_nil)) pe_int (nomark _)))))), ?_⟩
    walk_at "vc"
    rcases h with ⟨U, hv, h1, h2, q⟩ | ⟨p, xs, rfl, hx, q⟩
    · refine ⟨v, U, rfl, hv, fun H' sH => ⟨_, rfl, ?_⟩⟩
      rw [beq_false_of_ne h1, beq_false_of_ne h2]
      exact iteF (q H' sH)
    · obtain ⟨U, hU, e⟩ := hx.ty
      refine ⟨_, U, rfl, hU, fun H' sH => ⟨_, rfl, ?_⟩⟩
      rw [e]
      refine iteT ?_
      walk_at "vc"
      have q := q H' sH
      have e2 : decide ((xs.length : Int) = 2) = decide (xs.length = 2) := by
        by_cases z : xs.length = 2
        · rw [decide_eq_true z, decide_eq_true (by omega)]
        · rw [decide_eq_false z, decide_eq_false (by omega)]
      refine ⟨xs, hx.same sH, rfl, ?_⟩
      rw [e2]
      exact q
def spIsNumber (K : PySem.W.Frag) : Sp := fun vs H Q _ => ∃ v, vs = [v] ∧ ((∃ q, Num K H v q ∧ RetV H (.bl true) Q) ∨ (Bad K H v ∧ RetV H (.bl false) Q))
theorem ok_is_number (T : Txt K mg A) : FnOk P w K mg base CX0 3 A.f_is_number A.d_is_number ["value"] (spIsNumber K) := by
  refine T.is_number.F.ok sc_is_number (fun vs H Q E h => ?_) (fun cdv A' outer s H vs Q E hr h => ?_)
  · obtain ⟨_, rfl, _⟩ := h; rfl
  · obtain ⟨v, rfl, h⟩ := h
    refine ⟨_, (pss_cons (ps_if (pt_not (pt_val (pe_call (ok_is_pair T) (hr.mono (by decide)) (by rfl) T.is_pair.g T.is_pair.F.kp T.is_pair.b .nil pass0 (pa_cons (pv 0) pa_nil)))) (pss_one (ps_ret (pe_call (ok_is_integer T) (hr.mono (by decide)) (by rfl) T.is_integer.g T.is_integer.F.kp T.is_integer.b .nil pass0 (pa_cons (pv 0) pa_nil)))) pss_nil)
      (pss_cons (ps_asg (pv 0) (pg_seq2 rfl (pgs_cons (pg_name (i := 1) sc_is_number.nd rfl (.inl rfl)) (pgs_cons (pg_name (i := 2) sc_is_number.nd rfl (.inl rfl)) pgs_nil))))
      (pss_one (ps_ret (pe_and (pe_call (ok_is_integer T) (hr.mono (by decide)) (by rfl) T.is_integer.g T.is_integer.F.kp T.is_integer.b .nil pass0 (pa_cons (pv 1) pa_nil)) (pe_and (pe_call (ok_is_within T) (hr.mono (by decide)) (by rfl) T.is_within.g T.is_within.F.kp T.is_within.b .nil pass0 (pa_cons (pv 2) (pa_cons pe_int (pa_cons pe_non pa_nil)))) (pe_one (pe_cmpR op_eq (pe_callBfun cr_gcd (by rfl) T.g_gcd (pa_cons (pv 1) (pa_cons (pv 2) pa_nil))) pe_int (nomark _))))))))), ?_⟩
    walk_at "vc"
    have ok : ∀ (p : Addr) (a b : Int) (c : Bool), (c = true ↔ Canon (a, b)) → RetV H (.bl c) Q → ∀ a' b' : Int, V.int a = .int a' → V.int b = .int b' → RetV H (.bl (decide (1 ≤ b') && decide (((Nat.gcd a'.natAbs b'.natAbs : Nat) : Int) = 1))) Q := fun p a b c hc q a' b' e1 e2 => by
      cases e1
      cases e2
      have : (decide (1 ≤ b) && decide (((Nat.gcd a.natAbs b.natAbs : Nat) : Int) = 1)) = c := by
        rw [Bool.eq_iff_iff, hc, Bool.and_eq_true, decide_eq_true_eq, decide_eq_true_eq]
        constructor
        · rintro ⟨z1, z2⟩; exact ⟨z1, by exact_mod_cast z2⟩
        · rintro ⟨z1, z2⟩; exact ⟨z1, by exact_mod_cast z2⟩
      rw [this]
      exact q
    have all : (∃ U : String, TyN K H v U ∧ U ≠ "list" ∧ U ≠ "tuple" ∧ RetV H (.bl (U == "int")) Q) ∨ (∃ p xs, v = .ref p ∧ Sq K H p xs ∧ xs.length ≠ 2 ∧ RetV H (.bl false) Q) ∨
        (∃ (p : Addr) (x y : V) (U W : String), v = .ref p ∧ Sq K H p [x, y] ∧ TyN K H x U ∧ TyN K H y W ∧
        (U ≠ "int" → RetV H (.bl false) Q) ∧ (∀ a : Int, x = .int a → W ≠ "int" → RetV H (.bl false) Q) ∧
        (∀ a b : Int, x = .int a → y = .int b → RetV H (.bl (decide (1 ≤ b) && decide (((Nat.gcd a.natAbs b.natAbs : Nat) : Int) = 1))) Q)) := by
      rcases h with ⟨q, hn, hq⟩ | ⟨hb, hq⟩
      · cases hn with
        | int n => exact .inl ⟨_, .int n, by decide, by decide, hq⟩
        | sq h c => exact .inr (.inr ⟨_, _, _, _, _, rfl, h, .int _, .int _, fun z => absurd rfl z, fun _ _ z => absurd rfl z, ok 0 _ _ true ⟨fun _ => c, fun _ => rfl⟩ hq⟩)
      · cases hb with
        | scal h h1 h2 h3 => exact .inl ⟨_, h, h2, h3, by rw [beq_false_of_ne h1]; exact hq⟩
        | len h l => exact .inr (.inl ⟨_, _, rfl, h, l, hq⟩)
        | top h hx hT hy => exact .inr (.inr ⟨_, _, _, _, _, rfl, h, hx, hy, fun _ => hq, fun a e _ => by subst e; cases hx; exact absurd rfl hT, fun a b e _ => by subst e; cases hx; exact absurd rfl hT⟩)
        | und h hy hU => exact .inr (.inr ⟨_, _, _, _, _, rfl, h, .int _, hy, fun z => absurd rfl z, fun _ _ _ => hq, fun a b _ e => by subst e; cases hy; exact absurd rfl hU⟩)
        | low h c => exact .inr (.inr ⟨_, _, _, _, _, rfl, h, .int _, .int _, fun z => absurd rfl z, fun _ _ z => absurd rfl z, ok 0 _ _ false ⟨fun z => Bool.noConfusion z, fun z => absurd z c⟩ hq⟩)
    rcases all with ⟨U, hU, h1, h2, q⟩ | ⟨p, xs, rfl, hx, l, q⟩ | ⟨p, x, y, U, W, rfl, hs, hx, hy, q1, q2, q3⟩
    · refine ⟨v, rfl, .inl ⟨U, hU, h1, h2, fun H1 s1 => ⟨_, rfl, ?_⟩⟩⟩
      exact iteN ⟨v, U, rfl, hU.same s1, q.same s1⟩
    · obtain ⟨U, hU, e⟩ := hx.ty
      have hi : (U == "int") = false := by cases hU <;> decide
      refine ⟨_, rfl, .inr ⟨p, xs, rfl, hx, fun H1 s1 => ⟨_, rfl, ?_⟩⟩⟩
      rw [decide_eq_false l]
      refine iteN ⟨_, U, rfl, hU.same s1, ?_⟩
      rw [hi]
      exact q.same s1
    · refine ⟨_, rfl, .inr ⟨p, [x, y], rfl, hs, fun H1 s1 => ⟨_, rfl, ?_⟩⟩⟩
      refine iteF' rfl ⟨p, rfl, _, hs.same s1, rfl, _, _, rfl, _, _, rfl, rfl, x, U, rfl, hx.same s1, fun H2 s2 => ⟨_, rfl, ?_⟩⟩
      by_cases hU : U = "int"
      · obtain ⟨a, rfl⟩ := hx.intI hU
        subst hU
        refine iteT ?_
        by_cases hW : W = "int"
        · obtain ⟨b, rfl⟩ := hy.intI hW
          subst hW
          refine ⟨_, some 1, none, rfl, .inr ⟨b, rfl, fun H3 s3 => ⟨_, rfl, ?_⟩⟩⟩
          have q := q3 a b rfl rfl H3 ((s1.trans s2).trans s3)
          by_cases hb : 1 ≤ b
          · simp only [Option.all_some, Option.all_none, hb, decide_true, Bool.and_true, Bool.true_and, if_true] at q ⊢
            exact ⟨a, rfl, b, rfl, rfl, q⟩
          · simp only [Option.all_some, Option.all_none, hb, decide_false, Bool.and_true, Bool.false_and, Bool.false_eq_true, if_false] at q ⊢
            exact q
        · exact ⟨_, some 1, none, rfl, .inl ⟨W, (hy.same s1).same s2, hW, fun H3 s3 => ⟨_, rfl, by rw [if_neg Bool.false_ne_true]; exact q2 a rfl hW H3 ((s1.trans s2).trans s3)⟩⟩⟩
      · rw [beq_false_of_ne hU]
        exact iteF (q1 hU H2 (s1.trans s2))

def spNumberIn (K : PySem.W.Frag) (C : Addr) : Sp := fun vs H Q E => ∃ v part, vs = [v, part] ∧ ((∃ q, Num K H v q ∧ RetP K H q Q) ∨ (Bad K H v ∧ RaiseP H C part E))
theorem ok_number_in (T : Txt K mg A) : FnOk P w K mg base (L2.CX P w) 4 A.f_number_in A.d_number_in ["value", "part"] (spNumberIn K A.c_BadNumber) := by
  refine T.number_in.F.okX sc_number_in (fun vs H Q E h => ?_) (fun cdv A' outer s H vs Q E hr h => ?_)
  · obtain ⟨_, _, rfl, _⟩ := h; rfl
  · obtain ⟨v, part, rfl, h⟩ := h
    refine ⟨_, (pss_cons (ps_if (pt_not (pt_val (pe_call (ok_is_number T) (hr.mono (by decide)) (by rfl) T.is_number.g T.is_number.F.kp T.is_number.b .nil pass0 (pa_cons (pv 0) pa_nil)))) (pss_one (ps_raiseLow rfl T.low_BadNumber hr (takes_of rfl rfl rfl rfl) (by exact (pa_cons (pv 1) pa_nil)))) pss_nil)
      (pss_one (ps_ret (pe_call (ok_pair_of T) (hr.mono (by decide)) (by rfl) T.pair_of.g T.pair_of.F.kp T.pair_of.b .nil pass0 (pa_cons (pv 0) pa_nil))))), ?_⟩
    walk_at "vc"
    rcases h with ⟨q, hn, hq⟩ | ⟨hb, hq⟩
    · refine ⟨v, rfl, .inl ⟨q, hn, fun H1 s1 => ⟨_, rfl, ?_⟩⟩⟩
      exact iteF' rfl ⟨v, q, rfl, hn.same s1, hq.same s1⟩
    · refine ⟨v, rfl, .inr ⟨hb, fun H1 s1 => ⟨_, rfl, ?_⟩⟩⟩
      exact iteN (fun d hd => hq _ d (s1.trans (same_upd hd)) upd_same)
/-! ### points -/
abbrev P2 := (Int × Int) × (Int × Int)
/-- a value passed for a point -/
def Pt (K : PySem.W.Frag) (H : Hp) (v : V) (p : P2) : Prop := ∃ a x y, v = .ref a ∧ Sq K H a [x, y] ∧ Num K H x p.1 ∧ Num K H y p.2
/-- a point as it is returned -/
def PP (K : PySem.W.Frag) (H : Hp) (v : V) (p : P2) : Prop := ∃ a x y, v = .ref a ∧ SqT K H a [x, y] ∧ Pr K H x p.1 ∧ Pr K H y p.2
theorem Pt.same {K : PySem.W.Frag} {H H' : Hp} {v : V} {p : P2} (s : Same H H') (h : Pt K H v p) : Pt K H' v p := by
  obtain ⟨a, x, y, e, h, hx, hy⟩ := h
  exact ⟨a, x, y, e, h.same s, hx.same s, hy.same s⟩
theorem PP.same {K : PySem.W.Frag} {H H' : Hp} {v : V} {p : P2} (s : Same H H') (h : PP K H v p) : PP K H' v p := by
  obtain ⟨a, x, y, e, h, hx, hy⟩ := h
  exact ⟨a, x, y, e, same_tup s h, hx.same s, hy.same s⟩
/-- what is no point -/
inductive BadP (K : PySem.W.Frag) (H : Hp) : V → Prop
  | scal {v : V} {T : String} (h : TyN K H v T) (h2 : T ≠ "list") (h3 : T ≠ "tuple") : BadP K H v
  | len {p : Addr} {xs : List V} (h : Sq K H p xs) (l : xs.length ≠ 2) : BadP K H (.ref p)
  | fst {p : Addr} {x y : V} (h : Sq K H p [x, y]) (hx : Bad K H x) : BadP K H (.ref p)
  | snd {p : Addr} {x y : V} {a : Int × Int} (h : Sq K H p [x, y]) (hx : Num K H x a) (hy : Bad K H y) : BadP K H (.ref p)
theorem BadP.same {K : PySem.W.Frag} {H H' : Hp} {v : V} (s : Same H H') (h : BadP K H v) : BadP K H' v := by
  cases h with
  | scal h h2 h3 => exact .scal (h.same s) h2 h3
  | len h l => exact .len (h.same s) l
  | fst h hx => exact .fst (h.same s) (hx.same s)
  | snd h hx hy => exact .snd (h.same s) (hx.same s) (hy.same s)
def RetPP (K : PySem.W.Frag) (H : Hp) (p : P2) (Q : VK) : Prop := ∀ H' v, Same H H' → PP K H' v p → Q v H'
theorem RetPP.same {K : PySem.W.Frag} {H H' : Hp} {p : P2} {Q : VK} (s : Same H H') (h : RetPP K H p Q) : RetPP K H' p Q := fun H2 v s2 e => h H2 v (s.trans s2) e
/-- an item of a list or of a tuple -/
def rIxA (K : PySem.W.Frag) : R2 := fun x y H Q => ∃ p xs i v, x = .ref p ∧ y = .int i ∧ Sq K H p xs ∧ atI xs i = some v ∧ Q v H
theorem ix_any {X : Cx} : IxR X (rIxA X.K) := by
  intro vl sl pins s σ H x y v u Q I rx ry h hs
  obtain ⟨p, xs, i, z, e1, e2, hq, ha, q⟩ := h
  rcases hq with hq | hq
  · exact ix_list vl sl pins s σ H x y v u Q I rx ry ⟨p, xs, i, z, e1, e2, hq, ha, q⟩ hs
  · exact ix_tup vl sl pins s σ H x y v u Q I rx ry ⟨p, xs, i, z, e1, e2, hq, ha, q⟩ hs
theorem ixA {K : PySem.W.Frag} {H : Hp} {Q : VK} {p : Addr} {xs : List V} {v : V} {i : Int} (h : Sq K H p xs) (e : atI xs i = some v) (q : Q v H) : rIxA K (.ref p) (.int i) H Q := ⟨p, xs, i, v, rfl, rfl, h, e, q⟩
def CanonP (p : P2) : Prop := Canon p.1 ∧ Canon p.2
def SmP (N : Nat) (p : P2) : Prop := Sm N p.1 ∧ Sm N p.2
theorem Pt.canon {K : PySem.W.Frag} {H : Hp} {v : V} {p : P2} (h : Pt K H v p) : CanonP p := by
  obtain ⟨a, x, y, e, h, hx, hy⟩ := h
  exact ⟨hx.canon, hy.canon⟩
def spIsPoint (K : PySem.W.Frag) : Sp := fun vs H Q _ => ∃ v, vs = [v] ∧ ((∃ p, Pt K H v p ∧ RetV H (.bl true) Q) ∨ (BadP K H v ∧ RetV H (.bl false) Q))
theorem ok_is_point (T : Txt K mg A) : FnOk P w K mg base CX0 4 A.f_is_point A.d_is_point ["value"] (spIsPoint K) := by
  refine T.is_point.F.ok sc_is_point (fun vs H Q E h => ?_) (fun cdv A' outer s H vs Q E hr h => ?_)
  · obtain ⟨_, rfl, _⟩ := h; rfl
  · obtain ⟨v, rfl, h⟩ := h
    refine ⟨_, (pss_one (ps_ret (pe_and (pe_call (ok_is_pair T) (hr.mono (by decide)) (by rfl) T.is_pair.g T.is_pair.F.kp T.is_pair.b .nil pass0 (pa_cons (pv 0) pa_nil)) (pe_and (pe_call (ok_is_number T) (hr.mono (by decide)) (by rfl) T.is_number.g T.is_number.F.kp T.is_number.b .nil pass0 (pa_cons (pe_ix ix_any (pv 0) pe_int (fun _ _ => rfl)) pa_nil)) (pe_one (pe_call (ok_is_number T) (hr.mono (by decide)) (by rfl) T.is_number.g T.is_number.F.kp T.is_number.b .nil pass0 (pa_cons (pe_ix ix_any (pv 0) pe_int (fun _ _ => rfl)) pa_nil))))))), ?_⟩
    walk_at "vc"
    have all : (∃ U : String, TyN K H v U ∧ U ≠ "list" ∧ U ≠ "tuple" ∧ RetV H (.bl false) Q) ∨ (∃ p xs, v = .ref p ∧ Sq K H p xs ∧ xs.length ≠ 2 ∧ RetV H (.bl false) Q) ∨
        (∃ (p : Addr) (x y : V), v = .ref p ∧ Sq K H p [x, y] ∧ ((Bad K H x ∧ RetV H (.bl false) Q) ∨ (∃ a, Num K H x a ∧ ((Bad K H y ∧ RetV H (.bl false) Q) ∨ (∃ b, Num K H y b ∧ RetV H (.bl true) Q))))) := by
      rcases h with ⟨p, ⟨a, x, y, e, hs, hx, hy⟩, q⟩ | ⟨hb, q⟩
      · exact .inr (.inr ⟨a, x, y, e, hs, .inr ⟨_, hx, .inr ⟨_, hy, q⟩⟩⟩)
      · cases hb with
        | scal h h2 h3 => exact .inl ⟨_, h, h2, h3, q⟩
        | len h l => exact .inr (.inl ⟨_, _, rfl, h, l, q⟩)
        | fst h hx => exact .inr (.inr ⟨_, _, _, rfl, h, .inl ⟨hx, q⟩⟩)
        | snd h hx hy => exact .inr (.inr ⟨_, _, _, rfl, h, .inr ⟨_, hx, .inl ⟨hy, q⟩⟩⟩)
    rcases all with ⟨U, hU, h1, h2, q⟩ | ⟨p, xs, rfl, hx, l, q⟩ | ⟨p, x, y, rfl, hs, h⟩
    · refine ⟨v, rfl, .inl ⟨U, hU, h1, h2, fun H1 s1 => ⟨_, rfl, ?_⟩⟩⟩
      exact iteF (q H1 s1)
    · refine ⟨_, rfl, .inr ⟨p, xs, rfl, hx, fun H1 s1 => ⟨_, rfl, ?_⟩⟩⟩
      rw [decide_eq_false l]
      exact iteF (q H1 s1)
    · refine ⟨_, rfl, .inr ⟨p, _, rfl, hs, fun H1 s1 => ⟨_, rfl, ?_⟩⟩⟩
      refine iteT (ixA (hs.same s1) rfl ?_)
      rcases h with ⟨hx, q⟩ | ⟨a, hx, h⟩
      · exact ⟨x, rfl, .inr ⟨hx.same s1, fun H2 s2 => ⟨_, rfl, iteF (q H2 (s1.trans s2))⟩⟩⟩
      · refine ⟨x, rfl, .inl ⟨a, hx.same s1, fun H2 s2 => ⟨_, rfl, iteT (ixA (hs.same (s1.trans s2)) rfl ?_)⟩⟩⟩
        rcases h with ⟨hy, q⟩ | ⟨b, hy, q⟩
        · exact ⟨y, rfl, .inr ⟨hy.same (s1.trans s2), q.same (s1.trans s2)⟩⟩
        · exact ⟨y, rfl, .inl ⟨b, hy.same (s1.trans s2), q.same (s1.trans s2)⟩⟩
def spPointOf (K : PySem.W.Frag) : Sp := fun vs H Q _ => ∃ v p, vs = [v] ∧ Pt K H v p ∧ RetPP K H p Q
theorem ok_point_of (T : Txt K mg A) : FnOk P w K mg base CX0 2 A.f_point_of A.d_point_of ["value"] (spPointOf K) := by
  refine T.point_of.F.ok sc_point_of (fun vs H Q E h => ?_) (fun cdv A' outer s H vs Q E hr h => ?_)
  · obtain ⟨_, _, rfl, _⟩ := h; rfl
  · obtain ⟨v, ⟨a, b⟩, rfl, ⟨p, x, y, rfl, hs, hx, hy⟩, q⟩ := h
    refine ⟨_, (pss_one (ps_ret (pe_tup (pa_cons (pe_call (ok_pair_of T) (hr.mono (by decide)) (by rfl) T.pair_of.g T.pair_of.F.kp T.pair_of.b .nil pass0 (pa_cons (pe_ix ix_any (pv 0) pe_int (fun _ _ => rfl)) pa_nil)) (pa_cons (pe_call (ok_pair_of T) (hr.mono (by decide)) (by rfl) T.pair_of.g T.pair_of.F.kp T.pair_of.b .nil pass0 (pa_cons (pe_ix ix_any (pv 0) pe_int (fun _ _ => rfl)) pa_nil)) pa_nil))))), ?_⟩
    walk_at "vc"
    refine ixA hs rfl ⟨x, a, rfl, hx, fun H1 r1 s1 t1 => ?_⟩
    refine ixA (hs.same s1) rfl ⟨y, b, rfl, hy.same s1, fun H2 r2 s2 t2 => ⟨by decide, fun r hr => ?_⟩⟩
    have s3 := same_upd (o := .tup [.ref r1, .ref r2]) hr
    exact q _ _ ((s1.trans s2).trans s3) ⟨r, _, _, rfl, st_of upd_same, ⟨r1, rfl, same_tup (s2.trans s3) t1⟩, ⟨r2, rfl, same_tup s3 t2⟩⟩
def spPointIn (K : PySem.W.Frag) (C : Addr) : Sp := fun vs H Q E => ∃ v part, vs = [v, part] ∧ ((∃ p, Pt K H v p ∧ RetPP K H p Q) ∨ (BadP K H v ∧ RaiseP H C part E))
theorem ok_point_in (T : Txt K mg A) : FnOk P w K mg base (L2.CX P w) 5 A.f_point_in A.d_point_in ["value", "part"] (spPointIn K A.c_BadPoint) := by
  refine T.point_in.F.okX sc_point_in (fun vs H Q E h => ?_) (fun cdv A' outer s H vs Q E hr h => ?_)
  · obtain ⟨_, _, rfl, _⟩ := h; rfl
  · obtain ⟨v, part, rfl, h⟩ := h
    refine ⟨_, (pss_cons (ps_if (pt_not (pt_val (pe_call (ok_is_point T) (hr.mono (by decide)) (by rfl) T.is_point.g T.is_point.F.kp T.is_point.b .nil pass0 (pa_cons (pv 0) pa_nil)))) (pss_one (ps_raiseLow rfl T.low_BadPoint hr (takes_of rfl rfl rfl rfl) (by exact (pa_cons (pv 1) pa_nil)))) pss_nil)
      (pss_one (ps_ret (pe_call (ok_point_of T) (hr.mono (by decide)) (by rfl) T.point_of.g T.point_of.F.kp T.point_of.b .nil pass0 (pa_cons (pv 0) pa_nil))))), ?_⟩
    walk_at "vc"
    rcases h with ⟨p, hn, hq⟩ | ⟨hb, hq⟩
    · refine ⟨v, rfl, .inl ⟨p, hn, fun H1 s1 => ⟨_, rfl, ?_⟩⟩⟩
      exact iteF' rfl ⟨v, p, rfl, hn.same s1, hq.same s1⟩
    · refine ⟨v, rfl, .inr ⟨hb, fun H1 s1 => ⟨_, rfl, ?_⟩⟩⟩
      exact iteN (fun d hd => hq _ d (s1.trans (same_upd hd)) upd_same)


/-- the urn: its cells, how many were begun, what is left of a great one; so many draws are left -/
def Urn (H : Hp) (u : Addr) (k : Nat) : Prop := ∃ (c : Addr) (n r : Int) (cells : List Int), H u = some (.lst [.ref c, .int n, .int r]) ∧ H c = some (.lst (cells.map V.int)) ∧ 0 ≤ n ∧ n + k ≤ 1000000 ∧ 0 ≤ r
theorem Urn.mono {H : Hp} {u : Addr} {j k : Nat} (h : Urn H u k) (l : j ≤ k) : Urn H u j := by
  obtain ⟨c, n, r, cells, h1, h2, h3, h4, h5⟩ := h
  exact ⟨c, n, r, cells, h1, h2, h3, by omega, h5⟩
theorem Urn.same {H H' : Hp} {u : Addr} {k : Nat} (h : Urn H u k) (s : Same H H') : Urn H' u k := by
  obtain ⟨c, n, r, cells, h1, h2, h3⟩ := h
  exact ⟨c, n, r, cells, s _ _ h1, s _ _ h2, h3⟩
theorem Urn.at {H : Hp} {u : Addr} {k : Nat} (h : Urn H u k) : ∃ c ys, H u = some (.lst (.ref c :: ys)) := by
  obtain ⟨c, n, r, cells, h1, _⟩ := h
  exact ⟨c, _, h1⟩
def spSpill : Sp := fun vs H Q _ => ∃ (u : Addr) (many : Int) (k : Nat), vs = [.ref u, .int many] ∧ 0 < many ∧ many < 1073741824 ∧ Urn H u (k + 1) ∧ ∀ H' (m : Int), But u H H' → Urn H' u k → 0 ≤ m → m < many → Q (.int m) H'
theorem ok__law_pick (T : Txt K mg A) : FnOk P w K mg base CX0 1 A.f__law_pick A.d__law_pick ["crate", "many"] spSpill := by
  refine T._law_pick.F.ok sc__law_pick (fun vs H Q E h => ?_) (fun cdv A' outer s H vs Q E hr h => ?_)
  · obtain ⟨_, _, _, rfl, _⟩ := h; rfl
  · obtain ⟨u, many, k, rfl, hm, hm2, ⟨c, n, r, cells, h1, h2, h3, h4, h5⟩, q⟩ := h
    refine ⟨_, (pss_cons (ps_if (pt_cmpR op_gt (pe_ix ix_list (pv 0) pe_int (fun _ _ => rfl)) pe_int (nomark _)) (pss_cons (ps_set (i := 2) sc__law_pick.nd rfl (.inl rfl) (pe_callTy call_int1 (by rfl) T.n_int bt_int (pa_cons (pe_ix ix_list (pv 0) pe_int (fun _ _ => rfl)) pa_nil)))
      (pss_cons (ps_asg (pe_op op_fdiv (pv 2) (pv 1)) (pg_sub (pv 0) pe_int set_list))
      (pss_one (ps_ret (pe_op op_mod (pe_callTy call_int1 (by rfl) T.n_int bt_int (pa_cons (pv 2) pa_nil)) (pv 1)))))) pss_nil)
      (pss_cons (ps_set (i := 3) sc__law_pick.nd rfl (.inl rfl) (pe_ix ix_list (pv 0) pe_int (fun _ _ => rfl)))
      (pss_cons (ps_asg (pe_op op_add (pv 3) pe_int) (pg_sub (pv 0) pe_int set_list))
      (pss_cons (ps_set (i := 4) sc__law_pick.nd rfl (.inl rfl) (pe_op op_add (pe_op op_mul pe_int (pv 3)) pe_int))
      (pss_cons (ps_if (pt_cmpR (op_neD hr.units) (pe_ix ix_list (pv 0) pe_int (fun _ _ => rfl)) (pe_lst pa_nil) (nomark _)) (pss_one (ps_set (i := 4) sc__law_pick.nd rfl (.inl rfl) (pe_ix ix_list (pe_ix ix_list (pv 0) pe_int (fun _ _ => rfl)) (pe_op op_mod (pe_callTy call_int1 (by rfl) T.n_int bt_int (pa_cons (pv 3) pa_nil)) (pe_callB call_len_seq (by rfl) T.n_len bt_len (pa_cons (pe_ix ix_list (pv 0) pe_int (fun _ _ => rfl)) pa_nil))) (fun _ _ => rfl)))) pss_nil)
      (pss_cons (ps_if (PW.pt (pw_and (pt_cmpR op_lt (pv 3) (pe_callB call_len_seq (by rfl) T.n_len bt_len (pa_cons (pe_ix ix_list (pv 0) pe_int (fun _ _ => rfl)) pa_nil)) (nomark _)) (pw_and1 (pt_cmpR op_ge (pe_callB call_abs (by rfl) T.n_abs bt_abs (pa_cons (pv 4) pa_nil)) (pe_op op_pow pe_int pe_int) (nomark _))))) (pss_cons (ps_set (i := 2) sc__law_pick.nd rfl (.inl rfl) (pe_op op_add (pe_op op_mul pe_int (pe_op op_sub (pe_callB call_abs (by rfl) T.n_abs bt_abs (pa_cons (pv 4) pa_nil)) (pe_op op_pow pe_int pe_int))) (pe_callTy call_int1 (by rfl) T.n_int bt_int (pa_cons (pe_cmpR op_lt (pv 4) pe_int (nomark _)) pa_nil))))
      (pss_cons (ps_asg (pe_op op_fdiv (pe_callTy call_int1 (by rfl) T.n_int bt_int (pa_cons (pv 2) pa_nil)) (pv 1)) (pg_sub (pv 0) pe_int set_list))
      (pss_one (ps_ret (pe_op op_mod (pe_callTy call_int1 (by rfl) T.n_int bt_int (pa_cons (pv 2) pa_nil)) (pv 1)))))) pss_nil)
      (pss_cons (ps_set (i := 5) sc__law_pick.nd rfl (.inl rfl) (pe_op op_mod (pe_callTy call_int1 (by rfl) T.n_int bt_int (pa_cons (pe_op op_pow (pe_op op_add (pe_op op_add (pe_op op_mod (pe_callTy call_int1 (by rfl) T.n_int bt_int (pa_cons (pv 4) pa_nil)) pe_int) (pe_op op_mul pe_int (pv 3))) pe_int) pe_int) pa_nil)) pe_int))
      (pss_cons (ps_set (i := 5) sc__law_pick.nd rfl (.inl rfl) (pe_op op_mod (pe_callTy call_int1 (by rfl) T.n_int bt_int (pa_cons (pe_op op_pow (pe_op op_add (pe_op op_add (pe_op op_mul (pv 5) (pe_op op_add (pe_op op_mul pe_int (pv 3)) pe_int)) (pe_op op_mul (pe_op op_mul pe_int (pv 3)) (pv 3))) pe_int) pe_int) pa_nil)) pe_int))
      (pss_one (ps_ret (pe_op op_mod (pe_callTy call_int1 (by rfl) T.n_int bt_int (pa_cons (pe_op op_fdiv (pv 5) pe_int) pa_nil)) (pv 1)))))))))))), ?_⟩
    have huc : u ≠ c := ne_of h1 h2 (by cases cells <;> (intro z; cases z))
    refine seq_by fun N hN => ?_
    walk_at "vc"
    refine ixL (sl_of h1) rfl ⟨_, rfl, ?_⟩
    split
    · -- a digit of what is left
      rename_i hr0
      refine ixL (sl_of h1) rfl ?_
      refine .inl ⟨r, rfl, ⟨hm, hm2⟩, ?_⟩
      refine ⟨_, h1, _, rfl, hm, ?_⟩
      refine q _ _ (but_upd h1) ⟨c, n, r / many, cells, upd_same, ?_, h3, by omega, Int.ediv_nonneg h5 (by omega)⟩ (Int.emod_nonneg _ (by omega)) (Int.emod_lt_of_pos _ hm)
      rw [upd_ne huc.symm]
      exact h2
    · -- at = urn[1]; urn[1] = at + 1; cell = ..
      rename_i hr0
      subst hN
      refine seq_by fun N hN => ?_
      walk_at "vc"
      refine ixL (sl_of h1) rfl ?_
      subst hN
      refine seq_by fun N hN => ?_
      walk_at "vc"
      refine ⟨_, h1, _, rfl, ?_⟩
      subst hN
      refine seq_by fun N hN => ?_
      walk_at "vc"
      refine ⟨.inl (by decide), ?_⟩
      subst hN
      refine seq_by fun N hN => ?_
      have b1 : But u H (upd H u (.lst [.ref c, .int (n + 1), .int r])) := but_upd h1
      have rest : ∀ (cell : Int) H2, But u H H2 → H2 u = some (.lst [.ref c, .int (n + 1), .int r]) → H2 c = some (.lst (cells.map V.int)) → N [some (.ref u), some (.int many), none, some (.int n), some (.int cell), none] H2 := by
        intro cell H2 b2 g1 g2
        subst hN
        refine seq_by fun N hN => ?_
        have last : N [some (.ref u), some (.int many), none, some (.int n), some (.int cell), none] H2 := by
          subst hN
          refine seq_by fun N hN => ?_
          walk_at "vc"
          have e1 : 0 ≤ cell % 2147483549 := Int.emod_nonneg _ (by decide)
          have e2 : cell % 2147483549 < 2147483549 := Int.emod_lt_of_pos _ (by decide)
          refine ⟨by decide, .inl (by decide), ⟨by decide, by decide, by omega⟩, by decide, ?_⟩
          generalize hmix : (cell % 2147483549 + 72139 * n + 7127) ^ Int.toNat 5 % 2147483629 = mixed
          have f1 : 0 ≤ mixed := by rw [← hmix]; exact Int.emod_nonneg _ (by decide)
          have f2 : mixed < 2147483629 := by rw [← hmix]; exact Int.emod_lt_of_pos _ (by decide)
          subst hN
          refine seq_by fun N hN => ?_
          walk_at "vc"
          have m1 : mixed * (2 * n + 4519) ≤ 2147483629 * 2004519 := Int.mul_le_mul (by omega) (by omega) (by omega) (by decide)
          have m2 : 0 ≤ mixed * (2 * n + 4519) := Int.mul_nonneg f1 (by omega)
          have m3 : 104173 * n * n ≤ 104173000000 * 1000000 := Int.mul_le_mul (by omega) (by omega) (by omega) (by decide)
          have m4 : 0 ≤ 104173 * n * n := Int.mul_nonneg (by omega) (by omega)
          refine ⟨.inl (by decide), .inl ⟨by omega, by omega⟩, .inl (by decide), .inl ⟨by omega, by omega⟩, ⟨by decide, by decide, by omega⟩, by decide, ?_⟩
          subst hN
          walk_at "vc"
          refine ⟨⟨by decide, by decide⟩, hm, ?_⟩
          exact q _ _ b2 ⟨c, n + 1, r, cells, g1, g2, by omega, by omega, h5⟩ (Int.emod_nonneg _ (by omega)) (Int.emod_lt_of_pos _ hm)
        walk_at "vc"
        refine ixL (sl_of g1) rfl ⟨c, rfl, _, .inl (sl_of g2), ?_⟩
        have p18 : CPow 10 18 := ⟨by decide, by decide, by decide⟩
        split
        · refine ⟨p18, ?_⟩
          generalize (10 : Int) ^ Int.toNat 18 = e
          have hs : 0 ≤ (if cell < 0 then 1 else 0 : Int) := by split <;> decide
          generalize (if cell < 0 then 1 else 0 : Int) = sg at *
          generalize (if cell < 0 then -cell else cell) = ab at *
          split
          · rename_i hc
            refine ⟨p18, .inl (by decide), ⟨hm, hm2⟩, _, g1, _, rfl, hm, ?_⟩
            refine q _ _ (b2.trans (but_upd g1)) ⟨c, n + 1, _, cells, upd_same, ?_, by omega, by omega, Int.ediv_nonneg ?_ (by omega)⟩ (Int.emod_nonneg _ (by omega)) (Int.emod_lt_of_pos _ hm)
            · rw [upd_ne huc.symm]
              exact g2
            · omega
          · exact last
        · exact last
      walk_at "vc"
      have g1 : upd H u (.lst [.ref c, .int (n + 1), .int r]) u = some (.lst [.ref c, .int (n + 1), .int r]) := upd_same
      have g2 : upd H u (.lst [.ref c, .int (n + 1), .int r]) c = some (.lst (cells.map V.int)) := by rw [upd_ne huc.symm]; exact h2
      refine ixL (sl_of g1) rfl ⟨by decide, fun p hp => ?_⟩
      have sp := same_upd (o := .lst []) hp
      have g3 := sp _ _ g1
      have g4 := sp _ _ g2
      refine ⟨_, _, dp_ints (sl_of g4), dp_ints (ns := []) (sl_of upd_same), sh_ints _, sh_ints [], _, rfl, ?_⟩
      split
      · rename_i hne
        have hcells : cells ≠ [] := by
          intro z
          subst z
          exact absurd hne (by decide)
        have hl : 0 < cells.length := List.length_pos_iff.mpr hcells
        refine ixL (sl_of g3) rfl (ixL (sl_of g3) rfl ⟨c, rfl, _, .inl (sl_of g4), ?_⟩)
        rw [List.length_map]
        have a1 : 0 ≤ n % (cells.length : Int) := Int.emod_nonneg _ (by omega)
        have a2 : n % (cells.length : Int) < cells.length := Int.emod_lt_of_pos _ (by omega)
        obtain ⟨j, hj⟩ := Int.eq_ofNat_of_zero_le a1
        have hjl : j < cells.length := by omega
        refine ⟨by omega, ?_⟩
        rw [hj]
        refine ixL (sl_of g4) (v := .int cells[j]) (atI_nat ?_) ?_
        · rw [List.getElem?_map, List.getElem?_eq_getElem hjl]
          rfl
        · exact rest _ _ (b1.trans (same_but sp)) g3 g4
      · exact rest _ _ (b1.trans (same_but sp)) g3 g4

/-! ### Euclid -/
theorem euc_step {a b i : Nat} (hb : b ≠ 0) (h : (i = 0 ∧ b < 10 ^ 60) ∨ (b ≤ a ∧ a * b * 2 ^ i < 2 ^ 400)) : a % b ≤ b ∧ b * (a % b) * 2 ^ (i + 1) < 2 ^ 400 := by
  have hm : a % b < b := Nat.mod_lt _ (by omega)
  refine ⟨by omega, ?_⟩
  rcases h with ⟨rfl, h⟩ | ⟨h1, h2⟩
  · have l : b * (a % b) < 10 ^ 60 * 10 ^ 60 := Nat.mul_lt_mul'' h (Nat.lt_trans hm h)
    have e : 10 ^ 60 * 10 ^ 60 * 2 ≤ 2 ^ 400 := by decide +kernel
    have : b * (a % b) * 2 ^ (0 + 1) = b * (a % b) * 2 := rfl
    rw [this]
    exact Nat.lt_of_lt_of_le (Nat.mul_lt_mul_of_pos_right l (by decide)) e
  · have l1 : 2 * (a % b) ≤ a := by
      have e := Nat.div_add_mod a b
      have q : 1 ≤ a / b := (Nat.one_le_div_iff (by omega)).mpr h1
      have : b * 1 ≤ b * (a / b) := Nat.mul_le_mul_left _ q
      omega
    have l2 : b * (a % b) * 2 ≤ a * b := by
      rw [Nat.mul_assoc, Nat.mul_comm (a % b) 2, Nat.mul_comm a b]
      exact Nat.mul_le_mul_left _ l1
    have e : b * (a % b) * 2 ^ (i + 1) = b * (a % b) * 2 * 2 ^ i := by
      rw [Nat.pow_succ, Nat.mul_comm (2 ^ i) 2, ← Nat.mul_assoc]
    rw [e]
    exact Nat.lt_of_le_of_lt (Nat.mul_le_mul_right _ l2) h2
theorem euc_end {a b : Nat} (h : b ≤ a ∧ a * b * 2 ^ 400 < 2 ^ 400) : b = 0 := by
  rcases Nat.eq_zero_or_pos b with z | z
  · exact z
  · exfalso
    have h1 : 1 ≤ a * b := Nat.mul_pos (by omega) z
    have h2 : 1 * 2 ^ 400 ≤ a * b * 2 ^ 400 := Nat.mul_le_mul_right _ h1
    have h3 : (2 : Nat) ^ 381 ≤ 1 * 2 ^ 400 := by decide +kernel
    omega
theorem gcd_step (a b : Nat) : Nat.gcd b (a % b) = Nat.gcd a b := by
  rw [Nat.gcd_comm b (a % b), ← Nat.gcd_rec, Nat.gcd_comm]
theorem abs_nat (a : Int) : (if a < 0 then -a else a) = (a.natAbs : Int) := by split <;> omega
def spUrn (K : PySem.W.Frag) : Sp := fun vs H Q _ => ∃ (a : Addr) (ns : List Int), vs = [.ref a] ∧ SqL K H a (ns.map V.int) ∧ ns.length ≤ 63 ∧ ∀ H' u, Same H H' → Urn H' u 900000 → Q (.ref u) H'
theorem ok__law_crate (T : Txt K mg A) : FnOk P w K mg base CX0 1 A.f__law_crate A.d__law_crate ["script"] (spUrn K) := by
  refine T._law_crate.F.ok sc__law_crate (fun vs H Q E h => ?_) (fun cdv A' outer s H vs Q E hr h => ?_)
  · obtain ⟨_, _, rfl, _⟩ := h; rfl
  · obtain ⟨a, ns, rfl, hS, hl, q⟩ := h
    refine ⟨_, (pss_one (ps_ret (pe_lst (pa_cons (pe_lc (own := [("cell", 1)]) (g := gName 1) (tt := tYes) rfl sc__law_crate.nd (pi_list (pe_slice sl_list (pv 0) po_none (po_some pe_int))) (blkOk_by (N := ["script", "cell"]) (sc := defScope s__law_crate) (by decide +kernel)) (fun _ _ _ _ _ => pg_name (i := 1) sc__law_crate.nd rfl (Or.inl rfl)) (fun _ _ _ _ _ => pts_nil) (fun _ _ _ _ _ => pe_callTy call_int1 (by rfl) T.n_int bt_int (pa_cons (pv 1) pa_nil))) (pa_cons pe_int (pa_cons pe_int pa_nil)))))), ?_⟩
    refine ⟨_, rfl, 60, rfl, a, _, rfl, hS, fun p hp => ?_⟩
    obtain ⟨cs, hcs, hcl⟩ : ∃ cs : List Int, cutV (ns.map V.int) none (some 60) = cs.map V.int ∧ cs.length ≤ 63 := by
      refine ⟨(ns.drop (HT.sIx (ns.map V.int).length 0 none)).take (HT.sIx (ns.map V.int).length (ns.map V.int).length (some 60) - HT.sIx (ns.map V.int).length 0 none), ?_, ?_⟩
      · unfold cutV
        rw [List.map_take, List.map_drop]
      · rw [List.length_take, List.length_drop]
        omega
    have sp := same_upd (o := .lst (cutV (ns.map V.int) none (some 60))) hp
    refine ⟨p, rfl, ⟨_, sl_of upd_same⟩, fun D hD => ?_⟩
    have sD := same_upd (o := .lst []) hD
    have hpD : p ≠ D := ne_of_none (o := .lst (cutV (ns.map V.int) none (some 60))) upd_same hD
    refine lc_list (xs := cutV (ns.map V.int) none (some 60)) (fun i H2 => Same H H2 ∧ H2 p = some (.lst (cutV (ns.map V.int) none (some 60))) ∧ H2 D = some (.lst ((cs.take i).map V.int)) ∧ H D = none) ⟨sp.trans sD, sD _ _ upd_same, upd_same, sp.free hD⟩ (fun i H2 _ h => sl_of h.2.1) ?_ ?_
    · rintro i x H2 hx ⟨s2, e1, e2, e3⟩
      rw [hcs, List.getElem?_map] at hx
      cases ec : cs[i]? with
      | none => rw [ec] at hx; cases hx
      | some z =>
        rw [ec] at hx
        obtain rfl : V.int z = x := Option.some.inj hx
        refine ⟨rfl, ?_⟩
        simp only [tYes, if_true]
        refine ⟨_, rfl, .inl ⟨z, rfl, _, e2, ?_, ?_⟩⟩
        · rw [List.length_map, List.length_take]
          exact small1000 (by omega)
        · refine ⟨fun b o e => ?_, ?_, ?_, e3⟩
          · rw [upd_ne (ne_of_none e e3)]
            exact s2 _ _ e
          · rw [upd_ne hpD]
            exact e1
          · rw [upd_same, List.take_add_one, ec, List.map_append]
            rfl
    · rintro H2 ⟨s2, e1, e2, e3⟩
      refine ⟨(by show 3 ≤ sizeLine; decide), fun u hu => ?_⟩
      have hu2 := same_upd (o := .lst [.ref D, .int 0, .int 0]) hu
      exact q _ u (s2.trans hu2) ⟨D, 0, 0, _, upd_same, hu2 _ _ e2, by omega, by omega, by omega⟩
def spOneOf : Sp := fun vs H Q _ => ∃ (u p : Addr) (xs : List V) (k : Nat), vs = [.ref u, .ref p] ∧ p ≠ u ∧ H p = some (.lst xs) ∧ 0 < xs.length ∧ xs.length < 1073741824 ∧ Urn H u (k + 1) ∧ ∀ H' v, But u H H' → Urn H' u k → v ∈ xs → Q v H'
theorem ok__law_one_of (T : Txt K mg A) : FnOk P w K mg base CX0 2 A.f__law_one_of A.d__law_one_of ["crate", "some"] spOneOf := by
  refine T._law_one_of.F.ok sc__law_one_of (fun vs H Q E h => ?_) (fun cdv A' outer s H vs Q E hr h => ?_)
  · obtain ⟨_, _, _, _, rfl, _⟩ := h; rfl
  · obtain ⟨u, p, xs, k, rfl, hpu, hp, hl, hl2, hu, q⟩ := h
    refine ⟨_, (pss_one (ps_ret (pe_ix ix_list (pv 1) (pe_call (ok__law_pick T) (hr.mono (by decide)) (by rfl) T._law_pick.g T._law_pick.F.kp T._law_pick.b .nil pass0 (pa_cons (pv 0) (pa_cons (pe_callB call_len_seq (by rfl) T.n_len bt_len (pa_cons (pv 1) pa_nil)) pa_nil))) (fun _ _ => rfl)))), ?_⟩
    walk_at "vc"
    refine ⟨xs, .inl (sl_of hp), u, _, k, rfl, by omega, by omega, hu, fun H' m b hu' m0 m1 => ?_⟩
    obtain ⟨j, rfl⟩ := Int.eq_ofNat_of_zero_le m0
    have hj : j < xs.length := by omega
    exact ixL (sl_of (b.1 _ hpu _ hp)) (atI_nat (List.getElem?_eq_getElem hj)) (q _ _ b hu' (List.getElem_mem hj))
def spShared : Sp := fun vs H Q _ => ∃ a b : Int, vs = [.int a, .int b] ∧ b.natAbs < 10 ^ 60 ∧ Q (.int ((Nat.gcd a.natAbs b.natAbs : Nat) : Int)) H
theorem ok__law_shared (T : Txt K mg A) : FnOk P w K mg base CX0 1 A.f__law_shared A.d__law_shared ["one", "other"] spShared := by
  refine T._law_shared.F.ok sc__law_shared (fun vs H Q E h => ?_) (fun cdv A' outer s H vs Q E hr h => ?_)
  · obtain ⟨_, _, rfl, _⟩ := h; rfl
  · obtain ⟨a, b, rfl, hb, q⟩ := h
    refine ⟨_, (pss_cons (ps_par (i := 2) (j := 3) rfl sc__law_shared.nd rfl rfl (by decide) rfl rfl (pa_cons (pe_callB call_abs (by rfl) T.n_abs bt_abs (pa_cons (pv 0) pa_nil)) (pa_cons (pe_callB call_abs (by rfl) T.n_abs bt_abs (pa_cons (pv 1) pa_nil)) pa_nil)) rfl)
      (pss_cons (ps_for PassesOwn.never rfl (pi_range1 rfl T.n_range (pa_cons pe_int pa_nil)) (pg_name (i := 4) sc__law_shared.nd rfl (.inl rfl)) (pss_cons (ps_if (pt_cmpR op_eq (pv 3) pe_int (nomark _)) (pss_one ps_break) pss_nil)
      (pss_one (ps_par (i := 2) (j := 3) rfl sc__law_shared.nd rfl rfl (by decide) rfl rfl (pa_cons (pv 3) (pa_cons (pe_op op_mod (pe_callTy call_int1 (by rfl) T.n_int bt_int (pa_cons (pv 2) pa_nil)) (pv 3)) pa_nil)) rfl))))
      (pss_one (ps_ret (pv 2))))), ?_⟩
    refine seq_by fun N hN => ?_
    walk_at "vc"
    rw [abs_nat, abs_nat]
    subst hN
    refine seq_by fun N hN => ?_
    have fin : ∀ (a' : Nat) (y2 y3 : Option V), a' = Nat.gcd a.natAbs b.natAbs → N [some (.int a), some (.int b), some (.int a'), y2, y3] H := by
      rintro a' y2 y3 rfl
      subst hN
      exact ⟨_, rfl, q⟩
    refine ⟨400, rfl, by decide, by decide, ?_⟩
    refine for_range (n := 400) (fun i σ H' => H' = H ∧ ∃ (x y : Nat) (t : Option V), σ = [some (.int a), some (.int b), some (.int x), some (.int y), t] ∧ Nat.gcd x y = Nat.gcd a.natAbs b.natAbs ∧ ((i = 0 ∧ y < 10 ^ 60) ∨ (y ≤ x ∧ x * y * 2 ^ i < 2 ^ 400))) ?_ ?_ ?_
    · refine ⟨rfl, _, _, none, rfl, rfl, .inl ⟨rfl, hb⟩⟩
    · rintro i σ H' hi ⟨rfl, x, y, t, rfl, hg, hxy⟩
      walk_at "vc"
      refine ⟨rfl, ?_⟩
      split
      · rename_i hy
        have hy : y = 0 := by omega
        subst hy
        exact fin _ _ _ (by rw [← hg, Nat.gcd_zero_right])
      · rename_i hy
        have hy : y ≠ 0 := by omega
        obtain ⟨s1, s2⟩ := euc_step hy hxy
        exact ⟨by omega, y, rfl, x % y, rfl, (gcd_step _ _).trans hg, s1, s2⟩
    · rintro σ H' ⟨rfl, x, y, t, rfl, hg, hxy⟩
      rcases hxy with ⟨z, _⟩ | hxy
      · exact absurd z (by decide)
      · have := euc_end hxy
        subst this
        exact fin _ _ _ (by rw [← hg, Nat.gcd_zero_right])

end
end Odd
namespace Odd
open PySem PySem.Spec PyProof.Rows L2
local macro_rules | `(tactic| walk_at "vc") => `(tactic| simp only [tSeq, tAsg, gName, tCB, tCons, tNil, tVar, tC, tOp, tUn, rI0, rI, rU, tTup, tLst, tIfS, tTest, tB, tRet, tNext, rGcd, L2.start, List.map, List.set, List.replicate, List.cons_append, List.nil_append, List.length_cons, List.length_nil, List.getElem?_cons_succ, List.getElem?_cons_zero, Option.some.injEq, exists_eq_left', exists_eq_left, List.append_nil, List.cons.injEq, V.int.injEq, exists_and_left, and_true, true_and, and_assoc, exists_const, V.bl.injEq, V.ref.injEq, Nat.sub_self, Nat.reduceAdd, Nat.reduceSub, List.replicate_succ, List.replicate_zero, tAnd, tOr, tNot, tAndV, tOrV, tNotV, tIf, tCall, tCallK, tDrop, rEq, rNe, decide_eq_true_eq, Bool.not_eq_true', decide_eq_false_iff_not, Bool.false_eq_true, if_true, if_false, reduceIte, reduceCtorEq, tMkLow, tRaiseLow, rIsB, rNotB, tBreak, tPar, gSub, rSetL, tChain, gTup, gCons, gNil, gSeq, cx_K, cx_Kn, optV, V.str.injEq, Bool.not_true, Bool.not_false, false_and, and_false, or_false, false_or, exists_false, tCallN, tCallS, tPairs])
section
variable {P : Program} {w : World} {K : PySem.W.Frag} {mg : Str → Option Value} {base : Heap} {A : Ads}
def isCount (x : Str) : Bool := Txt.isascii x && Txt.isdigit x && decide (x.length ≤ 60) && (decide (x = "0") || !Txt.startswith x "0")
def spCount : Sp := fun vs H Q _ => ∃ x : Str, vs = [.str x] ∧ x.length ≤ sizeLine ∧ Q (.bl (isCount x)) H
theorem ok_is_count (T : Txt K mg A) : FnOk P w K mg base CX0 1 A.f_is_count A.d_is_count ["text"] spCount := by
  refine T.is_count.F.ok sc_is_count (fun vs H Q E h => ?_) (fun cdv A' outer s H vs Q E hr h => ?_)
  · obtain ⟨_, rfl, _⟩ := h; rfl
  · obtain ⟨x, rfl, hz, q⟩ := h
    obtain ⟨tkM, hMost⟩ := T.g_MOST_DIGITS
    refine ⟨_, (pss_cons (ps_if (PW.pt (pw_or (pt_not (pt_val (pe_m0 F.slot_str_isascii F.type_str_isascii mt_isascii (pv 0)))) (pw_or (pt_not (pt_val (pe_m0 F.slot_str_isdigit F.type_str_isdigit mt_isdigit (pv 0)))) (pw_or1 (pt_cmpR op_gt (pe_callB call_len_str (by rfl) T.n_len bt_len (pa_cons (pv 0) pa_nil)) (pe_glob (v := .int 60) (by rfl) hMost ⟨tkM, rfl⟩) (nomark _)))))) (pss_one (ps_ret pe_bl)) pss_nil)
      (pss_one (ps_ret (pe_or (pe_cmpR op_eq (pv 0) pe_str (nomark _)) (pe_one (pe_not (pe_m1 F.slot_str_startswith F.type_str_startswith mt_startswith (pv 0) pe_str))))))), ?_⟩
    refine seq_by fun N hN => ?_
    walk_at "vc"
    simp only [tM0, tM1]
    walk_at "vc"
    have fin : ∀ b, isCount x = b → Q (.bl b) H := fun b e => e ▸ q
    refine ⟨⟨x, rfl⟩, ?_⟩
    cases e1 : Txt.isascii x with
    | false => exact iteN (fin _ (by simp [isCount, e1]))
    | true =>
      refine iteF' rfl ⟨⟨x, rfl⟩, ?_⟩
      cases e2 : Txt.isdigit x with
      | false => exact iteN (fin _ (by simp [isCount, e2]))
      | true =>
        refine iteF' rfl ⟨hz, ?_⟩
        split
        · rename_i hl
          exact fin _ (by simp [isCount]; intros; omega)
        · rename_i hl
          subst hN
          walk_at "vc"
          simp only [tM0, tM1]
          walk_at "vc"
          refine ⟨rfl, ?_⟩
          have hl' : x.length ≤ 60 := by omega
          split
          · rename_i h0
            exact fin _ (by unfold isCount; rw [e1, e2, decide_eq_true hl', decide_eq_true h0]; rfl)
          · rename_i h0
            exact ⟨⟨x, rfl⟩, fin _ (by unfold isCount; rw [e1, e2, decide_eq_true hl', decide_eq_false h0]; simp)⟩
theorem dig_ascii : ∀ c < 128, Unicode.isDigit c = true → 48 ≤ c ∧ c ≤ 57 := by decide +kernel
theorem count_digits {x : Str} (h : isCount x = true) : NumText.AllDigits x.cps.toList ∧ x.cps.toList ≠ [] ∧ x.length ≤ 60 := by
  simp only [isCount, Bool.and_eq_true, decide_eq_true_eq] at h
  obtain ⟨⟨⟨h1, h2⟩, h3⟩, _⟩ := h
  simp only [Txt.isascii, ← Array.all_toList, List.all_eq_true, decide_eq_true_eq] at h1
  simp only [Txt.isdigit, ← Array.all_toList, List.all_eq_true, Bool.and_eq_true, decide_eq_true_eq] at h2
  refine ⟨fun c hc => dig_ascii c (h1 c hc) (h2.2 c hc), fun z => ?_, h3⟩
  have e : x.cps.toList.length = x.length := Array.length_toList
  rw [z] at e
  have := h2.1
  simp at e
  omega
def valOf (x : Str) : Int := ((NumText.digitsVal x.cps.toList : Nat) : Int)
theorem count_int {x : Str} (h : isCount x = true) : PySem.intText? x = some (valOf x) ∧ x.length ≤ 640 := by
  obtain ⟨h1, h2, h3⟩ := count_digits h
  exact ⟨PySem.intText_digits h1 h2 (by omega), by omega⟩
theorem len_removeprefix (x y : Str) : (Txt.removeprefix x y).length ≤ x.length := by
  rw [PySem.StrLaws.removeprefix_eq]
  split
  · show ((x.cps.toList.drop y.length).take (x.length - y.length)).toArray.size ≤ x.length
    rw [List.size_toArray, List.length_take]
    omega
  · exact Nat.le_refl _
def negOf (x : Str) : Bool := Txt.startswith x "-"
def cutOf (x : Str) : Str × Str × Str := Txt.partition (Txt.removeprefix x "-") "/"
def topOf (x : Str) : Int := if negOf x = true then -valOf (cutOf x).1 else valOf (cutOf x).1
def parsed (x : Str) : Option (Int × Int) :=
  if isCount (cutOf x).1 = false ∨ (negOf x = true ∧ (cutOf x).1 = "0") then none
  else if (cutOf x).2.1 = "" then some (topOf x, 1)
  else if isCount (cutOf x).2.2 = false ∨ valOf (cutOf x).2.2 < 2 ∨ Nat.gcd (topOf x).natAbs (valOf (cutOf x).2.2).natAbs ≠ 1 then none
  else some (topOf x, valOf (cutOf x).2.2)
def RetO (K : PySem.W.Frag) (H : Hp) (o : Option (Int × Int)) (Q : VK) : Prop := match o with
  | none => RetV H .non Q
  | some p => RetP K H p Q
def spParsed (K : PySem.W.Frag) : Sp := fun vs H Q _ => ∃ v, vs = [v] ∧ ((∃ U, TyN K H v U ∧ U ≠ "str" ∧ RetV H .non Q) ∨ (∃ x : Str, v = .str x ∧ x.length ≤ 1000000 ∧ RetO K H (parsed x) Q))
theorem ok_parsed_number (T : Txt K mg A) : FnOk P w K mg base CX0 2 A.f_parsed_number A.d_parsed_number ["text"] (spParsed K) := by
  refine T.parsed_number.F.ok sc_parsed_number (fun vs H Q E h => ?_) (fun cdv A' outer s H vs Q E hr h => ?_)
  · obtain ⟨_, rfl, _⟩ := h; rfl
  · obtain ⟨v, rfl, h⟩ := h
    refine ⟨_, (pss_cons (ps_if (pt_not (pt_val (pe_callB call_isi (by rfl) T.n_isinstance bt_isinstance (pa_cons (pv 0) (pa_cons (pe_bltn (v := .ty "str") (by rfl) T.n_str bt_str rfl) pa_nil))))) (pss_one (ps_ret pe_non)) pss_nil)
      (pss_cons (ps_set (i := 1) sc_parsed_number.nd rfl (.inl rfl) (pe_m1 F.slot_str_startswith F.type_str_startswith mt_startswith (pv 0) pe_str))
      (pss_cons (ps_asg (pe_partition (pe_m1 F.slot_str_removeprefix F.type_str_removeprefix mt_removeprefix (pv 0) pe_str) pe_str) (pg_tup rfl (pgs_cons (pg_name (i := 2) sc_parsed_number.nd rfl (.inl rfl)) (pgs_cons (pg_name (i := 3) sc_parsed_number.nd rfl (.inl rfl)) (pgs_cons (pg_name (i := 4) sc_parsed_number.nd rfl (.inl rfl)) pgs_nil)))))
      (pss_cons (ps_if (PW.pt (pw_or (pt_not (pt_val (pe_call (ok_is_count T) (hr.mono (by decide)) (by rfl) T.is_count.g T.is_count.F.kp T.is_count.b .nil pass0 (pa_cons (pv 2) pa_nil)))) (pw_or1 (PW.pt (pw_and (pt_val (pv 1)) (pw_and1 (pt_cmpR op_eq (pv 2) pe_str (nomark _)))))))) (pss_one (ps_ret pe_non)) pss_nil)
      (pss_cons (ps_set (i := 5) sc_parsed_number.nd rfl (.inl rfl) (pe_ifExp (pt_val (pv 1)) (pe_un un_neg (pe_callTy call_int_str (by rfl) T.n_int bt_int (pa_cons (pv 2) pa_nil))) (pe_callTy call_int_str (by rfl) T.n_int bt_int (pa_cons (pv 2) pa_nil))))
      (pss_cons (ps_if (pt_cmpR op_eq (pv 3) pe_str (nomark _)) (pss_one (ps_ret (pe_tup (pa_cons (pv 5) (pa_cons pe_int pa_nil))))) pss_nil)
      (pss_cons (ps_if (PW.pt (pw_or (pt_not (pt_val (pe_call (ok_is_count T) (hr.mono (by decide)) (by rfl) T.is_count.g T.is_count.F.kp T.is_count.b .nil pass0 (pa_cons (pv 4) pa_nil)))) (pw_or (pt_cmpR op_lt (pe_callTy call_int_str (by rfl) T.n_int bt_int (pa_cons (pv 4) pa_nil)) pe_int (nomark _)) (pw_or1 (pt_cmpR op_ne (pe_callBfun cr_gcd (by rfl) T.g_gcd (pa_cons (pv 5) (pa_cons (pe_callTy call_int_str (by rfl) T.n_int bt_int (pa_cons (pv 4) pa_nil)) pa_nil))) pe_int (nomark _)))))) (pss_one (ps_ret pe_non)) pss_nil)
      (pss_one (ps_ret (pe_tup (pa_cons (pv 5) (pa_cons (pe_callTy call_int_str (by rfl) T.n_int bt_int (pa_cons (pv 4) pa_nil)) pa_nil)))))))))))), ?_⟩
    refine seq_by fun N hN => ?_
    walk_at "vc"
    rcases h with ⟨U, hU, h1, q⟩ | ⟨x, rfl, hz, q⟩
    · refine ty_str hU ⟨_, rfl, ?_⟩
      rw [beq_false_of_ne h1]
      exact iteN (q H fun _ _ e => e)
    refine ty_str (.str x) ⟨_, rfl, iteF' rfl ?_⟩
    subst hN
    refine seq_by fun N hN => ?_
    walk_at "vc"
    simp only [tM0, tM1]
    walk_at "vc"
    refine ⟨⟨x, rfl⟩, ?_⟩
    subst hN
    refine seq_by fun N hN => ?_
    walk_at "vc"
    simp only [tM0, tM1]
    walk_at "vc"
    have hz1 : (Txt.removeprefix x "-").length ≤ 1000000 := Nat.le_trans (len_removeprefix x "-") hz
    have big : ∀ {n : Nat}, n ≤ 1000000 → n ≤ sizeLine := fun h => Nat.le_trans h (by decide)
    refine ⟨⟨x, rfl⟩, big hz, ⟨_, rfl⟩, by decide, big hz1, fun p hp => ⟨_, st_of upd_same, rfl, _, _, rfl, _, _, rfl, _, _, rfl, rfl, ?_⟩⟩
    obtain ⟨l1, l2, l3⟩ := PyProof.Rows.fact_partition (Txt.removeprefix x "-") "/"
    have sp := same_upd (o := .tup [.str (Txt.partition (Txt.removeprefix x "-") "/").1, .str (Txt.partition (Txt.removeprefix x "-") "/").2.1, .str (Txt.partition (Txt.removeprefix x "-") "/").2.2]) hp
    generalize upd H p (.tup [.str (Txt.partition (Txt.removeprefix x "-") "/").1, .str (Txt.partition (Txt.removeprefix x "-") "/").2.1, .str (Txt.partition (Txt.removeprefix x "-") "/").2.2]) = H1 at *
    have hcut : cutOf x = Txt.partition (Txt.removeprefix x "-") "/" := rfl
    generalize Txt.partition (Txt.removeprefix x "-") "/" = c at *
    obtain ⟨t1, t2, t3⟩ := c
    simp only at l1 l2 l3
    have hneg : negOf x = Txt.startswith x "-" := rfl
    generalize Txt.startswith x "-" = neg at *
    subst hN
    refine seq_by fun N hN => ?_
    walk_at "vc"
    have hp' : parsed x = if isCount t1 = false ∨ (neg = true ∧ t1 = "0") then none
        else if t2 = "" then some (if neg = true then -valOf t1 else valOf t1, 1)
        else if isCount t3 = false ∨ valOf t3 < 2 ∨ Nat.gcd (if neg = true then -valOf t1 else valOf t1).natAbs (valOf t3).natAbs ≠ 1 then none
        else some (if neg = true then -valOf t1 else valOf t1, valOf t3) := by
      unfold parsed topOf
      rw [hcut, hneg]
    have no : (isCount t1 = false ∨ (neg = true ∧ t1 = "0")) → Q .non H1 := fun h => by
      rw [hp', if_pos h] at q
      exact q H1 sp
    refine ⟨t1, rfl, big (by omega), ?_⟩
    refine ⟨_, rfl, ?_⟩
    cases ec : isCount t1 with
    | false => exact iteN (no (.inl ec))
    | true =>
      refine iteF' rfl ?_
      have go : ¬ (neg = true ∧ t1 = "0") → N [some (.str x), some (.bl neg), some (.str t1), some (.str t2), some (.str t3), none] H1 := by
        intro hno
        have hno' : ¬ (isCount t1 = false ∨ (neg = true ∧ t1 = "0")) := by
          rintro (z | z)
          · rw [ec] at z; cases z
          · exact hno z
        rw [hp', if_neg hno'] at q
        clear hp' no hcut
        obtain ⟨i1, i2⟩ := count_int ec
        subst hN
        refine seq_by fun N hN => ?_
        walk_at "vc"
        have rest : N [some (.str x), some (.bl neg), some (.str t1), some (.str t2), some (.str t3), some (.int (if neg = true then -valOf t1 else valOf t1))] H1 := by
          generalize (if neg = true then -valOf t1 else valOf t1) = top at *
          subst hN
          refine seq_by fun N hN => ?_
          walk_at "vc"
          refine ⟨rfl, ?_⟩
          split
          · rename_i h2
            rw [if_pos h2] at q
            refine ⟨by decide, fun r hr => q _ r (sp.trans (same_upd hr)) (st_of upd_same)⟩
          · rename_i h2
            rw [if_neg h2] at q
            subst hN
            refine seq_by fun N hN => ?_
            walk_at "vc"
            refine ⟨t3, rfl, big (by omega), _, rfl, ?_⟩
            have none' : (isCount t3 = false ∨ valOf t3 < 2 ∨ Nat.gcd top.natAbs (valOf t3).natAbs ≠ 1) → Q .non H1 := fun h => by
              rw [if_pos h] at q
              exact q H1 sp
            cases e3 : isCount t3 with
            | false => exact iteN (none' (.inl e3))
            | true =>
              obtain ⟨j1, j2⟩ := count_int e3
              refine iteF' rfl ⟨_, j1, j2, ?_⟩
              split
              · rename_i h2
                exact none' (.inr (.inl h2))
              · rename_i h3
                refine ⟨_, j1, j2, rfl, ?_⟩
                split
                · rename_i h4
                  exact none' (.inr (.inr fun z => h4 (by rw [z]; rfl)))
                · rename_i h4
                  have hno : ¬ (isCount t3 = false ∨ valOf t3 < 2 ∨ Nat.gcd top.natAbs (valOf t3).natAbs ≠ 1) := by
                    rintro (z | z | z)
                    · rw [e3] at z; cases z
                    · exact h3 z
                    · exact h4 fun w => z (by omega)
                  rw [if_neg hno] at q
                  subst hN
                  walk_at "vc"
                  refine ⟨_, j1, j2, by decide, fun r hr => q _ r (sp.trans (same_upd hr)) (st_of upd_same)⟩
        split
        · rename_i hn
          rw [if_pos hn] at rest
          exact ⟨_, i1, i2, rest⟩
        · rename_i hn
          rw [if_neg hn] at rest
          exact ⟨_, i1, i2, rest⟩
      split
      · rename_i hn
        refine ⟨rfl, ?_⟩
        split
        · rename_i h0
          exact no (.inr ⟨hn, h0⟩)
        · rename_i h0
          exact go fun z => h0 z.2
      · rename_i hn
        exact go fun z => hn z.1
end
end Odd
namespace Odd
open PySem PySem.Spec PyProof.Rows L2
local macro_rules | `(tactic| walk_at "vc") => `(tactic| simp only [tSeq, tAsg, gName, tCB, tCons, tNil, tVar, tC, tOp, tUn, rI0, rI, rU, tTup, tLst, tIfS, tTest, tB, tRet, tNext, rGcd, L2.start, List.map, List.set, List.replicate, List.cons_append, List.nil_append, List.length_cons, List.length_nil, List.getElem?_cons_succ, List.getElem?_cons_zero, Option.some.injEq, exists_eq_left', exists_eq_left, List.append_nil, List.cons.injEq, V.int.injEq, exists_and_left, and_true, true_and, and_assoc, exists_const, V.bl.injEq, V.ref.injEq, Nat.sub_self, Nat.reduceAdd, Nat.reduceSub, List.replicate_succ, List.replicate_zero, tAnd, tOr, tNot, tAndV, tOrV, tNotV, tIf, tCall, tCallK, tDrop, rEq, rNe, decide_eq_true_eq, Bool.not_eq_true', decide_eq_false_iff_not, Bool.false_eq_true, if_true, if_false, reduceIte, reduceCtorEq, tMkLow, tRaiseLow, rIsB, rNotB, tBreak, tPar, gSub, rSetL, tChain, gTup, gCons, gNil, gSeq, cx_K, cx_Kn, optV, V.str.injEq, Bool.not_true, Bool.not_false, false_and, and_false, or_false, false_or, exists_false, tCallN, tCallS, tPairs])
section
variable {P : Program} {w : World} {K : PySem.W.Frag} {mg : Str → Option Value} {base : Heap} {A : Ads}
def RetE (K : PySem.W.Frag) (H : Hp) (C : Addr) (o : Option (Int × Int)) (Q : VK) (E : XK) : Prop := match o with
  | none => RaiseP H C (.str "text") E
  | some p => RetP K H p Q
def spReadN (K : PySem.W.Frag) (C : Addr) : Sp := fun vs H Q E => ∃ v, vs = [v] ∧ ((∃ U, TyN K H v U ∧ U ≠ "str" ∧ RaiseP H C (.str "text") E) ∨ (∃ x : Str, v = .str x ∧ x.length ≤ 1000000 ∧ RetE K H C (parsed x) Q E))
theorem ok_read_number (T : Txt K mg A) : FnOk P w K mg base (L2.CX P w) 4 A.f_read_number A.d_read_number ["text"] (spReadN K A.c_BadText) := by
  refine T.read_number.F.okX sc_read_number (fun vs H Q E h => ?_) (fun cdv A' outer s H vs Q E hr h => ?_)
  · obtain ⟨_, rfl, _⟩ := h; rfl
  · obtain ⟨v, rfl, h⟩ := h
    refine ⟨_, (pss_cons (ps_set (i := 1) sc_read_number.nd rfl (.inl rfl) (pe_call (ok_parsed_number T) (hr.mono (by decide)) (by rfl) T.parsed_number.g T.parsed_number.F.kp T.parsed_number.b .nil pass0 (pa_cons (pv 0) pa_nil)))
      (pss_cons (ps_if (pt_cmpR op_isN (pv 1) pe_non (nomark _)) (pss_one (ps_raiseLow rfl T.low_BadText hr (takes_of rfl rfl rfl rfl) (by exact (pa_cons pe_str pa_nil)))) pss_nil)
      (pss_one (ps_ret (pv 1))))), ?_⟩
    refine seq_by fun N hN => ?_
    walk_at "vc"
    have none' : ∀ H1, Same H H1 → RaiseP H A.c_BadText (.str "text") E → N [some v, some .non] H1 := fun H1 s1 r => by
      subst hN
      refine seq_by fun N hN => ?_
      walk_at "vc"
      exact fun d hd => r _ d (s1.trans (same_upd hd)) upd_same
    rcases h with ⟨U, hU, h1, r⟩ | ⟨x, rfl, hz, r⟩
    · exact ⟨v, rfl, .inl ⟨U, hU, h1, fun H1 s1 => none' H1 s1 r⟩⟩
    · refine ⟨_, rfl, .inr ⟨x, rfl, hz, ?_⟩⟩
      cases e : parsed x with
      | none =>
        rw [e] at r
        exact fun H1 s1 => none' H1 s1 r
      | some p =>
        rw [e] at r
        intro H1 a s1 ha
        subst hN
        refine seq_by fun N hN => ?_
        walk_at "vc"
        subst hN
        walk_at "vc"
        exact r H1 a s1 ha
theorem log_lt {n : Nat} (h : n < 2 ^ 1900) : n.log2 < 1920 := by
  rcases Nat.eq_zero_or_pos n with rfl | z
  · decide
  · exact (Nat.log2_lt (by omega)).mpr (Nat.lt_of_lt_of_le h (Nat.pow_le_pow_right (by decide) (by decide)))
theorem len_num {a : Int} (h : a.natAbs < 2 ^ 1900) : (PySem.Str.ofString (toString a)).length ≤ 1921 := by
  rw [PySem.ofString_length]
  exact PySem.int_text_length_le (k := 1920) (by decide) (log_lt h)
def textOf (q : Int × Int) : Str := if q.2 = 1 then toString q.1 else Str.empty ++ (toString q.1 : Str) ++ "/" ++ (toString q.2 : Str)
def spNText (K : PySem.W.Frag) (C : Addr) : Sp := fun vs H Q E => ∃ v, vs = [v] ∧ ((∃ q, Num K H v q ∧ Sm 1900 q ∧ RetV H (.str (textOf q)) Q) ∨ (Bad K H v ∧ RaiseP H C (.str "value") E))
theorem ok_number_text (T : Txt K mg A) : FnOk P w K mg base (L2.CX P w) 5 A.f_number_text A.d_number_text ["value"] (spNText K A.c_BadNumber) := by
  refine T.number_text.F.okX sc_number_text (fun vs H Q E h => ?_) (fun cdv A' outer s H vs Q E hr h => ?_)
  · obtain ⟨_, rfl, _⟩ := h; rfl
  · obtain ⟨v, rfl, h⟩ := h
    refine ⟨_, (pss_cons (ps_asg (pe_call (ok_number_in T) (hr.mono (by decide)) (by rfl) T.number_in.g T.number_in.F.kp T.number_in.b .nil (passes_call (takes_of rfl rfl rfl rfl) (fun _ _ _ _ h => h)) (pa_cons (pv 0) (pa_cons pe_str pa_nil))) (pg_tup rfl (pgs_cons (pg_name (i := 1) sc_number_text.nd rfl (.inl rfl)) (pgs_cons (pg_name (i := 2) sc_number_text.nd rfl (.inl rfl)) pgs_nil))))
      (pss_cons (ps_if (pt_cmpR op_eq (pv 2) pe_int (nomark _)) (pss_one (ps_ret (pe_callTy call_str_int (by rfl) T.n_str bt_str (pa_cons (pv 1) pa_nil)))) pss_nil)
      (pss_one (ps_ret (pe_joined (PJ.cons (pe_fmt (pv 1)) (PJ.cons pe_str (PJ.cons (pe_fmt (pv 2)) PJ.nil)))))))), ?_⟩
    refine seq_by fun N hN => ?_
    walk_at "vc"
    rcases h with ⟨p, hn, hs, r⟩ | ⟨hb, r⟩
    · refine ⟨v, _, rfl, .inl ⟨p, hn, fun H1 a s1 ha => ⟨a, rfl, _, ha, rfl, _, _, rfl, _, _, rfl, rfl, ?_⟩⟩⟩
      subst hN
      refine seq_by fun N hN => ?_
      walk_at "vc"
      refine ⟨rfl, ?_⟩
      split
      · rename_i h1
        unfold textOf at r
        rw [if_pos h1] at r
        exact ⟨log_lt hs.1, r H1 s1⟩
      · rename_i h1
        unfold textOf at r
        rw [if_neg h1] at r
        subst hN
        have z0 : Str.empty.length = 0 := rfl
        have z1 : ("/" : Str).length = 1 := rfl
        have n1 := len_num hs.1
        have n2 := len_num hs.2
        have b1 : (Str.empty ++ (toString p.1 : Str)).length ≤ sizeLine := by
          rw [strLen_append]
          exact Nat.le_trans (by omega : _ ≤ 2000) (by decide)
        have b2 : (Str.empty ++ (toString p.1 : Str) ++ "/").length ≤ sizeLine := by
          rw [strLen_append, strLen_append]
          exact Nat.le_trans (by omega : _ ≤ 2000) (by decide)
        have b3 : (Str.empty ++ (toString p.1 : Str) ++ "/" ++ (toString p.2 : Str)).length ≤ sizeLine := by
          rw [strLen_append, strLen_append, strLen_append]
          exact Nat.le_trans (by omega : _ ≤ 5000) (by decide)
        exact ⟨_, rfl, .inr ⟨p.1, rfl, log_lt hs.1, _, rfl, b1, _, rfl, b2, _, rfl, .inr ⟨p.2, rfl, log_lt hs.2, _, rfl, b3, r H1 s1⟩⟩⟩
    · exact ⟨v, _, rfl, .inr ⟨hb, r⟩⟩
end
end Odd
namespace Odd
open PySem PySem.Spec PyProof.Rows L2
local macro_rules | `(tactic| walk_at "vc") => `(tactic| simp only [tSeq, tAsg, gName, tCB, tCons, tNil, tVar, tC, tOp, tUn, rI0, rI, rU, tTup, tLst, tIfS, tTest, tB, tRet, tNext, rGcd, L2.start, List.map, List.set, List.replicate, List.cons_append, List.nil_append, List.length_cons, List.length_nil, List.getElem?_cons_succ, List.getElem?_cons_zero, Option.some.injEq, exists_eq_left', exists_eq_left, List.append_nil, List.cons.injEq, V.int.injEq, exists_and_left, and_true, true_and, and_assoc, exists_const, V.bl.injEq, V.ref.injEq, Nat.sub_self, Nat.reduceAdd, Nat.reduceSub, List.replicate_succ, List.replicate_zero, tAnd, tOr, tNot, tAndV, tOrV, tNotV, tIf, tCall, tCallK, tDrop, rEq, rNe, decide_eq_true_eq, Bool.not_eq_true', decide_eq_false_iff_not, Bool.false_eq_true, if_true, if_false, reduceIte, reduceCtorEq, tMkLow, tRaiseLow, rIsB, rNotB, tBreak, tPar, gSub, rSetL, tChain, gTup, gCons, gNil, gSeq, cx_K, cx_Kn, optV, V.str.injEq, Bool.not_true, Bool.not_false, false_and, and_false, or_false, false_or, exists_false, tCallN, tCallS, tPairs])
section
variable {P : Program} {w : World} {K : PySem.W.Frag} {mg : Str → Option Value} {base : Heap} {A : Ads}
def parsed2 (x : Str) : Option P2 := match Txt.split x "," with
  | [a, b] => match parsed a, parsed b with
    | some p, some q => some (p, q)
    | _, _ => none
  | _ => none
def RetO2 (K : PySem.W.Frag) (H : Hp) (o : Option P2) (Q : VK) : Prop := match o with
  | none => RetV H .non Q
  | some p => RetPP K H p Q
theorem pp_new' {K : PySem.W.Frag} {H : Hp} {r : Addr} {x y : V} {p : P2} (hr : H r = none) (hx : Pr K H x p.1) (hy : Pr K H y p.2) : PP K (upd H r (.tup [x, y])) (.ref r) p :=
  ⟨r, x, y, rfl, st_of upd_same, hx.same (same_upd hr), hy.same (same_upd hr)⟩
def OV (K : PySem.W.Frag) (H : Hp) (o : Option (Int × Int)) (v : V) : Prop := match o with
  | none => v = .non
  | some p => Pr K H v p
theorem OV.same {H H' : Hp} {o : Option (Int × Int)} {v : V} (s : Same H H') (h : OV K H o v) : OV K H' o v := by
  cases o with
  | none => exact h
  | some p => exact Pr.same s h
theorem retO {H : Hp} {o : Option (Int × Int)} {Q : VK} (h : ∀ H' v, Same H H' → OV K H' o v → Q v H') : RetO K H o Q := by
  cases o with
  | none => exact fun H' s => h H' _ s rfl
  | some p => exact fun H' a s ha => h H' _ s ⟨a, rfl, ha⟩
def spParsed2 (K : PySem.W.Frag) : Sp := fun vs H Q _ => ∃ v, vs = [v] ∧ ((∃ U, TyN K H v U ∧ U ≠ "str" ∧ RetV H .non Q) ∨ (∃ x : Str, v = .str x ∧ x.length ≤ 1000000 ∧ RetO2 K H (parsed2 x) Q))
theorem ok_parsed_point (T : Txt K mg A) : FnOk P w K mg base CX0 3 A.f_parsed_point A.d_parsed_point ["text"] (spParsed2 K) := by
  refine T.parsed_point.F.ok sc_parsed_point (fun vs H Q E h => ?_) (fun cdv A' outer s H vs Q E hr h => ?_)
  · obtain ⟨_, rfl, _⟩ := h; rfl
  · obtain ⟨v, rfl, h⟩ := h
    refine ⟨_, (pss_cons (ps_if (pt_not (pt_val (pe_callB call_isi (by rfl) T.n_isinstance bt_isinstance (pa_cons (pv 0) (pa_cons (pe_bltn (v := .ty "str") (by rfl) T.n_str bt_str rfl) pa_nil))))) (pss_one (ps_ret pe_non)) pss_nil)
      (pss_cons (ps_set (i := 1) sc_parsed_point.nd rfl (.inl rfl) (pe_splitAny (pv 0) pe_str))
      (pss_cons (ps_if (pt_cmpR op_ne (pe_callB call_len_seq (by rfl) T.n_len bt_len (pa_cons (pv 1) pa_nil)) pe_int (nomark _)) (pss_one (ps_ret pe_non)) pss_nil)
      (pss_cons (ps_set (i := 2) sc_parsed_point.nd rfl (.inl rfl) (pe_call (ok_parsed_number T) (hr.mono (by decide)) (by rfl) T.parsed_number.g T.parsed_number.F.kp T.parsed_number.b .nil pass0 (pa_cons (pe_ix ix_list (pv 1) pe_int (fun _ _ => rfl)) pa_nil)))
      (pss_cons (ps_set (i := 3) sc_parsed_point.nd rfl (.inl rfl) (pe_call (ok_parsed_number T) (hr.mono (by decide)) (by rfl) T.parsed_number.g T.parsed_number.F.kp T.parsed_number.b .nil pass0 (pa_cons (pe_ix ix_list (pv 1) pe_int (fun _ _ => rfl)) pa_nil)))
      (pss_cons (ps_if (PW.pt (pw_or (pt_cmpR op_isN (pv 2) pe_non (nomark _)) (pw_or1 (pt_cmpR op_isN (pv 3) pe_non (nomark _))))) (pss_one (ps_ret pe_non)) pss_nil)
      (pss_one (ps_ret (pe_tup (pa_cons (pv 2) (pa_cons (pv 3) pa_nil))))))))))), ?_⟩
    refine seq_by fun N hN => ?_
    walk_at "vc"
    rcases h with ⟨U, hU, h1, q⟩ | ⟨x, rfl, hz, q⟩
    · refine ty_str hU ⟨_, rfl, ?_⟩
      rw [beq_false_of_ne h1]
      exact iteN (q H fun _ _ e => e)
    refine ty_str (.str x) ⟨_, rfl, iteF' rfl ?_⟩
    subst hN
    refine seq_by fun N hN => ?_
    walk_at "vc"
    simp only [tM0, tM1]
    walk_at "vc"
    refine ⟨⟨x, rfl⟩, .inl ⟨x, ",", rfl, rfl, by decide, Nat.le_trans (by omega : _ ≤ 1000002) (by decide), fun p hp => ?_⟩⟩
    have hj := PySem.StrLaws.join_split x ","
    generalize hw : Txt.split x "," = ws at *
    have sp := same_upd (o := .lst (ws.map V.str)) hp
    have ep : upd H p (.lst (ws.map V.str)) p = some (.lst (ws.map V.str)) := upd_same
    generalize upd H p (.lst (ws.map V.str)) = H1 at *
    have bad : parsed2 x = none → Q .non H1 := fun e => by rw [e] at q; exact q H1 sp
    subst hN
    refine seq_by fun N hN => ?_
    walk_at "vc"
    refine ⟨_, .inl (sl_of ep), rfl, ?_⟩
    rw [List.length_map]
    split
    · rename_i hl
      refine bad ?_
      unfold parsed2
      rw [hw]
      match ws, hl with
      | [], _ => rfl
      | [_], _ => rfl
      | [_, _], h => exact absurd rfl h
      | _ :: _ :: _ :: _, _ => rfl
    · rename_i hl
      obtain ⟨a, b, rfl⟩ : ∃ a b, ws = [a, b] := by
        match ws, hl with
        | [], h => exact absurd (by decide) h
        | [_], h => exact absurd (by simp) h
        | [a, b], _ => exact ⟨a, b, rfl⟩
        | _ :: _ :: _ :: _, h => exact absurd (by simp; omega) h
      have hlen : (a ++ "," ++ b).length = x.length := by rw [← hj]; rfl
      rw [strLen_append, strLen_append] at hlen
      have hp2 : parsed2 x = match parsed a, parsed b with
          | some p, some q => some (p, q)
          | _, _ => none := by
        unfold parsed2
        rw [hw]
      subst hN
      refine seq_by fun N hN => ?_
      walk_at "vc"
      refine ixL (sl_of ep) rfl ⟨_, rfl, .inr ⟨a, rfl, by omega, ?_⟩⟩
      refine retO fun H2 vx s2 hx => ?_
      subst hN
      refine seq_by fun N hN => ?_
      walk_at "vc"
      refine ixL (sl_of (s2 _ _ ep)) rfl ⟨_, rfl, .inr ⟨b, rfl, by omega, ?_⟩⟩
      refine retO fun H3 vy s3 hy => ?_
      have hx := hx.same s3
      have s03 := (sp.trans s2).trans s3
      subst hN
      refine seq_by fun N hN => ?_
      walk_at "vc"
      rw [hp2] at q
      cases ea : parsed a with
      | none =>
        rw [ea] at hx q
        rw [if_pos (show vx = V.non from hx)]
        exact q H3 s03
      | some pa =>
        rw [ea] at hx q
        obtain ⟨ra, rfl, ha⟩ := hx
        rw [if_neg (by intro z; cases z)]
        cases eb : parsed b with
        | none =>
          rw [eb] at hy q
          rw [if_pos (show vy = V.non from hy)]
          exact q H3 s03
        | some pb =>
          rw [eb] at hy q
          obtain ⟨rb, rfl, hb⟩ := hy
          rw [if_neg (by intro z; cases z)]
          subst hN
          walk_at "vc"
          exact ⟨by decide, fun r hr => q _ _ (s03.trans (same_upd hr)) (pp_new' hr ⟨ra, rfl, ha⟩ ⟨rb, rfl, hb⟩)⟩
end
end Odd
namespace Odd
open PySem PySem.Spec PyProof.Rows L2
local macro_rules | `(tactic| walk_at "vc") => `(tactic| simp only [tSeq, tAsg, gName, tCB, tCons, tNil, tVar, tC, tOp, tUn, rI0, rI, rU, tTup, tLst, tIfS, tTest, tB, tRet, tNext, rGcd, L2.start, List.map, List.set, List.replicate, List.cons_append, List.nil_append, List.length_cons, List.length_nil, List.getElem?_cons_succ, List.getElem?_cons_zero, Option.some.injEq, exists_eq_left', exists_eq_left, List.append_nil, List.cons.injEq, V.int.injEq, exists_and_left, and_true, true_and, and_assoc, exists_const, V.bl.injEq, V.ref.injEq, Nat.sub_self, Nat.reduceAdd, Nat.reduceSub, List.replicate_succ, List.replicate_zero, tAnd, tOr, tNot, tAndV, tOrV, tNotV, tIf, tCall, tCallK, tDrop, rEq, rNe, decide_eq_true_eq, Bool.not_eq_true', decide_eq_false_iff_not, Bool.false_eq_true, if_true, if_false, reduceIte, reduceCtorEq, tMkLow, tRaiseLow, rIsB, rNotB, tBreak, tPar, gSub, rSetL, tChain, gTup, gCons, gNil, gSeq, cx_K, cx_Kn, optV, V.str.injEq, Bool.not_true, Bool.not_false, false_and, and_false, or_false, false_or, exists_false, tCallN, tCallS, tPairs])
section
variable {P : Program} {w : World} {K : PySem.W.Frag} {mg : Str → Option Value} {base : Heap} {A : Ads}
theorem retO2 {H : Hp} {o : Option P2} {Q : VK} (hn : o = none → ∀ H', Same H H' → Q .non H') (hs : ∀ p, o = some p → ∀ H' v, Same H H' → PP K H' v p → Q v H') : RetO2 K H o Q := by
  cases o with
  | none => exact fun H' s => hn rfl H' s
  | some p => exact fun H' v s h => hs p rfl H' v s h
def RetE2 (K : PySem.W.Frag) (H : Hp) (C : Addr) (o : Option P2) (Q : VK) (E : XK) : Prop := match o with
  | none => RaiseP H C (.str "text") E
  | some p => RetPP K H p Q
def spReadP (K : PySem.W.Frag) (C : Addr) : Sp := fun vs H Q E => ∃ v, vs = [v] ∧ ((∃ U, TyN K H v U ∧ U ≠ "str" ∧ RaiseP H C (.str "text") E) ∨ (∃ x : Str, v = .str x ∧ x.length ≤ 1000000 ∧ RetE2 K H C (parsed2 x) Q E))
theorem ok_read_point (T : Txt K mg A) : FnOk P w K mg base (L2.CX P w) 5 A.f_read_point A.d_read_point ["text"] (spReadP K A.c_BadText) := by
  refine T.read_point.F.okX sc_read_point (fun vs H Q E h => ?_) (fun cdv A' outer s H vs Q E hr h => ?_)
  · obtain ⟨_, rfl, _⟩ := h; rfl
  · obtain ⟨v, rfl, h⟩ := h
    refine ⟨_, (pss_cons (ps_set (i := 1) sc_read_point.nd rfl (.inl rfl) (pe_call (ok_parsed_point T) (hr.mono (by decide)) (by rfl) T.parsed_point.g T.parsed_point.F.kp T.parsed_point.b .nil pass0 (pa_cons (pv 0) pa_nil)))
      (pss_cons (ps_if (pt_cmpR op_isN (pv 1) pe_non (nomark _)) (pss_one (ps_raiseLow rfl T.low_BadText hr (takes_of rfl rfl rfl rfl) (by exact (pa_cons pe_str pa_nil)))) pss_nil)
      (pss_one (ps_ret (pv 1))))), ?_⟩
    refine seq_by fun N hN => ?_
    walk_at "vc"
    have none' : ∀ H1, Same H H1 → RaiseP H A.c_BadText (.str "text") E → N [some v, some .non] H1 := fun H1 s1 r => by
      subst hN
      refine seq_by fun N hN => ?_
      walk_at "vc"
      exact fun d hd => r _ d (s1.trans (same_upd hd)) upd_same
    rcases h with ⟨U, hU, h1, r⟩ | ⟨x, rfl, hz, r⟩
    · exact ⟨v, rfl, .inl ⟨U, hU, h1, fun H1 s1 => none' H1 s1 r⟩⟩
    · refine ⟨_, rfl, .inr ⟨x, rfl, hz, retO2 (fun e H1 s1 => ?_) (fun p e H1 vp s1 hp => ?_)⟩⟩
      · rw [e] at r
        exact none' H1 s1 r
      · rw [e] at r
        have hne : vp ≠ .non := by
          obtain ⟨a, x, y, rfl, _⟩ := hp
          intro z; cases z
        subst hN
        refine seq_by fun N hN => ?_
        walk_at "vc"
        rw [if_neg hne]
        subst hN
        walk_at "vc"
        exact r H1 vp s1 hp
theorem len_text {q : Int × Int} (h : Sm 1900 q) : (textOf q).length ≤ 4000 := by
  have n1 := len_num h.1
  have n2 := len_num h.2
  unfold textOf
  split
  · exact Nat.le_trans n1 (by decide)
  · rw [strLen_append, strLen_append, strLen_append]
    have z0 : Str.empty.length = 0 := rfl
    have z1 : ("/" : Str).length = 1 := rfl
    omega
def textOf2 (p : P2) : Str := Str.empty ++ textOf p.1 ++ "," ++ textOf p.2
def spPText (K : PySem.W.Frag) (C : Addr) : Sp := fun vs H Q E => ∃ v, vs = [v] ∧ ((∃ p, Pt K H v p ∧ Sm 1900 p.1 ∧ Sm 1900 p.2 ∧ RetV H (.str (textOf2 p)) Q) ∨ (BadP K H v ∧ RaiseP H C (.str "value") E))
theorem ok_point_text (T : Txt K mg A) : FnOk P w K mg base (L2.CX P w) 6 A.f_point_text A.d_point_text ["value"] (spPText K A.c_BadPoint) := by
  refine T.point_text.F.okX sc_point_text (fun vs H Q E h => ?_) (fun cdv A' outer s H vs Q E hr h => ?_)
  · obtain ⟨_, rfl, _⟩ := h; rfl
  · obtain ⟨v, rfl, h⟩ := h
    refine ⟨_, (pss_cons (ps_asg (pe_call (ok_point_in T) (hr.mono (by decide)) (by rfl) T.point_in.g T.point_in.F.kp T.point_in.b .nil (passes_call (takes_of rfl rfl rfl rfl) (fun _ _ _ _ h => h)) (pa_cons (pv 0) (pa_cons pe_str pa_nil))) (pg_tup rfl (pgs_cons (pg_name (i := 1) sc_point_text.nd rfl (.inl rfl)) (pgs_cons (pg_name (i := 2) sc_point_text.nd rfl (.inl rfl)) pgs_nil))))
      (pss_one (ps_ret (pe_joined (PJ.cons (pe_fmt (pe_call (ok_number_text T) (hr.mono (by decide)) (by rfl) T.number_text.g T.number_text.F.kp T.number_text.b .nil (passes_call (takes_of rfl rfl rfl rfl) (fun _ _ _ _ h => h)) (pa_cons (pv 1) pa_nil))) (PJ.cons pe_str (PJ.cons (pe_fmt (pe_call (ok_number_text T) (hr.mono (by decide)) (by rfl) T.number_text.g T.number_text.F.kp T.number_text.b .nil (passes_call (takes_of rfl rfl rfl rfl) (fun _ _ _ _ h => h)) (pa_cons (pv 2) pa_nil))) PJ.nil))))))), ?_⟩
    refine seq_by fun N hN => ?_
    walk_at "vc"
    rcases h with ⟨p, hp, s1, s2, r⟩ | ⟨hb, r⟩
    · have hc := hp.canon
      refine ⟨v, _, rfl, .inl ⟨p, hp, fun H1 vp t1 hpp => ?_⟩⟩
      obtain ⟨a, x, y, rfl, ha, hx, hy⟩ := hpp
      refine ⟨a, rfl, _, ha, rfl, _, _, rfl, _, _, rfl, rfl, ?_⟩
      subst hN
      walk_at "vc"
      have z0 : Str.empty.length = 0 := rfl
      have z1 : ("," : Str).length = 1 := rfl
      have n1 := len_text s1
      have n2 := len_text s2
      have big : ∀ {n : Nat}, n ≤ 1000000 → n ≤ sizeLine := fun h => Nat.le_trans h (by decide)
      refine ⟨_, rfl, x, rfl, .inl ⟨p.1, hx.num hc.1, s1, fun H2 t2 => .inl ⟨_, rfl, big (by omega), _, rfl, big (by rw [strLen_append]; omega), _, rfl, big (by rw [strLen_append, strLen_append]; omega), ?_⟩⟩⟩
      refine ⟨_, rfl, y, rfl, .inl ⟨p.2, (hy.same t2).num hc.2, s2, fun H3 t3 => .inl ⟨_, rfl, big (by omega), _, rfl, big (by rw [strLen_append, strLen_append, strLen_append]; omega), r H3 ((t1.trans t2).trans t3)⟩⟩⟩
    · exact ⟨v, _, rfl, .inr ⟨hb, r⟩⟩
end
end Odd
namespace Odd
open PySem PySem.Spec PyProof.Rows L2
local macro_rules | `(tactic| walk_at "vc") => `(tactic| simp only [tSeq, tAsg, gName, tCB, tCons, tNil, tVar, tC, tOp, tUn, rI0, rI, rU, tTup, tLst, tIfS, tTest, tB, tRet, tNext, rGcd, L2.start, List.map, List.set, List.replicate, List.cons_append, List.nil_append, List.length_cons, List.length_nil, List.getElem?_cons_succ, List.getElem?_cons_zero, Option.some.injEq, exists_eq_left', exists_eq_left, List.append_nil, List.cons.injEq, V.int.injEq, exists_and_left, and_true, true_and, and_assoc, exists_const, V.bl.injEq, V.ref.injEq, Nat.sub_self, Nat.reduceAdd, Nat.reduceSub, List.replicate_succ, List.replicate_zero, tAnd, tOr, tNot, tAndV, tOrV, tNotV, tIf, tCall, tCallK, tDrop, rEq, rNe, decide_eq_true_eq, Bool.not_eq_true', decide_eq_false_iff_not, Bool.false_eq_true, if_true, if_false, reduceIte, reduceCtorEq, tMkLow, tRaiseLow, rIsB, rNotB, tBreak, tPar, gSub, rSetL, tChain, gTup, gCons, gNil, gSeq, cx_K, cx_Kn, optV, V.str.injEq, Bool.not_true, Bool.not_false, false_and, and_false, or_false, false_or, exists_false, tCallN, tCallS, tPairs])
section
variable {P : Program} {w : World} {K : PySem.W.Frag} {mg : Str → Option Value} {base : Heap} {A : Ads}
theorem empty_app (x : Str) : Str.empty ++ x = x := by
  cases x with
  | mk a =>
    show (⟨#[] ++ a⟩ : Str) = ⟨a⟩
    rw [Array.empty_append]
def spWritten (K : PySem.W.Frag) : Sp := fun vs H Q _ => ∃ v q, vs = [v] ∧ Pr K H v q ∧ Sm 1900 q ∧ Q (.str (textOf q)) H
theorem ok__law_written (T : Txt K mg A) : FnOk P w K mg base CX0 1 A.f__law_written A.d__law_written ["pair"] (spWritten K) := by
  refine T._law_written.F.ok sc__law_written (fun vs H Q E h => ?_) (fun cdv A' outer s H vs Q E hr h => ?_)
  · obtain ⟨_, _, rfl, _⟩ := h; rfl
  · obtain ⟨v, q, rfl, ⟨p, rfl, hp⟩, hs, r⟩ := h
    refine ⟨_, (pss_one (ps_ret (pe_ifExp (pt_cmpR op_eq (pe_ix ix_tup (pv 0) pe_int (fun _ _ => rfl)) pe_int (nomark _)) (pe_callTy call_str_int (by rfl) T.n_str bt_str (pa_cons (pe_ix ix_tup (pv 0) pe_int (fun _ _ => rfl)) pa_nil)) (pe_op op_add_str (pe_op op_add_str (pe_callTy call_str_int (by rfl) T.n_str bt_str (pa_cons (pe_ix ix_tup (pv 0) pe_int (fun _ _ => rfl)) pa_nil)) pe_str) (pe_callTy call_str_int (by rfl) T.n_str bt_str (pa_cons (pe_ix ix_tup (pv 0) pe_int (fun _ _ => rfl)) pa_nil)))))), ?_⟩
    walk_at "vc"
    refine ixT hp rfl ⟨rfl, ?_⟩
    unfold textOf at r
    have n1 := len_num hs.1
    have n2 := len_num hs.2
    have z1 : ("/" : Str).length = 1 := rfl
    have big : ∀ {n : Nat}, n ≤ 1000000 → n ≤ sizeLine := fun h => Nat.le_trans h (by decide)
    split
    · rename_i h1
      rw [if_pos (by injection h1)] at r
      exact ixT hp rfl ⟨_, rfl, log_lt hs.1, r⟩
    · rename_i h1
      rw [if_neg (fun z => h1 (by rw [z]))] at r
      refine ixT hp rfl ⟨_, rfl, log_lt hs.1, big (by omega), ixT hp rfl ⟨_, rfl, log_lt hs.2, big (by rw [strLen_append]; omega), ?_⟩⟩
      have e : Str.empty ++ (toString q.1 : Str) = (toString q.1 : Str) := empty_app _
      rw [e] at r
      exact r
def spTold (K : PySem.W.Frag) : Sp := fun vs H Q _ => ∃ (b : Bool) (v : V), vs = [.bl b, v] ∧ ((∃ U, TyN K H v U ∧ U ≠ "str" ∧ RetV H .non Q) ∨ (∃ x : Str, v = .str x ∧ x.length ≤ 1000000 ∧ ((b = true ∧ RetO K H (parsed x) Q) ∨ (b = false ∧ RetO2 K H (parsed2 x) Q))))
theorem ok__law_told (T : Txt K mg A) : FnOk P w K mg base CX0 6 A.f__law_told A.d__law_told ["is_number_v", "text"] (spTold K) := by
  refine T._law_told.F.ok sc__law_told (fun vs H Q E h => ?_) (fun cdv A' outer s H vs Q E hr h => ?_)
  · obtain ⟨_, _, rfl, _⟩ := h; rfl
  · obtain ⟨b, v, rfl, h⟩ := h
    have hr1 : Room 5 _ := hr
    refine ⟨_, (pss_cons (ps_set (i := 2) sc__law_told.nd rfl (.inl rfl) pe_str)
      (pss_cons (ps_try_as (i := 3) (tb := fun W => tAsg (tIf (tB (tVar 0)) (tCallS (spReadN K A.c_BadText) (WE W) (tCons (tVar 1) tNil)) (tCallS (spReadP K A.c_BadText) (WE W) (tCons (tVar 1) tNil))) (gName 2)) (ts := fun a cls d => tAsg (tIf (tTest (tOp rEq (tByLow A.c_BadText a cls d (tVar 3)) (tC (.str "text")))) (tC .non) (tC (.str "part"))) (gName 2)) (Wout := fun _ _ _ _ => False) rfl rfl sc__law_told.nd rfl rfl ⟨rfl, by decide, Or.inl T.low_BadText.gC⟩ takes0 (fun W pn xe tk _ => (pss_one (ps_set (i := 2) sc__law_told.nd rfl (Or.inl rfl) (by exact (pe_ifExp (pt_val (pv 0)) (pe_callS (ok_read_number T) (hr1.mono (by decide)) rfl T.read_number.g T.read_number.F.kp T.read_number.b (fun σ => passAt tk σ) (pa_cons (pv 1) pa_nil)) (pe_callS (ok_read_point T) (hr1.mono (by decide)) rfl T.read_point.g T.read_point.F.kp T.read_point.b (fun σ => passAt tk σ) (pa_cons (pv 1) pa_nil))))))) (fun a oe cls d pn hz hf => pss_one (ps_set (i := 2) sc__law_told.nd rfl (Or.inl rfl) (by exact (pe_ifExp (pt_cmpR op_eq (pe_byLow T.low_BadText hz hf (pv 3)) pe_str (nomark _)) pe_non pe_str)))))
      (pss_one (ps_ret (pv 2))))), ?_⟩
    walk_at "vc"
    have ex : RetV H .non Q → RaiseP H A.c_BadText (.str "text") (WE
        (wAs K (Value.ref A.c_BadText) 3
          (fun a cls d =>
            tAsg
              (tIf (tTest (tOp rEq (tByLow A.c_BadText a cls d (tVar 3)) (tC (V.str "text")))) (tC V.non)
                (tC (V.str "part")))
              (gName 2))
          (fun x x_1 x_2 x_3 => False) { nx := tRet (tVar 2) { nx := fun x H' => Q V.non H', rt := Q }, rt := Q })
        [some (V.bl b), some v, some (V.str "nothing"), none]) := by
      intro r H' d s e
      refine ⟨true, T.low_BadText.te, fun _ a ha => ?_, fun z => Bool.noConfusion z⟩
      walk_at "vc"
      simp only [tByLow]
      walk_at "vc"
      refine ⟨_, e, rfl, ?_⟩
      rw [if_pos rfl]
      exact r H' s
    rcases h with ⟨U, hU, h1, r⟩ | ⟨x, rfl, hz, ⟨rfl, r⟩ | ⟨rfl, r⟩⟩
    · split
      · exact ⟨v, rfl, .inl ⟨U, hU, h1, ex r⟩⟩
      · exact ⟨v, rfl, .inl ⟨U, hU, h1, ex r⟩⟩
    · rw [if_pos rfl]
      refine ⟨_, rfl, .inr ⟨x, rfl, hz, ?_⟩⟩
      cases e : parsed x with
      | none =>
        rw [e] at r
        exact ex r
      | some p =>
        rw [e] at r
        exact r
    · rw [if_neg (by decide)]
      refine ⟨_, rfl, .inr ⟨x, rfl, hz, ?_⟩⟩
      cases e : parsed2 x with
      | none =>
        rw [e] at r
        exact ex r
      | some p =>
        rw [e] at r
        exact r
end
end Odd
namespace Odd
open PySem PySem.Spec PyProof.Rows L2
local macro_rules | `(tactic| walk_at "vc") => `(tactic| simp only [tSeq, tAsg, gName, tCB, tCons, tNil, tVar, tC, tOp, tUn, rI0, rI, rU, tTup, tLst, tIfS, tTest, tB, tRet, tNext, rGcd, L2.start, List.map, List.set, List.replicate, List.cons_append, List.nil_append, List.length_cons, List.length_nil, List.getElem?_cons_succ, List.getElem?_cons_zero, Option.some.injEq, exists_eq_left', exists_eq_left, List.append_nil, List.cons.injEq, V.int.injEq, exists_and_left, and_true, true_and, and_assoc, exists_const, V.bl.injEq, V.ref.injEq, Nat.sub_self, Nat.reduceAdd, Nat.reduceSub, List.replicate_succ, List.replicate_zero, tAnd, tOr, tNot, tAndV, tOrV, tNotV, tIf, tCall, tCallK, tDrop, rEq, rNe, decide_eq_true_eq, Bool.not_eq_true', decide_eq_false_iff_not, Bool.false_eq_true, if_true, if_false, reduceIte, reduceCtorEq, tMkLow, tRaiseLow, rIsB, rNotB, tBreak, tPar, gSub, rSetL, tChain, gTup, gCons, gNil, gSeq, cx_K, cx_Kn, optV, V.str.injEq, Bool.not_true, Bool.not_false, false_and, and_false, or_false, false_or, exists_false, tCallN, tCallS, tPairs])
section
variable {P : Program} {w : World} {K : PySem.W.Frag} {mg : Str → Option Value} {base : Heap} {A : Ads}
def spSize : Sp := fun vs H Q _ => ∃ (u : Addr) (k : Nat), vs = [.ref u] ∧ Urn H u (k + 3) ∧ ∀ H' (m : Int), But u H H' → Urn H' u k → 0 ≤ m → m < 10 ^ 60 → Q (.int m) H'
theorem ok__law_size (T : Txt K mg A) : FnOk P w K mg base CX0 2 A.f__law_size A.d__law_size ["crate"] spSize := by
  refine T._law_size.F.ok sc__law_size (fun vs H Q E h => ?_) (fun cdv A' outer s H vs Q E hr h => ?_)
  · obtain ⟨_, _, rfl, _⟩ := h; rfl
  · obtain ⟨u, k, rfl, hu, q⟩ := h
    refine ⟨_, (pss_cons (ps_set (i := 1) sc__law_size.nd rfl (.inl rfl) (pe_call (ok__law_pick T) (hr.mono (by decide)) (by rfl) T._law_pick.g T._law_pick.F.kp T._law_pick.b .nil pass0 (pa_cons (pv 0) (pa_cons pe_int pa_nil))))
      (pss_cons (ps_if (pt_cmpR op_lt (pv 1) pe_int (nomark _)) (pss_one (ps_ret (pe_call (ok__law_pick T) (hr.mono (by decide)) (by rfl) T._law_pick.g T._law_pick.F.kp T._law_pick.b .nil pass0 (pa_cons (pv 0) (pa_cons (pe_ix ix_list (pe_lst (pa_cons pe_int (pa_cons pe_int (pa_cons (pe_op op_pow pe_int pe_int) pa_nil)))) (pv 1) (fun _ _ => rfl)) pa_nil))))) pss_nil)
      (pss_cons (ps_if (pt_cmpR op_eq (pv 1) pe_int (nomark _)) (pss_one (ps_ret (pe_op op_add (pe_op op_add (pe_op op_pow pe_int pe_int) (pe_op op_mulW (pe_call (ok__law_pick T) (hr.mono (by decide)) (by rfl) T._law_pick.g T._law_pick.F.kp T._law_pick.b .nil pass0 (pa_cons (pv 0) (pa_cons (pe_op op_pow pe_int pe_int) pa_nil))) (pe_op op_pow pe_int pe_int))) (pe_call (ok__law_pick T) (hr.mono (by decide)) (by rfl) T._law_pick.g T._law_pick.F.kp T._law_pick.b .nil pass0 (pa_cons (pv 0) (pa_cons (pe_op op_pow pe_int pe_int) pa_nil)))))) pss_nil)
      (pss_one (ps_ret (pe_op op_sub (pe_op op_sub (pe_op op_pow pe_int pe_int) pe_int) (pe_call (ok__law_pick T) (hr.mono (by decide)) (by rfl) T._law_pick.g T._law_pick.F.kp T._law_pick.b .nil pass0 (pa_cons (pv 0) (pa_cons pe_int pa_nil))))))))), ?_⟩
    refine seq_by fun N hN => ?_
    walk_at "vc"
    refine ⟨u, 5, k + 2, rfl, by decide, by decide, hu, fun H1 m b1 u1 m0 m1 => ?_⟩
    subst hN
    refine seq_by fun N hN => ?_
    walk_at "vc"
    have p9 : CPow 10 9 := ⟨by decide, by decide, by decide⟩
    have e9 : (10 : Int) ^ Int.toNat 9 = 1000000000 := by decide
    have ten : (1000000000 : Int) < 10 ^ 60 := by decide +kernel
    rw [e9]
    split
    · rename_i hm
      refine ⟨p9, by decide, fun p hp => ?_⟩
      have sp := same_upd (o := .lst [.int 10, .int 100, .int 1000000000]) hp
      have fin : ∀ H2 x, But u (upd H1 p (.lst [.int 10, .int 100, .int 1000000000])) H2 → Urn H2 u (k + 1) → 0 ≤ x → x < 1000000000 → Q (.int x) H2 := fun H2 x b2 u2 x0 x1 =>
        q _ _ ((b1.trans (same_but sp)).trans b2) (u2.mono (by omega)) x0 (Int.lt_trans x1 ten)
      have hm' : m = 0 ∨ m = 1 ∨ m = 2 := by omega
      rcases hm' with rfl | rfl | rfl
      · exact ixL (sl_of upd_same) rfl ⟨u, _, k + 1, rfl, by decide, by decide, u1.same sp, fun H2 x b2 u2 x0 x1 => fin H2 x b2 u2 x0 (by omega)⟩
      · exact ixL (sl_of upd_same) rfl ⟨u, _, k + 1, rfl, by decide, by decide, u1.same sp, fun H2 x b2 u2 x0 x1 => fin H2 x b2 u2 x0 (by omega)⟩
      · exact ixL (sl_of upd_same) rfl ⟨u, _, k + 1, rfl, by decide, by decide, u1.same sp, fun H2 x b2 u2 x0 x1 => fin H2 x b2 u2 x0 (by omega)⟩
    · rename_i hm
      subst hN
      refine seq_by fun N hN => ?_
      walk_at "vc"
      have e6 : (10 : Int) ^ Int.toNat 6 = 1000000 := by decide
      have c59 : (10 : Int) ^ Int.toNat 59 = 100000000000000000000000000000000000000000000000000000000000 := by decide +kernel
      have c40 : (10 : Int) ^ Int.toNat 40 = 10000000000000000000000000000000000000000 := by decide +kernel
      have c60 : (10 : Int) ^ Int.toNat 60 = 1000000000000000000000000000000000000000000000000000000000000 := by decide +kernel
      have d60 : (10 : Int) ^ 60 = 1000000000000000000000000000000000000000000000000000000000000 := by decide +kernel
      rw [d60] at q
      refine ⟨rfl, ?_⟩
      split
      · refine ⟨⟨by decide, by decide, by decide⟩, p9, ?_⟩
        rw [e9, e6, c59, c40]
        refine ⟨u, _, k + 1, rfl, by decide, by decide, u1, fun H2 x b2 u2 x0 x1 => ⟨⟨by decide, by decide, by decide⟩, x, rfl, ?_, ⟨by decide, by decide, by decide⟩, ?_⟩⟩
        · exact wide_mul (a := 40) (b := 140) (by omega) (by decide) (by decide) (by decide) (by decide)
        · exact ⟨u, _, k, rfl, by decide, by decide, u2, fun H3 y b3 u3 y0 y1 => ⟨y, rfl, q _ _ ((b1.trans b2).trans b3) u3 (by omega) (by omega)⟩⟩
      · subst hN
        walk_at "vc"
        rw [c60]
        exact ⟨⟨by decide, by decide, by decide⟩, u, _, k + 1, rfl, by decide, by decide, u1, fun H2 x b2 u2 x0 x1 => ⟨x, rfl, q _ _ (b1.trans b2) (u2.mono (by omega)) (by omega) (by omega)⟩⟩
theorem div_low {t u : Int} (h : 0 < u) : (t / ((Nat.gcd t.natAbs u.natAbs : Nat) : Int), u / ((Nat.gcd t.natAbs u.natAbs : Nat) : Int)) = low t u := by
  unfold low
  rw [if_neg (by omega), Int.fdiv_eq_ediv_of_nonneg _ (by omega), Int.fdiv_eq_ediv_of_nonneg _ (by omega)]
def Dr (q : Int × Int) : Prop := Canon q ∧ q.1.natAbs < 10 ^ 60 ∧ q.2 < 10 ^ 60
def spDrawn (K : PySem.W.Frag) : Sp := fun vs H Q _ => ∃ (u : Addr) (k : Nat), vs = [.ref u] ∧ Urn H u (k + 9) ∧ ∀ H' v q, But u H H' → Urn H' u k → Pr K H' v q → Dr q → Q v H'
theorem ok__law_drawn (T : Txt K mg A) : FnOk P w K mg base CX0 3 A.f__law_drawn A.d__law_drawn ["crate"] (spDrawn K) := by
  refine T._law_drawn.F.ok sc__law_drawn (fun vs H Q E h => ?_) (fun cdv A' outer s H vs Q E hr h => ?_)
  · obtain ⟨_, _, rfl, _⟩ := h; rfl
  · obtain ⟨u, k, rfl, hu, q⟩ := h
    refine ⟨_, (pss_cons (ps_par (i := 1) (j := 2) rfl sc__law_drawn.nd rfl rfl (by decide) rfl rfl (pa_cons (pe_op op_mulW (pe_call (ok__law_size T) (hr.mono (by decide)) (by rfl) T._law_size.g T._law_size.F.kp T._law_size.b .nil pass0 (pa_cons (pv 0) pa_nil)) (pe_op op_sub pe_int (pe_op op_mulW pe_int (pe_call (ok__law_pick T) (hr.mono (by decide)) (by rfl) T._law_pick.g T._law_pick.F.kp T._law_pick.b .nil pass0 (pa_cons (pv 0) (pa_cons pe_int pa_nil)))))) (pa_cons (pe_call (ok__law_one_of T) (hr.mono (by decide)) (by rfl) T._law_one_of.g T._law_one_of.F.kp T._law_one_of.b .nil pass0 (pa_cons (pv 0) (pa_cons (pe_lst (pa_cons pe_int (pa_cons (pe_op op_add (pe_call (ok__law_size T) (hr.mono (by decide)) (by rfl) T._law_size.g T._law_size.F.kp T._law_size.b .nil pass0 (pa_cons (pv 0) pa_nil)) pe_int) (pa_cons (pe_op op_add pe_int (pe_call (ok__law_pick T) (hr.mono (by decide)) (by rfl) T._law_pick.g T._law_pick.F.kp T._law_pick.b .nil pass0 (pa_cons (pv 0) (pa_cons pe_int pa_nil)))) pa_nil)))) pa_nil))) pa_nil)) rfl)
      (pss_cons (ps_if (pt_cmpR op_eq (pv 2) (pe_op op_pow pe_int pe_int) (nomark _)) (pss_one (ps_set (i := 2) sc__law_drawn.nd rfl (.inl rfl) (pe_op op_sub (pe_op op_pow pe_int pe_int) pe_int))) pss_nil)
      (pss_cons (ps_set (i := 3) sc__law_drawn.nd rfl (.inl rfl) (pe_call (ok__law_shared T) (hr.mono (by decide)) (by rfl) T._law_shared.g T._law_shared.F.kp T._law_shared.b .nil pass0 (pa_cons (pv 1) (pa_cons (pv 2) pa_nil))))
      (pss_one (ps_ret (pe_tup (pa_cons (pe_op op_fdivW (pv 1) (pv 3)) (pa_cons (pe_op op_fdivW (pv 2) (pv 3)) pa_nil)))))))), ?_⟩
    refine seq_by fun N hN => ?_
    walk_at "vc"
    have d60 : (10 : Int) ^ 60 = 1000000000000000000000000000000000000000000000000000000000000 := by decide +kernel
    have c60 : (10 : Int) ^ Int.toNat 60 = 1000000000000000000000000000000000000000000000000000000000000 := by decide +kernel
    have n60 : (10 : Nat) ^ 60 = 1000000000000000000000000000000000000000000000000000000000000 := by decide +kernel
    have n200 : (2 : Nat) ^ 200 = 1606938044258990275541962092341162602522202993782792835301376 := by decide +kernel
    refine ⟨u, k + 6, rfl, hu, fun H1 i b1 u1 i0 i1 => ?_⟩
    rw [d60] at i1
    refine ⟨u, _, k + 5, rfl, by decide, by decide, u1, fun H2 s b2 u2 s0 s1 => ⟨s, rfl, ?_, i, rfl, ?_, ?_⟩⟩
    · exact wide_mul (a := 2) (b := 2) (by decide) (by omega) (by decide) (by decide) (by decide)
    · exact wide_mul (a := 200) (b := 2) (by rw [n200]; omega) (by omega) (by decide) (by decide) (by decide)
    refine ⟨u, k + 2, rfl, u2, fun H3 j b3 u3 j0 j1 => ⟨j, rfl, u, _, k + 1, rfl, by decide, by decide, u3, fun H4 x b4 u4 x0 x1 => ⟨x, rfl, by decide, fun p hp => ?_⟩⟩⟩
    rw [d60] at j1
    have sp := same_upd (o := .lst [.int 1, .int (j + 1), .int (2 + x)]) hp
    obtain ⟨cu, yu, eu⟩ := u4.at
    refine ⟨u, p, _, k, rfl, (ne_of_none eu hp).symm, upd_same, by simp, by simp, u4.same sp, fun H5 v b5 u5 hv => ?_⟩
    obtain ⟨d, rfl, d0, d1⟩ : ∃ d : Int, v = .int d ∧ 0 < d ∧ d ≤ 1000000000000000000000000000000000000000000000000000000000000 := by
      simp only [List.mem_cons, List.not_mem_nil, or_false] at hv
      rcases hv with rfl | rfl | rfl
      · exact ⟨_, rfl, by omega, by omega⟩
      · exact ⟨_, rfl, by omega, by omega⟩
      · exact ⟨_, rfl, by omega, by omega⟩
    have b15 := ((((b1.trans b2).trans b3).trans b4).trans (same_but sp)).trans b5
    have ht : (i * (1 - 2 * s)).natAbs < 10 ^ 60 := by
      rw [n60]
      have : s = 0 ∨ s = 1 := by omega
      rcases this with rfl | rfl
      · rw [show (1 - 2 * 0 : Int) = 1 by decide, Int.mul_one]; omega
      · rw [show (1 - 2 * 1 : Int) = -1 by decide, Int.mul_neg_one]; omega
    generalize i * (1 - 2 * s) = t at *
    clear hv sp hp eu u1 u2 u3 u4 b1 b2 b3 b4 b5 i0 i1 s0 s1 j0 j1 x0 x1
    subst hN
    refine seq_by fun N hN => ?_
    have go : ∀ d : Int, 0 < d → d < 1000000000000000000000000000000000000000000000000000000000000 → N [some (.ref u), some (.int t), some (.int d), none] H5 := by
      intro d d0 d1
      subst hN
      refine seq_by fun N hN => ?_
      walk_at "vc"
      refine ⟨t, d, rfl, by rw [n60]; omega, ?_⟩
      subst hN
      walk_at "vc"
      have hg : 0 < Nat.gcd t.natAbs d.natAbs := Nat.gcd_pos_of_pos_right _ (by omega)
      have hl : Nat.gcd t.natAbs d.natAbs ≤ d.natAbs := Nat.le_of_dvd (by omega) (Nat.gcd_dvd_right _ _)
      have hd : ∀ i, CDivW i ((Nat.gcd t.natAbs d.natAbs : Nat) : Int) := fun i => wide_div (b := 200) (by omega) (by rw [n200]; omega) (by decide) (by decide)
      refine ⟨hd _, hd _, by decide, fun r hr => ?_⟩
      obtain ⟨l1, l2, l3⟩ := low_is (t := t) (u := d) (by omega)
      have lc := l1.1
      refine q _ _ (low t d) (b15.trans (same_but (same_upd hr))) (u5.same (same_upd hr)) ⟨r, rfl, ?_⟩ ⟨lc, by omega, by rw [d60]; have := lc.1; omega⟩
      rw [← div_low d0]
      exact st_of upd_same
    walk_at "vc"
    rw [c60]
    refine ⟨⟨by decide, by decide, by decide⟩, rfl, ?_⟩
    split
    · exact ⟨⟨by decide, by decide, by decide⟩, go _ (by decide) (by decide)⟩
    · rename_i hd
      exact go d d0 (by omega)
end
end Odd
namespace Odd
open PySem PySem.Spec PyProof.Rows L2
local macro_rules | `(tactic| walk_at "vc") => `(tactic| simp only [tSeq, tAsg, gName, tCB, tCons, tNil, tVar, tC, tOp, tUn, rI0, rI, rU, tTup, tLst, tIfS, tTest, tB, tRet, tNext, rGcd, L2.start, List.map, List.set, List.replicate, List.cons_append, List.nil_append, List.length_cons, List.length_nil, List.getElem?_cons_succ, List.getElem?_cons_zero, Option.some.injEq, exists_eq_left', exists_eq_left, List.append_nil, List.cons.injEq, V.int.injEq, exists_and_left, and_true, true_and, and_assoc, exists_const, V.bl.injEq, V.ref.injEq, Nat.sub_self, Nat.reduceAdd, Nat.reduceSub, List.replicate_succ, List.replicate_zero, tAnd, tOr, tNot, tAndV, tOrV, tNotV, tIf, tCall, tCallK, tDrop, rEq, rNe, decide_eq_true_eq, Bool.not_eq_true', decide_eq_false_iff_not, Bool.false_eq_true, if_true, if_false, reduceIte, reduceCtorEq, tMkLow, tRaiseLow, rIsB, rNotB, tBreak, tPar, gSub, rSetL, tChain, gTup, gCons, gNil, gSeq, cx_K, cx_Kn, optV, V.str.injEq, Bool.not_true, Bool.not_false, false_and, and_false, or_false, false_or, exists_false, tCallN, tCallS, tPairs])
/-! ### a text cut at its strokes -/
theorem spl_ne (S : List Nat) : ∀ (l : List Nat) (k : Nat) (acc : List Nat), TL.spl S k acc l ≠ []
  | [], k, acc => by cases k <;> simp [TL.spl]
  | c :: r, 0, acc => by
    unfold TL.spl
    split
    · simp
    · exact spl_ne S r 0 _
  | c :: r, k + 1, acc => by
    unfold TL.spl
    exact spl_ne S r k acc
theorem stroke_tl : TL.tl "/" = [47] := by decide +kernel
theorem stroke_eq : ("/" : Str) = ⟨#[47]⟩ := by decide +kernel
theorem split_ne (x : Str) : Txt.split x "/" ≠ [] := fun z => by
  have e := TL.split_spl x "/" (by rw [stroke_tl]; simp) (TL.kind_ok (by decide +kernel))
  rw [z] at e
  exact spl_ne _ _ _ _ e.symm
theorem split_strokes (x : Str) : ∀ p ∈ Txt.split x "/", 47 ∉ TL.tl p := by
  rw [stroke_eq]
  exact PySem.StrLaws.split_free x 47
/-- the first part of a cut text, and what stands behind the first stroke -/
theorem cut_first (b : Str) : (Txt.split b "/" = [b] ∧ Txt.partition b "/" = (b, Str.empty, Str.empty)) ∨ ∃ w v r, Txt.split b "/" = w :: v :: r ∧ Txt.partition b "/" = (w, ("/" : Str), Str.join "/" (v :: r)) := by
  have hj := PySem.StrLaws.join_split b "/"
  have hf := split_strokes b
  have hn := split_ne b
  generalize hw : Txt.split b "/" = ws at *
  match ws, hj, hf, hn with
  | [], _, _, hn => exact absurd rfl hn
  | [w], hj, hf, _ =>
    have e : w = b := hj
    subst e
    exact .inl ⟨rfl, TL.partition_none stroke_tl (hf w (List.mem_cons_self))⟩
  | w :: v :: r, hj, hf, _ =>
    refine .inr ⟨w, v, r, rfl, ?_⟩
    have e : w ++ "/" ++ Str.join "/" (v :: r) = b := hj
    rw [← e]
    exact TL.partition_app stroke_tl (hf w (List.mem_cons_self))
theorem count_no_stroke {x : Str} (h : 47 ∈ TL.tl x) : isCount x = false := by
  cases e : isCount x with
  | false => rfl
  | true =>
    have := (count_digits e).1 47 h
    omega
theorem join_stroke (v u : Str) (r : List Str) : 47 ∈ TL.tl (Str.join "/" (v :: u :: r)) := by
  have e : Str.join "/" (v :: u :: r) = v ++ "/" ++ Str.join "/" (u :: r) := rfl
  rw [e, TL.tl_append, TL.tl_append, stroke_tl]
  simp
/-- what the parts of a text tell -/
def told (neg : Bool) (ws : List Str) : Option (Int × Int) := match ws with
  | [w] => if isCount w = false ∨ (neg = true ∧ w = "0") then none else some (if neg = true then -valOf w else valOf w, 1)
  | [w, v] => if isCount w = false ∨ isCount v = false ∨ valOf v < 2 ∨ Nat.gcd (valOf w).natAbs (valOf v).natAbs ≠ 1 then none else some (if neg = true then -valOf w else valOf w, valOf v)
  | _ => none
theorem val_zero : valOf "0" = 0 := by decide +kernel
theorem parsed_told (x : Str) : parsed x = told (negOf x) (Txt.split (Txt.removeprefix x "-") "/") := by
  unfold parsed topOf cutOf
  generalize negOf x = neg
  generalize Txt.removeprefix x "-" = b
  rcases cut_first b with ⟨e1, e2⟩ | ⟨w, v, r, e1, e2⟩
  · rw [e1, e2]
    unfold told
    simp only
    split
    · rfl
    · rw [if_pos (show Str.empty = ("" : Str) by decide +kernel)]
  · rw [e1, e2]
    have hs : ¬ (("/" : Str) = "") := by decide +kernel
    cases r with
    | nil =>
      have ej : Str.join "/" [v] = v := rfl
      rw [ej]
      simp only [if_neg hs]
      have ea : (if neg = true then -valOf w else valOf w).natAbs = (valOf w).natAbs := by
        split
        · exact Int.natAbs_neg _
        · rfl
      rw [ea]
      unfold told
      simp only
      by_cases h1 : isCount w = false
      · rw [if_pos (.inl h1), if_pos (.inl h1)]
      · by_cases h2 : neg = true ∧ w = "0"
        · rw [if_pos (.inr h2)]
          refine (if_pos ?_).symm
          by_cases h3 : isCount v = false
          · exact .inr (.inl h3)
          · by_cases h4 : valOf v < 2
            · exact .inr (.inr (.inl h4))
            · refine .inr (.inr (.inr ?_))
              rw [h2.2, val_zero, Int.natAbs_zero, Nat.gcd_zero_left]
              omega
        · rw [if_neg (by rintro (z | z); exact h1 z; exact h2 z)]
          by_cases h3 : isCount v = false ∨ valOf v < 2 ∨ (valOf w).natAbs.gcd (valOf v).natAbs ≠ 1
          · rw [if_pos h3, if_pos (.inr h3)]
          · rw [if_neg h3]
            refine (if_neg ?_).symm
            rintro (z | z)
            · exact h1 z
            · exact h3 z
    | cons u r =>
      have ec := count_no_stroke (join_stroke v u r)
      simp only [if_neg hs]
      rw [if_pos (Or.inl ec)]
      unfold told
      simp
end Odd
namespace Odd
open PySem PySem.Spec PyProof.Rows L2
local macro_rules | `(tactic| walk_at "vc") => `(tactic| simp only [tSeq, tAsg, gName, tCB, tCons, tNil, tVar, tC, tOp, tUn, rI0, rI, rU, tTup, tLst, tIfS, tTest, tB, tRet, tNext, rGcd, L2.start, List.map, List.set, List.replicate, List.cons_append, List.nil_append, List.length_cons, List.length_nil, List.getElem?_cons_succ, List.getElem?_cons_zero, Option.some.injEq, exists_eq_left', exists_eq_left, List.append_nil, List.cons.injEq, V.int.injEq, exists_and_left, and_true, true_and, and_assoc, exists_const, V.bl.injEq, V.ref.injEq, Nat.sub_self, Nat.reduceAdd, Nat.reduceSub, List.replicate_succ, List.replicate_zero, tAnd, tOr, tNot, tAndV, tOrV, tNotV, tIf, tCall, tCallK, tDrop, rEq, rNe, decide_eq_true_eq, Bool.not_eq_true', decide_eq_false_iff_not, Bool.false_eq_true, if_true, if_false, reduceIte, reduceCtorEq, tMkLow, tRaiseLow, rIsB, rNotB, tBreak, tPar, gSub, rSetL, tChain, gTup, gCons, gNil, gSeq, cx_K, cx_Kn, optV, V.str.injEq, Bool.not_true, Bool.not_false, false_and, and_false, or_false, false_or, exists_false, tCallN, tCallS, tPairs])
theorem dash_tl : TL.tl "-" = [45] := by decide +kernel
theorem neg_iff (x : Str) : negOf x = true ↔ ∃ r, TL.tl x = 45 :: r := by
  have h := TL.at_iff (x := x) (y := "-") (by rw [dash_tl]; simp) 0
  rw [dash_tl, List.drop_zero] at h
  have e : negOf x = true ↔ StrLaws.At x "-" x.length 0 := by
    unfold negOf Txt.startswith StrLaws.At
    rw [Bool.and_eq_true, decide_eq_true_eq]
  rw [e, h]
  cases hx : TL.tl x with
  | nil => simp [TL.pre]
  | cons c r =>
    constructor
    · intro z
      have : c = 45 := by simpa [TL.pre] using z
      exact ⟨r, by rw [this]⟩
    · rintro ⟨r', z⟩
      cases z
      simp [TL.pre]
/-- a text with a dash at its front, and one without -/
theorem neg_cases (x : Str) : (∃ r, negOf x = true ∧ x = SX.S (45 :: r) ∧ Txt.removeprefix x "-" = SX.S r) ∨ (negOf x = false ∧ (∀ r, x ≠ SX.S (45 :: r)) ∧ Txt.removeprefix x "-" = x) := by
  have hr := PySem.StrLaws.removeprefix_eq x "-"
  have hc : (decide (0 + ("-" : Str).length ≤ x.length) && Builtin.Str.subAt x "-" 0) = negOf x := rfl
  rw [hc] at hr
  cases hn : negOf x with
  | true =>
    obtain ⟨r, e⟩ := (neg_iff x).mp hn
    have ex : x = SX.S (45 :: r) := by rw [← SX.S_tl x]; exact congrArg SX.S e
    refine .inl ⟨r, rfl, ex, ?_⟩
    rw [hr, hn, if_pos rfl]
    subst ex
    refine TL.ext_tl ?_
    show List.take ((SX.S (45 :: r)).length - 1) r = r
    rw [SX.S_len, List.length_cons, Nat.add_sub_cancel, List.take_length]
  | false =>
    refine .inr ⟨rfl, fun r z => ?_, ?_⟩
    · have := (neg_iff x).mpr ⟨r, by rw [z]⟩
      rw [hn] at this
      cases this
    · rw [hr, hn]
      rfl
theorem join_part (y z : Str) : ∀ ws : List Str, z ∈ ws → z.length ≤ (Str.join y ws).length
  | [w], h => by
    obtain rfl := List.mem_singleton.mp h
    exact Nat.le_refl _
  | w :: v :: r, h => by
    have e : Str.join y (w :: v :: r) = w ++ y ++ Str.join y (v :: r) := rfl
    rw [e, strLen_append, strLen_append]
    rcases List.mem_cons.mp h with rfl | h
    · omega
    · have := join_part y z (v :: r) h
      omega
theorem fold_lt : ∀ (l : List Nat) (a n : Nat), (∀ c ∈ l, 48 ≤ c ∧ c ≤ 57) → a < 10 ^ n → l.foldl (fun acc c => acc * 10 + (c - 48)) a < 10 ^ (n + l.length)
  | [], a, n, _, h => h
  | c :: l, a, n, hl, h => by
    have hc := hl c List.mem_cons_self
    have := fold_lt l (a * 10 + (c - 48)) (n + 1) (fun z hz => hl z (List.mem_cons_of_mem _ hz)) (by rw [Nat.pow_succ]; omega)
    rw [List.foldl_cons, List.length_cons]
    rwa [show n + (l.length + 1) = n + 1 + l.length by omega]
theorem val_lt {x : Str} (h : isCount x = true) : (valOf x).natAbs < 10 ^ 60 := by
  obtain ⟨h1, h2, h3⟩ := count_digits h
  have := fold_lt x.cps.toList 0 0 h1 (by decide)
  rw [Nat.zero_add] at this
  have hl : x.cps.toList.length ≤ 60 := by rw [← TL.len_tl x]; exact h3
  exact Nat.lt_of_lt_of_le this (Nat.pow_le_pow_right (by decide) hl)
theorem join_count (y : Str) (h : y.length = 1) : ∀ ws : List Str, ws.length ≤ (Str.join y ws).length + 1
  | [] => Nat.zero_le _
  | [w] => Nat.le_add_left _ _
  | w :: v :: r => by
    have e : Str.join y (w :: v :: r) = w ++ y ++ Str.join y (v :: r) := rfl
    have := join_count y h (v :: r)
    rw [e, strLen_append, strLen_append]
    simp only [List.length_cons] at this ⊢
    omega
theorem told_bad {neg : Bool} {ws : List Str} {z : Str} (h : z ∈ ws) (e : isCount z = false) : told neg ws = none := by
  unfold told
  match ws, h with
  | [w], h =>
    obtain rfl := List.mem_singleton.mp h
    exact if_pos (.inl e)
  | [w, v], h =>
    refine if_pos ?_
    simp only [List.mem_cons, List.not_mem_nil, or_false] at h
    rcases h with rfl | rfl
    · exact .inl e
    · exact .inr (.inl e)
  | _ :: _ :: _ :: _, _ => rfl
def isD (c : Nat) : Bool := decide (48 ≤ c ∧ c ≤ 57)
theorem digs_tl : TL.tl "0123456789" = [48, 49, 50, 51, 52, 53, 54, 55, 56, 57] := by decide +kernel
theorem in_digs (c : Nat) : (!(Builtin.Str.occurrences "0123456789" ⟨#[c]⟩ 0 ("0123456789" : Str).length 1).isEmpty) = isD c := by
  have e : ("0123456789" : Str) = SX.S [48, 49, 50, 51, 52, 53, 54, 55, 56, 57] := by decide +kernel
  have h := SX.in_one [48, 49, 50, 51, 52, 53, 54, 55, 56, 57] c
  rw [e]
  refine h.trans ?_
  unfold isD
  rw [decide_eq_decide]
  simp only [List.mem_cons, List.not_mem_nil, or_false]
  omega
theorem starts_iff (x : Str) : Txt.startswith x "0" = true ↔ ∃ r, TL.tl x = 48 :: r := by
  have zt : TL.tl "0" = [48] := by decide +kernel
  have h := TL.at_iff (x := x) (y := "0") (by rw [zt]; simp) 0
  rw [zt, List.drop_zero] at h
  have e : Txt.startswith x "0" = true ↔ StrLaws.At x "0" x.length 0 := by
    unfold Txt.startswith StrLaws.At
    rw [Bool.and_eq_true, decide_eq_true_eq]
  rw [e, h]
  cases hx : TL.tl x with
  | nil => simp [TL.pre]
  | cons c r =>
    constructor
    · intro z
      have : c = 48 := by simpa [TL.pre] using z
      exact ⟨r, by rw [this]⟩
    · rintro ⟨r', z⟩
      cases z
      simp [TL.pre]
theorem dig_is : ∀ c < 58, 48 ≤ c → Unicode.isDigit c = true := by decide +kernel
/-- what a count is, by its signs -/
theorem count_iff (x : Str) : isCount x = true ↔ x ≠ "" ∧ x.length ≤ 60 ∧ (∀ c ∈ TL.tl x, isD c = true) ∧ (x = "0" ∨ ∀ r, TL.tl x ≠ 48 :: r) := by
  have hs := starts_iff x
  have hl : x.length = (TL.tl x).length := TL.len_tl x
  constructor
  · intro h
    obtain ⟨h1, h2, h3⟩ := count_digits h
    refine ⟨fun z => h2 (by rw [z]; rfl), h3, fun c hc => decide_eq_true (h1 c hc), ?_⟩
    simp only [isCount, Bool.and_eq_true, Bool.or_eq_true, decide_eq_true_eq, Bool.not_eq_true'] at h
    rcases h.2 with z | z
    · exact .inl z
    · refine .inr fun r e => ?_
      rw [hs.mpr ⟨r, e⟩] at z
      cases z
  · rintro ⟨h1, h2, h3, h4⟩
    have hd : ∀ c ∈ x.cps.toList, 48 ≤ c ∧ c ≤ 57 := fun c hc => of_decide_eq_true (h3 c hc)
    have hp : x.length > 0 := by
      rw [hl]
      refine List.length_pos_iff.mpr fun z => h1 (TL.ext_tl (by rw [z]; rfl))
    have a1 : Txt.isascii x = true := by
      simp only [Txt.isascii, ← Array.all_toList, List.all_eq_true, decide_eq_true_eq]
      exact fun c hc => by have := hd c hc; omega
    have a2 : Txt.isdigit x = true := by
      simp only [Txt.isdigit, ← Array.all_toList, List.all_eq_true, Bool.and_eq_true, decide_eq_true_eq]
      exact ⟨hp, fun c hc => dig_is c (by have := hd c hc; omega) (hd c hc).1⟩
    unfold isCount
    rw [a1, a2, decide_eq_true h2]
    rcases h4 with z | z
    · rw [decide_eq_true z]; rfl
    · have : Txt.startswith x "0" = false := by
        cases e : Txt.startswith x "0" with
        | false => rfl
        | true =>
          obtain ⟨r, e'⟩ := hs.mp e
          exact absurd e' (z r)
      rw [this]
      simp
section
variable {P : Program} {w : World} {K : PySem.W.Frag} {mg : Str → Option Value} {base : Heap} {A : Ads}
def spLRead (K : PySem.W.Frag) : Sp := fun vs H Q _ => ∃ x : Str, vs = [.str x] ∧ x.length ≤ 1000000 ∧ RetO K H (parsed x) Q
theorem ok__law_read (T : Txt K mg A) : FnOk P w K mg base CX0 2 A.f__law_read A.d__law_read ["text"] (spLRead K) := by
  refine T._law_read.F.ok sc__law_read (fun vs H Q E h => ?_) (fun cdv A' outer s H vs Q E hr h => ?_)
  · obtain ⟨_, rfl, _⟩ := h; rfl
  · obtain ⟨x, rfl, hz, q⟩ := h
    refine ⟨_, (pss_cons (ps_set (i := 1) sc__law_read.nd rfl (.inl rfl) (pe_ifExp (pt_cmpR op_eq (pe_slice C8.sl_txt (pv 0) po_none (po_some pe_int)) pe_str (nomark _)) (pe_slice C8.sl_txt (pv 0) (po_some pe_int) po_none) (pv 0)))
      (pss_cons (ps_set (i := 2) sc__law_read.nd rfl (.inl rfl) (pe_lst pa_nil))
      (pss_cons (ps_for PassesOwn.never rfl (pi_list (pe_splitAny (pv 1) pe_str)) (pg_name (i := 3) sc__law_read.nd rfl (.inl rfl)) (pss_cons (ps_if (PW.pt (pw_or (pt_cmpR op_eq (pv 3) pe_str (nomark _)) (pw_or (pt_cmpR op_gt (pe_callB call_len_str (by rfl) T.n_len bt_len (pa_cons (pv 3) pa_nil)) pe_int (nomark _)) (pw_or (pt_cmpR op_lt (pe_callB call_len_seq (by rfl) T.n_len bt_len (pa_cons (pe_lc (own := [("sign", 5)]) (g := gName 5) rfl sc__law_read.nd (pi_str (pv 3)) (blkOk_by (N := ["text", "body", "values", "part", "top", "sign"]) (sc := defScope s__law_read) (by decide +kernel)) (fun _ _ _ _ _ => pg_name (i := 5) sc__law_read.nd rfl (Or.inl rfl)) (fun _ _ _ _ _ => (pts_one (pt_cmpR op_in_str (pv 5) pe_str (by with_unfolding_all rfl)))) (fun _ _ _ _ _ => (pv 5))) pa_nil)) (pe_callB call_len_str (by rfl) T.n_len bt_len (pa_cons (pv 3) pa_nil)) (nomark _)) (pw_or1 (PW.pt (pw_and (pt_cmpR op_eq (pe_ix ix_str (pv 3) pe_int (fun _ _ => rfl)) pe_str (nomark _)) (pw_and1 (pt_cmpR op_ne (pv 3) pe_str (nomark _)))))))))) (pss_one (ps_ret pe_non)) pss_nil)
      (pss_one (ps_expr (pe_bm F.plainAttrs_list F.slot_list_append F.type_list_append mt_append (pv 2) (pa_cons (pe_callTy call_int_str (by rfl) T.n_int bt_int (pa_cons (pv 3) pa_nil)) pa_nil))))))
      (pss_cons (ps_if (PW.pt (pw_or (pt_cmpR op_gt (pe_callB call_len_seq (by rfl) T.n_len bt_len (pa_cons (pv 2) pa_nil)) pe_int (nomark _)) (pw_or1 (pt_cmpR op_eq (pv 0) pe_str (nomark _))))) (pss_one (ps_ret pe_non)) pss_nil)
      (pss_cons (ps_set (i := 4) sc__law_read.nd rfl (.inl rfl) (pe_ifExp (pt_cmpR op_ne (pv 1) (pv 0) (nomark _)) (pe_un un_neg (pe_ix ix_list (pv 2) pe_int (fun _ _ => rfl))) (pe_ix ix_list (pv 2) pe_int (fun _ _ => rfl))))
      (pss_cons (ps_if (pt_cmpR op_eq (pe_callB call_len_seq (by rfl) T.n_len bt_len (pa_cons (pv 2) pa_nil)) pe_int (nomark _)) (pss_one (ps_ret (pe_tup (pa_cons (pv 4) (pa_cons pe_int pa_nil))))) pss_nil)
      (pss_one (ps_ret (pe_ifExp (PW.pt (pw_and (pt_cmpR op_gt (pe_ix ix_list (pv 2) pe_int (fun _ _ => rfl)) pe_int (nomark _)) (pw_and1 (pt_cmpR op_eq (pe_call (ok__law_shared T) (hr.mono (by decide)) (by rfl) T._law_shared.g T._law_shared.F.kp T._law_shared.b .nil pass0 (pa_cons (pv 4) (pa_cons (pe_ix ix_list (pv 2) pe_int (fun _ _ => rfl)) pa_nil))) pe_int (nomark _))))) (pe_tup (pa_cons (pv 4) (pa_cons (pe_ix ix_list (pv 2) pe_int (fun _ _ => rfl)) pa_nil))) pe_non))))))))), ?_⟩
    refine seq_by fun N hN => ?_
    walk_at "vc"
    have big : ∀ {n : Nat}, n ≤ 1000000 → n ≤ sizeLine := fun h => Nat.le_trans h (by decide)
    have dash : SX.S [45] = ("-" : Str) := by decide +kernel
    refine ⟨_, rfl, 1, rfl, x, rfl, big hz, rfl, ?_⟩
    have rest : ∀ b : Str, b = Txt.removeprefix x "-" → (negOf x = true ↔ ¬ b = x) → b.length ≤ 1000000 → N [some (.str x), some (.str b), none, none, none, none] H := by
      intro b eb hne hbz
      have hq : parsed x = told (negOf x) (Txt.split b "/") := by rw [parsed_told, eb]
      rw [hq] at q
      have hj := PySem.StrLaws.join_split b "/"
      have hne' := split_ne b
      subst hN
      refine seq_by fun N hN => ?_
      walk_at "vc"
      refine ⟨by decide, fun D hD => ?_⟩
      have sD := same_upd (o := .lst []) hD
      have eD : upd H D (.lst []) D = some (.lst []) := upd_same
      generalize upd H D (.lst []) = H1 at *
      subst hN
      refine seq_by fun N hN => ?_
      refine ⟨_, rfl, ⟨b, rfl⟩, .inl ⟨b, "/", rfl, rfl, by decide, Nat.le_trans (by omega : _ ≤ 1000002) (by decide), fun p hp => ⟨p, rfl, ⟨_, sl_of upd_same⟩, ?_⟩⟩⟩
      generalize hw : Txt.split b "/" = ws at *
      have sp := same_upd (o := .lst (ws.map V.str)) hp
      have ep : upd H1 p (.lst (ws.map V.str)) p = some (.lst (ws.map V.str)) := upd_same
      have npD : p ≠ D := (ne_of_none eD hp).symm
      have eD2 := sp _ _ eD
      generalize upd H1 p (.lst (ws.map V.str)) = H2 at *
      refine for_list (xs := ws.map V.str) (fun i σ H' => ∃ pt, σ = [some (.str x), some (.str b), some (.ref D), pt, none, none] ∧ (∀ c o, c ≠ D → H2 c = some o → H' c = some o) ∧ H' D = some (.lst ((ws.take i).map fun z => .int (valOf z))) ∧ ∀ z ∈ ws.take i, isCount z = true) ⟨none, rfl, fun _ _ _ e => e, eD2, fun z hz => absurd hz (by simp)⟩ (fun i σ H' _ h => by obtain ⟨_, _, h, _⟩ := h; exact sl_of (h _ _ npD ep)) ?_ ?_
      · rintro i v σ H3 hv ⟨pt, rfl, h3, e3, c3⟩
        rw [List.getElem?_map] at hv
        cases hwi : ws[i]? with
        | none => rw [hwi] at hv; cases hv
        | some wd =>
          rw [hwi] at hv
          obtain rfl := Option.some.inj hv
          have hin : wd ∈ ws := List.mem_of_getElem? hwi
          -- what stood before stands, but for D
          have back : ∀ {H4 : Hp}, Same H3 H4 → ∀ c o, c ≠ D → H2 c = some o → H4 c = some o := fun s c o n e => s _ _ (h3 c o n e)
          have off : ∀ {H4 : Hp}, Same H3 H4 → isCount wd = false → Q .non H4 := by
            intro H4 s4 e
            rw [told_bad hin e] at q
            refine q H4 fun c o ec => back s4 c o ?_ (sp _ _ (sD _ _ ec))
            rintro rfl
            rw [hD] at ec
            cases ec
          refine seq_by fun M hM => ?_
          walk_at "vc"
          have hci := count_iff wd
          have no : ∀ {P : Prop}, (isCount wd = true → ¬ P) → P → isCount wd = false := fun h p => by
            cases e : isCount wd with
            | false => rfl
            | true => exact absurd p (h e)
          have s33 : Same H3 H3 := fun _ _ e => e
          refine ⟨rfl, ?_⟩
          split
          · rename_i h1
            exact off s33 (no (fun e => (hci.mp e).1) h1)
          rename_i n1
          have hwz : wd.length ≤ sizeLine := big (by have := join_part "/" wd ws hin; rw [hj] at this; omega)
          refine ⟨hwz, ?_⟩
          split
          · rename_i h1
            exact off s33 (no (fun e z => by have := (hci.mp e).2.1; omega) h1)
          rename_i n2
          have hl60 : wd.length ≤ 60 := by omega
          refine ⟨_, rfl, wd, rfl, fun E hE => ?_⟩
          have hlen : wd.cps.size = (TL.tl wd).length := TL.len_tl wd
          refine lc_it walk_str (fun i H4 => Same H3 H4 ∧ ∃ ys, H4 E = some (.lst ys) ∧ ys.length = ((TL.tl wd).take i).countP isD) ⟨same_upd hE, [], upd_same, rfl⟩ (fun _ _ _ _ => trivial) ?_ ?_
          · rintro k v H4 H5 hk ⟨s4, ys, ey, ly⟩ ⟨rfl, c, hc, rfl⟩
            refine ⟨rfl, ?_⟩
            refine ⟨_, rfl, ⟨#[c]⟩, rfl, "0123456789", rfl, _, rfl, ?_⟩
            rw [in_digs c]
            have hc' : (TL.tl wd)[k]? = some c := by rw [← hc, Array.getElem?_toList]
            have et : ((TL.tl wd).take (k + 1)).countP isD = ((TL.tl wd).take k).countP isD + (if isD c = true then 1 else 0) := by
              rw [List.take_add_one, hc', List.countP_append]
              simp [List.countP_cons]
            have hys : ys.length ≤ 60 := by
              rw [ly]
              refine Nat.le_trans List.countP_le_length ?_
              rw [List.length_take]
              have := TL.len_tl wd
              omega
            cases ed : isD c with
            | true =>
              rw [ed, if_pos rfl] at et
              simp only [if_true]
              refine ⟨_, rfl, ys, ey, small1000 (by omega), ?_, _, upd_same, by rw [List.length_append, et, ly]; rfl⟩
              intro c' o ec
              rw [upd_ne (ne_of_none ec hE)]
              exact s4 c' o ec
            | false =>
              rw [ed, if_neg (by decide)] at et
              simp only [Bool.false_eq_true, if_false]
              exact ⟨s4, ys, ey, by rw [et, ly]; rfl⟩
          · rintro H4 ⟨s4, ys, ey, ly⟩
            rw [hlen, List.take_length] at ly
            refine ⟨E, rfl, ys, .inl (sl_of ey), hwz, ?_⟩
            have lh : (TL.tl wd).length = wd.length := hlen.symm
            have all : ∀ {c}, ys.length = wd.length → c ∈ TL.tl wd → isD c = true := by
              intro c hy hc
              rw [ly, ← lh] at hy
              exact (List.countP_eq_length.mp hy) c hc
            split
            · rename_i h1
              refine off s4 (no (fun e z => ?_) h1)
              have := List.countP_eq_length.mpr (hci.mp e).2.2.1
              omega
            rename_i n3
            have hy : ys.length = wd.length := by
              have : ys.length ≤ (TL.tl wd).length := by rw [ly]; exact List.countP_le_length
              omega
            obtain ⟨c, r, hcr⟩ : ∃ c r, TL.tl wd = c :: r := by
              cases e : TL.tl wd with
              | nil => exact absurd (TL.ext_tl (by rw [e]; rfl)) n1
              | cons c r => exact ⟨c, r, rfl⟩
            refine ⟨wd, 0, c, rfl, rfl, hwz, (by show atI (TL.tl wd) ((0 : Nat) : Int) = some c; rw [hcr]; exact atI_nat rfl), rfl, ?_⟩
            have go : (wd = "0" ∨ ∀ r, TL.tl wd ≠ 48 :: r) → M [some (.str x), some (.str b), some (.ref D), some (.str wd), none, none] H4 := by
              intro h0
              have ec : isCount wd = true := hci.mpr ⟨n1, hl60, fun c hc => all hy hc, h0⟩
              obtain ⟨i1, i2⟩ := count_int ec
              subst hM
              clear hN
              walk_at "vc"
              have e4 := s4 _ _ e3
              refine ⟨_, rfl, ?_, _, rfl, wd, rfl, _, i1, i2, D, _, _, rfl, rfl, e4, ?_, ?_, ?_, ?_⟩
              · exact .inl ⟨rfl, _, sl_of e4⟩
              · rw [List.length_map, List.length_take]
                have := join_count "/" (by decide) ws
                rw [hj] at this
                exact Nat.lt_of_le_of_lt (by omega : _ ≤ 1000001) (by decide)
              · intro c' o n e
                rw [upd_ne n]
                exact back s4 c' o n e
              · rw [upd_same, List.take_add_one, hwi, List.map_append]
                rfl
              · intro z hz
                rw [List.take_add_one, hwi] at hz
                rcases List.mem_append.mp hz with hz | hz
                · exact c3 z hz
                · obtain rfl := List.mem_singleton.mp hz
                  exact ec
            have zero : (⟨#[48]⟩ : Str) = "0" := by decide +kernel
            split
            · rename_i h0
              refine ⟨rfl, ?_⟩
              split
              · rename_i h1
                refine off s4 (no (fun e z => ?_) h1)
                rcases (hci.mp e).2.2.2 with z' | z'
                · exact z z'
                · have e0 : (⟨#[c]⟩ : Str) = "0" := by injection h0
                  rw [← zero] at e0
                  have : c = 48 := by
                    have := congrArg (fun y : Str => y.cps.toList) e0
                    simpa using this
                  exact z' r (by rw [hcr, this])
              · rename_i h1
                exact go (.inl (Classical.not_not.mp h1))
            · rename_i h0
              refine go (.inr fun r' e => h0 ?_)
              rw [hcr] at e
              have : c = 48 := by injection e
              rw [this, zero]
      · rintro σ H3 ⟨pt, rfl, h3, e3, c3⟩
        show N _ _
        rw [List.length_map, List.take_length] at e3 c3
        have s3 : Same H H3 := fun c o ec => h3 c o (by rintro rfl; rw [hD] at ec; cases ec) (sp _ _ (sD _ _ ec))
        subst hN
        refine seq_by fun N hN => ?_
        walk_at "vc"
        have bad : told (negOf x) ws = none → Q .non H3 := fun e => by
          rw [e] at q
          exact q H3 s3
        refine ⟨_, .inl (sl_of e3), ?_⟩
        rw [List.length_map]
        split
        · rename_i hl
          refine bad ?_
          unfold told
          match ws, hl with
          | [], _ => rfl
          | [_], h => exact absurd h (by simp)
          | [_, _], h => exact absurd h (by simp)
          | _ :: _ :: _ :: _, _ => rfl
        rename_i hl
        refine ⟨rfl, ?_⟩
        split
        · rename_i hx
          refine bad ?_
          rw [← hq, hx]
          decide +kernel
        rename_i hx0
        obtain ⟨w0, t0, rfl, ht⟩ : ∃ w t, ws = w :: t ∧ t.length ≤ 1 := by
          match ws, hne', hl with
          | w :: t, _, hl => exact ⟨w, t, rfl, by simp only [List.length_cons] at hl; omega⟩
        have cw : isCount w0 = true := c3 w0 List.mem_cons_self
        subst hN
        refine seq_by fun N hN => ?_
        walk_at "vc"
        have rest : N [some (.str x), some (.str b), some (.ref D), pt, some (.int (if negOf x = true then -valOf w0 else valOf w0)), none] H3 := by
          generalize htop : (if negOf x = true then -valOf w0 else valOf w0) = top
          subst hN
          refine seq_by fun N hN => ?_
          walk_at "vc"
          refine ⟨_, .inl (sl_of e3), rfl, ?_⟩
          match t0, ht with
          | [], _ =>
            have eb' : w0 = b := hj
            have hno : ¬ (isCount w0 = false ∨ (negOf x = true ∧ w0 = "0")) := by
              rintro (z | ⟨z1, z2⟩)
              · rw [cw] at z; cases z
              · rcases neg_cases x with ⟨r, _, ex, er⟩ | ⟨hn, _⟩
                · have e0 : SX.S r = SX.S [48] := by
                    rw [← er, ← eb, ← eb', z2]
                    decide +kernel
                  have := SX.S_inj e0
                  subst this
                  refine hx0 (ex.trans ?_)
                  decide +kernel
                · rw [hn] at z1; cases z1
            have et : told (negOf x) [w0] = some (top, 1) := by
              show (if isCount w0 = false ∨ (negOf x = true ∧ w0 = "0") then none else some (if negOf x = true then -valOf w0 else valOf w0, 1)) = some (top, (1 : Int))
              rw [if_neg hno, htop]
            rw [et] at q
            rw [if_pos (by simp)]
            exact ⟨by decide, fun r hr => q _ r (s3.trans (same_upd hr)) (st_of upd_same)⟩
          | [v0], _ =>
            have cv : isCount v0 = true := c3 v0 (List.mem_cons_of_mem _ List.mem_cons_self)
            rw [if_neg (by simp)]
            subst hN
            walk_at "vc"
            have a1 : atI ([w0, v0].map fun z => V.int (valOf z)) 1 = some (.int (valOf v0)) := by
              show atI _ ((1 : Nat) : Int) = _
              exact atI_nat rfl
            have et : told (negOf x) [w0, v0] = if isCount w0 = false ∨ isCount v0 = false ∨ valOf v0 < 2 ∨ Nat.gcd (valOf w0).natAbs (valOf v0).natAbs ≠ 1 then none else some (top, valOf v0) := by
              show (if isCount w0 = false ∨ isCount v0 = false ∨ valOf v0 < 2 ∨ Nat.gcd (valOf w0).natAbs (valOf v0).natAbs ≠ 1 then none else some (if negOf x = true then -valOf w0 else valOf w0, valOf v0)) = _
              rw [htop]
            have ea : top.natAbs = (valOf w0).natAbs := by
              rw [← htop]
              split
              · exact Int.natAbs_neg _
              · rfl
            refine ixL (sl_of e3) a1 ⟨_, rfl, ?_⟩
            split
            · rename_i h1
              refine ixL (sl_of e3) a1 ⟨top, valOf v0, rfl, val_lt cv, rfl, ?_⟩
              rw [ea]
              split
              · rename_i hg
                have hg' : Nat.gcd (valOf w0).natAbs (valOf v0).natAbs = 1 := by
                  have : ((Nat.gcd (valOf w0).natAbs (valOf v0).natAbs : Nat) : Int) = 1 := by injection hg
                  omega
                have hno : ¬ (isCount w0 = false ∨ isCount v0 = false ∨ valOf v0 < 2 ∨ Nat.gcd (valOf w0).natAbs (valOf v0).natAbs ≠ 1) := by
                  rintro (z | z | z | z)
                  · rw [cw] at z; cases z
                  · rw [cv] at z; cases z
                  · omega
                  · exact z hg'
                rw [et, if_neg hno] at q
                exact ixL (sl_of e3) a1 ⟨by decide, fun r hr => q _ r (s3.trans (same_upd hr)) (st_of upd_same)⟩
              · rename_i hg
                refine bad (et.trans (if_pos (.inr (.inr (.inr fun z => hg (by rw [z]; rfl))))))
            · rename_i h1
              exact bad (et.trans (if_pos (.inr (.inr (.inl (by omega))))))
        have a0 : atI ((w0 :: t0).map fun z => V.int (valOf z)) 0 = some (.int (valOf w0)) := by
          show atI _ ((0 : Nat) : Int) = _
          exact atI_nat rfl
        refine ⟨rfl, ?_⟩
        split
        · rename_i hbx
          rw [if_pos (hne.mpr hbx)] at rest
          exact ixL (sl_of e3) a0 ⟨_, rfl, rest⟩
        · rename_i hbx
          rw [if_neg (fun z => hbx (hne.mp z))] at rest
          exact ixL (sl_of e3) a0 rest
    rcases neg_cases x with ⟨r, hn, ex, er⟩ | ⟨hn, hx, er⟩
    · have e1 : Txt.slice x none (some 1) = "-" := by rw [ex, SX.slice_to (by decide), ← dash]; rfl
      have e2 : Txt.slice x (some 1) none = SX.S r := by rw [ex, SX.slice_from (by decide)]; rfl
      rw [e1, if_pos rfl]
      refine ⟨_, rfl, 1, rfl, x, rfl, big hz, ?_⟩
      rw [e2]
      have hl : r.length + 1 = x.length := by rw [ex, SX.S_len]; rfl
      refine rest _ er.symm ⟨fun _ z => ?_, fun _ => hn⟩ (by rw [SX.S_len]; omega)
      have := congrArg Str.length z
      rw [SX.S_len] at this
      omega
    · have e1 : ¬ Txt.slice x none (some 1) = "-" := by
        intro z
        rw [← SX.S_tl x, SX.slice_to (by decide), ← dash] at z
        have z' := SX.S_inj z
        cases hl : x.cps.toList with
        | nil => rw [hl] at z'; cases z'
        | cons c l =>
          rw [hl] at z'
          have : c = 45 := by simpa using z'
          exact hx l (by rw [← SX.S_tl x, hl, this])
      rw [if_neg (fun z => e1 (by injection z))]
      refine rest _ er.symm ⟨fun z => ?_, fun z => absurd rfl z⟩ hz
      rw [hn] at z; cases z
end
end Odd
namespace Odd
open PySem PySem.Spec PyProof.Rows L2
local macro_rules | `(tactic| walk_at "vc") => `(tactic| simp only [tSeq, tAsg, gName, tCB, tCons, tNil, tVar, tC, tOp, tUn, rI0, rI, rU, tTup, tLst, tIfS, tTest, tB, tRet, tNext, rGcd, L2.start, List.map, List.set, List.replicate, List.cons_append, List.nil_append, List.length_cons, List.length_nil, List.getElem?_cons_succ, List.getElem?_cons_zero, Option.some.injEq, exists_eq_left', exists_eq_left, List.append_nil, List.cons.injEq, V.int.injEq, exists_and_left, and_true, true_and, and_assoc, exists_const, V.bl.injEq, V.ref.injEq, Nat.sub_self, Nat.reduceAdd, Nat.reduceSub, List.replicate_succ, List.replicate_zero, tAnd, tOr, tNot, tAndV, tOrV, tNotV, tIf, tCall, tCallK, tDrop, rEq, rNe, decide_eq_true_eq, Bool.not_eq_true', decide_eq_false_iff_not, Bool.false_eq_true, if_true, if_false, reduceIte, reduceCtorEq, tMkLow, tRaiseLow, rIsB, rNotB, tBreak, tPar, gSub, rSetL, tChain, gTup, gCons, gNil, gSeq, cx_K, cx_Kn, optV, V.str.injEq, Bool.not_true, Bool.not_false, false_and, and_false, or_false, false_or, exists_false, tCallN, tCallS, tPairs])
section
variable {P : Program} {w : World} {K : PySem.W.Frag} {mg : Str → Option Value} {base : Heap} {A : Ads}
theorem but_app {H : Hp} {D : Addr} {ys zs : List V} (h : H D = some (.lst ys)) : But D H (upd H D (.lst (ys ++ zs))) :=
  ⟨fun b nb o e => by rw [upd_ne nb]; exact e, fun c' y e => by rw [h] at e; cases e; exact ⟨y ++ zs, upd_same⟩⟩
theorem OV.grow {D : Addr} {H : Hp} {ys zs : List V} {o : Option (Int × Int)} {v : V} (e : H D = some (.lst ys)) (h : OV K H o v) : OV K (upd H D (.lst (ys ++ zs))) o v := by
  cases o with
  | none => exact h
  | some p => exact Pr.but (but_app e) e h
def dO (o : Option (Int × Int)) : PyData := match o with
  | none => .none
  | some q => .tuple [.int q.1, .int q.2]
theorem dp_ov {H : Hp} {o : Option (Int × Int)} {v : V} (h : OV K H o v) : Dp K H v (dO o) := by
  cases o with
  | none =>
    obtain rfl : v = .non := h
    exact .non
  | some q =>
    obtain ⟨p, rfl, h⟩ := h
    exact .tup h (.cons (.int _) (.cons (.int _) .nil))
abbrev OVs (K : PySem.W.Frag) (H : Hp) : List V → List Str → Prop := Paired fun v z => OV K H (parsed z) v
theorem OVs.same {H H' : Hp} (s : Same H H') : ∀ {vs : List V} {ws : List Str}, OVs K H vs ws → OVs K H' vs ws
  | _, _, .nil => .nil
  | _, _, .cons h t => .cons (OV.same s h) (OVs.same s t)
theorem OVs.grow {D : Addr} {H : Hp} {ys zs : List V} (e : H D = some (.lst ys)) : ∀ {vs : List V} {ws : List Str}, OVs K H vs ws → OVs K (upd H D (.lst (ys ++ zs))) vs ws
  | _, _, .nil => .nil
  | _, _, .cons h t => .cons (OV.grow e h) (OVs.grow e t)
theorem OVs.snoc {H : Hp} {x : V} {z : Str} (h : OV K H (parsed z) x) : ∀ {vs : List V} {ws : List Str}, OVs K H vs ws → OVs K H (vs ++ [x]) (ws ++ [z])
  | _, _, .nil => .cons h .nil
  | _, _, .cons h' t => .cons h' (OVs.snoc h t)
theorem OVs.len {H : Hp} : ∀ {vs : List V} {ws : List Str}, OVs K H vs ws → vs.length = ws.length
  | _, _, .nil => rfl
  | _, _, .cons _ t => congrArg (· + 1) (OVs.len t)
def spLRead2 (K : PySem.W.Frag) : Sp := fun vs H Q _ => ∃ x : Str, vs = [.str x] ∧ x.length ≤ 1000000 ∧ RetO2 K H (parsed2 x) Q
theorem ok__law_read_two (T : Txt K mg A) : FnOk P w K mg base CX0 3 A.f__law_read_two A.d__law_read_two ["text"] (spLRead2 K) := by
  refine T._law_read_two.F.ok sc__law_read_two (fun vs H Q E h => ?_) (fun cdv A' outer s H vs Q E hr h => ?_)
  · obtain ⟨_, rfl, _⟩ := h; rfl
  · obtain ⟨x, rfl, hz, q⟩ := h
    have hu65 : (A'.deeper (envOfC "_law_read_two" (defScope s__law_read_two) s.heap.objs.size A.f__law_read_two cdv)).units + 65 < cLine := by
      have := hr.un
      omega
    refine ⟨_, (pss_cons (ps_setLc (i := 1) (own := [("part", 2)]) (g := gName 2) (tt := tYes) rfl sc__law_read_two.nd rfl rfl (sw_true rfl rfl rfl (by decide +kernel)) (pi_list (pe_splitAny (pv 0) pe_str)) (blkOk_by (N := ["text", "parts", "part"]) (sc := defScope s__law_read_two) (by decide +kernel)) (fun _ _ _ _ _ => pg_name (i := 2) sc__law_read_two.nd rfl (Or.inl rfl)) (fun _ _ _ _ _ => pts_nil) (fun _ _ _ _ _ => (pe_call (ok__law_read T) (hr.mono (by decide)) (by rfl) T._law_read.g T._law_read.F.kp T._law_read.b .nil pass0 (pa_cons (pv 2) pa_nil))))
      (pss_one (ps_ret (pe_ifExp (PW.pt (pw_and (pt_cmpR op_eq (pe_callB call_len_seq (by rfl) T.n_len bt_len (pa_cons (pv 1) pa_nil)) pe_int (nomark _)) (pw_and1 (pt_cmpR (op_notInD hu65) pe_non (pv 1) (by with_unfolding_all rfl))))) (pe_tup (pa_cons (pe_ix ix_list (pv 1) pe_int (fun _ _ => rfl)) (pa_cons (pe_ix ix_list (pv 1) pe_int (fun _ _ => rfl)) pa_nil))) pe_non)))), ?_⟩
    refine seq_by fun N hN => ?_
    refine ⟨_, rfl, ⟨x, rfl⟩, .inl ⟨x, ",", rfl, rfl, by decide, Nat.le_trans (by omega : _ ≤ 1000002) (by decide), fun p hp => ⟨p, rfl, ⟨_, sl_of upd_same⟩, fun D hD => ?_⟩⟩⟩
    have hj := PySem.StrLaws.join_split x ","
    generalize hw : Txt.split x "," = ws at *
    have sp := same_upd (o := .lst (ws.map V.str)) hp
    have ep : upd H p (.lst (ws.map V.str)) p = some (.lst (ws.map V.str)) := upd_same
    generalize upd H p (.lst (ws.map V.str)) = H1 at *
    have sD := same_upd (o := .lst []) hD
    refine lc_list (xs := ws.map V.str) (fun i H3 => Same H1 H3 ∧ ∃ ys, H3 D = some (.lst ys) ∧ OVs K H3 ys (ws.take i)) ⟨sD, [], upd_same, .nil⟩ (fun i H3 _ h => sl_of (h.1 _ _ ep)) ?_ ?_
    · rintro i v H3 hv ⟨s3, ys, e3, o3⟩
      refine ⟨rfl, ?_⟩
      rw [List.getElem?_map] at hv
      cases hwi : ws[i]? with
      | none => rw [hwi] at hv; cases hv
      | some wd =>
        rw [hwi] at hv
        obtain rfl := Option.some.inj hv
        have hin : wd ∈ ws := List.mem_of_getElem? hwi
        have hwl : wd.length ≤ 1000000 := by have := join_part "," wd ws hin; rw [hj] at this; omega
        simp only [tYes, if_true]
        refine ⟨_, rfl, wd, rfl, hwl, retO fun H4 v4 s4 ov => ?_⟩
        have e4 := s4 _ _ e3
        have hl : ys.length ≤ 1000001 := by
          rw [o3.len, List.length_take]
          have := join_count "," (by decide) ws
          rw [hj] at this
          omega
        refine ⟨ys, e4, Nat.lt_of_le_of_lt hl (by decide), fun c o ec => ?_, _, upd_same, ?_⟩
        · rw [upd_ne (ne_of_none ec hD)]
          exact s4 _ _ (s3 _ _ ec)
        · rw [List.take_add_one, hwi]
          exact OVs.snoc (ov.grow e4) ((o3.same s4).grow e4)
    · rintro H3 ⟨s3, ys, e3, o3⟩
      rw [List.length_map, List.take_length] at o3
      have s03 := sp.trans s3
      have bad : parsed2 x = none → Q .non H3 := fun e => by rw [e] at q; exact q H3 s03
      subst hN
      walk_at "vc"
      refine ⟨ys, .inl (sl_of e3), rfl, ?_⟩
      have hlen := o3.len
      split
      · rename_i hl
        obtain ⟨a, b, v1, v2, rfl, rfl, h1, h2⟩ : ∃ a b v1 v2, ws = [a, b] ∧ ys = [v1, v2] ∧ OV K H3 (parsed a) v1 ∧ OV K H3 (parsed b) v2 := by
          cases o3 with
          | nil => exact absurd hl (by simp)
          | cons h1 t =>
            cases t with
            | nil => exact absurd hl (by simp)
            | cons h2 t =>
              cases t with
              | nil => exact ⟨_, _, _, _, rfl, rfl, h1, h2⟩
              | cons _ _ => exact absurd hl (by simp only [List.length_cons]; omega)
        have hp2 : parsed2 x = match parsed a, parsed b with
            | some p, some q => some (p, q)
            | _, _ => none := by
          unfold parsed2
          rw [hw] <;> rfl
        have sh : SeqAt.shaped (.list [dO (parsed a), dO (parsed b)]) = true := by
          cases parsed a <;> cases parsed b <;> simp [dO, SeqAt.shaped, PyData.canLay0, PyData.canLayAll0, PyData.depth, PyData.depthAll]
        refine ⟨.none, [dO (parsed a), dO (parsed b)], .non, .lst (sl_of e3) (.cons (dp_ov h1) (.cons (dp_ov h2) .nil)), by decide +kernel, sh, _, rfl, ?_⟩
        cases ea : parsed a with
        | none =>
          rw [ea] at hp2
          rw [if_neg (by simp [dO, PyData.eqv])]
          exact bad hp2
        | some pa =>
          rw [ea] at hp2 h1
          cases eb : parsed b with
          | none =>
            rw [eb] at hp2
            rw [if_neg (by simp [dO, PyData.eqv])]
            exact bad hp2
          | some pb =>
            rw [eb] at hp2 h2
            rw [if_pos (by simp [dO, PyData.eqv])]
            rw [hp2] at q
            exact ixL (sl_of e3) rfl (ixL (sl_of e3) rfl ⟨by decide, fun r hr => q _ _ (s03.trans (same_upd hr)) (pp_new' hr h1 h2)⟩)
      · rename_i hl
        refine bad ?_
        unfold parsed2
        rw [hw]
        rw [hlen] at hl
        match ws, hl with
        | [], _ => rfl
        | [_], _ => rfl
        | [_, _], h => exact absurd rfl h
        | _ :: _ :: _ :: _, _ => rfl
end
end Odd
namespace Odd
open PySem PySem.Spec PyProof.Rows L2
local macro_rules | `(tactic| walk_at "vc") => `(tactic| simp only [tSeq, tAsg, gName, tCB, tCons, tNil, tVar, tC, tOp, tUn, rI0, rI, rU, tTup, tLst, tIfS, tTest, tB, tRet, tNext, rGcd, L2.start, List.map, List.set, List.replicate, List.cons_append, List.nil_append, List.length_cons, List.length_nil, List.getElem?_cons_succ, List.getElem?_cons_zero, Option.some.injEq, exists_eq_left', exists_eq_left, List.append_nil, List.cons.injEq, V.int.injEq, exists_and_left, and_true, true_and, and_assoc, exists_const, V.bl.injEq, V.ref.injEq, Nat.sub_self, Nat.reduceAdd, Nat.reduceSub, List.replicate_succ, List.replicate_zero, tAnd, tOr, tNot, tAndV, tOrV, tNotV, tIf, tCall, tCallK, tDrop, rEq, rNe, decide_eq_true_eq, Bool.not_eq_true', decide_eq_false_iff_not, Bool.false_eq_true, if_true, if_false, reduceIte, reduceCtorEq, tMkLow, tRaiseLow, rIsB, rNotB, tBreak, tPar, gSub, rSetL, tChain, gTup, gCons, gNil, gSeq, cx_K, cx_Kn, optV, V.str.injEq, Bool.not_true, Bool.not_false, false_and, and_false, or_false, false_or, exists_false, tCallN, tCallS, tPairs])
/-! ### there and back: the text of a number is read as it -/
theorem numL_no0 : ∀ n : Nat, n ≠ 0 → ∀ r, TL.numL n ≠ 48 :: r := by
  intro n
  induction n using Nat.strongRecOn with
  | _ n ih =>
    intro h0 r
    by_cases h : n < 10
    · rw [TL.numL_lt h]
      intro z
      injection z with z _
      omega
    · rw [TL.numL_step (by omega)]
      intro z
      cases e : TL.numL (n / 10) with
      | nil => exact TL.numL_ne _ e
      | cons c l =>
        rw [e] at z
        injection z with z _
        exact ih (n / 10) (by omega) (by omega) l (by rw [e, z])
def txN (n : Nat) : Str := SX.S (TL.numL n)
theorem tl_txN (n : Nat) : TL.tl (txN n) = TL.numL n := rfl
theorem txN_count {n : Nat} (h : n < 10 ^ 60) : isCount (txN n) = true := by
  rw [count_iff]
  refine ⟨fun z => ?_, ?_, fun c hc => ?_, ?_⟩
  · have e := congrArg TL.tl z
    rw [tl_txN] at e
    exact TL.numL_ne n (e.trans (by decide +kernel))
  · rw [TL.len_tl, tl_txN]
    exact TL.numL_len (by decide) h
  · have := TL.numL_digits n c hc
    unfold isD
    exact decide_eq_true this
  · by_cases h0 : n = 0
    · subst h0
      exact .inl (by decide +kernel)
    · exact .inr (numL_no0 n h0)
theorem txN_val (n : Nat) : valOf (txN n) = (n : Int) := by
  unfold valOf
  rw [show (txN n).cps.toList = TL.numL n from rfl, TL.numL_val]
theorem txN_long {n : Nat} (h : 10 ^ 60 ≤ n) : isCount (txN n) = false := by
  cases e : isCount (txN n) with
  | false => rfl
  | true =>
    have v := val_lt e
    rw [txN_val] at v
    omega
theorem txN_zero {n : Nat} (h : n ≠ 0) : txN n ≠ "0" := fun z => by
  have e := congrArg TL.tl z
  rw [tl_txN] at e
  exact numL_no0 n h [] (e.trans (by decide +kernel))
theorem str_nat (n : Nat) : (PySem.Str.ofString (toString (n : Int))) = txN n := SX.num_S n
theorem str_neg (n : Nat) : (PySem.Str.ofString (toString (Int.negSucc n))) = SX.S (45 :: TL.numL (n + 1)) := by
  apply TL.ext_tl
  rw [TL.tl_ofString]
  show (("-" ++ toString (n + 1)).toList.map Char.toNat) = 45 :: TL.numL (n + 1)
  rw [String.toList_append, List.map_append]
  have e := TL.tl_num (n + 1)
  rw [TL.tl_ofString] at e
  exact congrArg (45 :: ·) e
/-- the signs of an integer's text -/
def sgL (a : Int) : List Nat := if a < 0 then 45 :: TL.numL a.natAbs else TL.numL a.natAbs
theorem str_int (a : Int) : (PySem.Str.ofString (toString a)) = SX.S (sgL a) := by
  cases a with
  | ofNat n =>
    unfold sgL
    rw [if_neg (show ¬ (Int.ofNat n < 0) from Int.not_lt.mpr (Int.natCast_nonneg n))]
    exact str_nat n
  | negSucc n =>
    unfold sgL
    rw [if_pos (Int.negSucc_lt_zero n)]
    exact str_neg n
theorem cut_sign (a : Int) (t : List Nat) : negOf (SX.S (sgL a ++ t)) = decide (a < 0) ∧ Txt.removeprefix (SX.S (sgL a ++ t)) "-" = SX.S (TL.numL a.natAbs ++ t) := by
  unfold sgL
  split
  · rename_i h
    rw [decide_eq_true h]
    rcases neg_cases (SX.S (45 :: TL.numL a.natAbs ++ t)) with ⟨r, e1, e2, e3⟩ | ⟨e1, e2, e3⟩
    · have := SX.S_inj e2
      injection this with _ this
      subst this
      exact ⟨e1, e3⟩
    · exact absurd rfl (e2 _)
  · rename_i h
    rw [decide_eq_false h]
    rcases neg_cases (SX.S (TL.numL a.natAbs ++ t)) with ⟨r, e1, e2, e3⟩ | ⟨e1, e2, e3⟩
    · exfalso
      have := SX.S_inj e2
      cases e : TL.numL a.natAbs with
      | nil => exact TL.numL_ne _ e
      | cons c l =>
        rw [e] at this
        injection this with this _
        have d := TL.numL_digits a.natAbs c (by rw [e]; exact List.mem_cons_self)
        omega
    · exact ⟨e1, e3⟩
theorem S_nil (l : List Nat) : SX.S l = SX.S (l ++ []) := by rw [List.append_nil]
theorem stroke_S : ("/" : Str) = SX.S [47] := by decide +kernel
theorem comma_S : ("," : Str) = SX.S [44] := by decide +kernel
/-- the signs of a number's text -/
def nuL (q : Int × Int) : List Nat := if q.2 = 1 then sgL q.1 else sgL q.1 ++ (47 :: sgL q.2)
theorem text_S (q : Int × Int) : textOf q = SX.S (nuL q) := by
  unfold textOf nuL
  split
  · exact str_int q.1
  · show Str.empty ++ (PySem.Str.ofString (toString q.1)) ++ "/" ++ (PySem.Str.ofString (toString q.2)) = _
    rw [empty_app, str_int, str_int, stroke_S, SX.S_cat, SX.S_cat, List.append_assoc]
    rfl
theorem split_two {a b : Str} (ha : 47 ∉ TL.tl a) (hb : 47 ∉ TL.tl b) : Txt.split (a ++ "/" ++ b) "/" = [a, b] := by
  have := TL.split_join (y := "/") stroke_tl (by decide +kernel) (parts := [a, b]) (by simp) (by
    intro p hp
    simp only [List.mem_cons, List.not_mem_nil, or_false] at hp
    rcases hp with rfl | rfl
    · exact ha
    · exact hb)
  exact this
theorem split_none {a : Str} (ha : 47 ∉ TL.tl a) : Txt.split a "/" = [a] := by
  have := TL.split_join (y := "/") stroke_tl (by decide +kernel) (parts := [a]) (by simp) (by
    intro p hp
    simp only [List.mem_cons, List.not_mem_nil, or_false] at hp
    rcases hp with rfl
    exact ha)
  exact this
theorem txN_free (n : Nat) : 47 ∉ TL.tl (txN n) := TL.numL_free (by omega)
theorem sgL_pos {a : Int} (h : 0 ≤ a) : SX.S (sgL a) = txN a.natAbs := by
  unfold sgL
  rw [if_neg (by omega)]
  rfl
/-- what a number's text tells, whatever its length -/
theorem parsed_one (a : Int) : parsed (SX.S (sgL a)) = if isCount (txN a.natAbs) = true then some (a, 1) else none := by
  rw [parsed_told, S_nil, (cut_sign a []).1, (cut_sign a []).2, List.append_nil]
  show told _ (Txt.split (txN a.natAbs) "/") = _
  rw [split_none (txN_free _)]
  show (if isCount (txN a.natAbs) = false ∨ (decide (a < 0) = true ∧ txN a.natAbs = "0") then none else some (if decide (a < 0) = true then -valOf (txN a.natAbs) else valOf (txN a.natAbs), (1 : Int))) = _
  by_cases h : isCount (txN a.natAbs) = true
  · rw [if_pos h, if_neg, txN_val]
    · congr 2
      by_cases h0 : a < 0
      · rw [if_pos (decide_eq_true h0)]; omega
      · rw [if_neg (by simpa using h0)]; omega
    · rintro (z | ⟨z1, z2⟩)
      · rw [h] at z; cases z
      · have : a < 0 := by simpa using z1
        exact txN_zero (by omega) z2
  · rw [if_neg h, if_pos (.inl (by simpa using h))]
theorem parsed_frac (a u : Int) (hu : 1 < u) : parsed (SX.S (sgL a ++ (47 :: sgL u))) = if isCount (txN a.natAbs) = true ∧ isCount (txN u.natAbs) = true ∧ Nat.gcd a.natAbs u.natAbs = 1 then some (a, u) else none := by
  rw [parsed_told, (cut_sign a _).1, (cut_sign a _).2]
  have e : SX.S (TL.numL a.natAbs ++ (47 :: sgL u)) = txN a.natAbs ++ "/" ++ txN u.natAbs := by
    rw [stroke_S, ← sgL_pos (by omega : 0 ≤ u)]
    unfold txN
    rw [SX.S_cat, SX.S_cat, List.append_assoc]
    rfl
  rw [e, split_two (txN_free _) (txN_free _)]
  show (if isCount (txN a.natAbs) = false ∨ isCount (txN u.natAbs) = false ∨ valOf (txN u.natAbs) < 2 ∨ Nat.gcd (valOf (txN a.natAbs)).natAbs (valOf (txN u.natAbs)).natAbs ≠ 1 then none else some (if decide (a < 0) = true then -valOf (txN a.natAbs) else valOf (txN a.natAbs), valOf (txN u.natAbs))) = _
  rw [txN_val, txN_val, Int.natAbs_natCast, Int.natAbs_natCast]
  by_cases h : isCount (txN a.natAbs) = true ∧ isCount (txN u.natAbs) = true ∧ Nat.gcd a.natAbs u.natAbs = 1
  · rw [if_pos h, if_neg]
    · have e2 : ((u.natAbs : Nat) : Int) = u := by omega
      rw [e2]
      congr 2
      by_cases h0 : a < 0
      · rw [if_pos (decide_eq_true h0)]; omega
      · rw [if_neg (by simpa using h0)]; omega
    · rintro (z | z | z | z)
      · rw [h.1] at z; cases z
      · rw [h.2.1] at z; cases z
      · omega
      · exact z h.2.2
  · rw [if_neg h, if_pos]
    by_cases h1 : isCount (txN a.natAbs) = true
    · by_cases h2 : isCount (txN u.natAbs) = true
      · exact .inr (.inr (.inr fun z => h ⟨h1, h2, z⟩))
      · exact .inr (.inl (by simpa using h2))
    · exact .inl (by simpa using h1)
theorem parsed_back {q : Int × Int} (d : Dr q) : parsed (textOf q) = some q := by
  obtain ⟨⟨c1, c2⟩, d1, d2⟩ := d
  have p60 : (10 : Int) ^ 60 = ((10 ^ 60 : Nat) : Int) := by decide +kernel
  rw [p60] at d2
  have n1 := txN_count d1
  have n2 : isCount (txN q.2.natAbs) = true := txN_count (by omega)
  rw [text_S]
  unfold nuL
  split
  · rename_i h
    rw [parsed_one, if_pos n1, ← h]
  · rename_i h
    rw [parsed_frac _ _ (by omega), if_pos ⟨n1, n2, c2⟩]
/-- a number too great to be read -/
theorem parsed_great {t u : Int} (h : 10 ^ 60 ≤ t.natAbs) (hu : 1 < u) : parsed (textOf (t, u)) = none := by
  rw [text_S]
  unfold nuL
  rw [if_neg (by show ¬ u = 1; omega), parsed_frac _ _ hu, if_neg]
  rintro ⟨z, _⟩
  rw [txN_long h] at z
  cases z
theorem nuL_free (q : Int × Int) : 44 ∉ nuL q := by
  have f : ∀ a : Int, 44 ∉ sgL a := fun a h => by
    unfold sgL at h
    split at h
    · rcases List.mem_cons.mp h with h | h
      · omega
      · exact TL.numL_free (by omega) h
    · exact TL.numL_free (by omega) h
  intro h
  unfold nuL at h
  split at h
  · exact f _ h
  · rcases List.mem_append.mp h with h | h
    · exact f _ h
    · rcases List.mem_cons.mp h with h | h
      · omega
      · exact f _ h
theorem comma_tl : TL.tl "," = [44] := by decide +kernel
theorem commas_two {a b : Str} (ha : 44 ∉ TL.tl a) (hb : 44 ∉ TL.tl b) : Txt.split (a ++ "," ++ b) "," = [a, b] := by
  have := TL.split_join (y := ",") comma_tl (by decide +kernel) (parts := [a, b]) (by simp) (by
    intro p hp
    simp only [List.mem_cons, List.not_mem_nil, or_false] at hp
    rcases hp with rfl | rfl
    · exact ha
    · exact hb)
  exact this
theorem commas_none {a : Str} (ha : 44 ∉ TL.tl a) : Txt.split a "," = [a] := by
  have := TL.split_join (y := ",") comma_tl (by decide +kernel) (parts := [a]) (by simp) (by
    intro p hp
    simp only [List.mem_cons, List.not_mem_nil, or_false] at hp
    rcases hp with rfl
    exact ha)
  exact this
theorem text_free (q : Int × Int) : 44 ∉ TL.tl (textOf q) := by
  rw [text_S]
  exact nuL_free q
theorem parsed2_two {a b : Str} (ha : 44 ∉ TL.tl a) (hb : 44 ∉ TL.tl b) : parsed2 (a ++ "," ++ b) = match parsed a, parsed b with
    | some p, some q => some (p, q)
    | _, _ => none := by
  unfold parsed2
  rw [commas_two ha hb] <;> rfl
theorem parsed2_none {a : Str} (ha : 44 ∉ TL.tl a) : parsed2 a = none := by
  unfold parsed2
  rw [commas_none ha]
theorem parsed2_back {p : P2} (d1 : Dr p.1) (d2 : Dr p.2) : parsed2 (textOf p.1 ++ "," ++ textOf p.2) = some p := by
  rw [parsed2_two (text_free _) (text_free _), parsed_back d1, parsed_back d2]
end Odd
namespace Odd
open PySem PySem.Spec PyProof.Rows L2
local macro_rules | `(tactic| walk_at "vc") => `(tactic| simp only [tSeq, tAsg, gName, tCB, tCons, tNil, tVar, tC, tOp, tUn, rI0, rI, rU, tTup, tLst, tIfS, tTest, tB, tRet, tNext, rGcd, L2.start, List.map, List.set, List.replicate, List.cons_append, List.nil_append, List.length_cons, List.length_nil, List.getElem?_cons_succ, List.getElem?_cons_zero, Option.some.injEq, exists_eq_left', exists_eq_left, List.append_nil, List.cons.injEq, V.int.injEq, exists_and_left, and_true, true_and, and_assoc, exists_const, V.bl.injEq, V.ref.injEq, Nat.sub_self, Nat.reduceAdd, Nat.reduceSub, List.replicate_succ, List.replicate_zero, tAnd, tOr, tNot, tAndV, tOrV, tNotV, tIf, tCall, tCallK, tDrop, rEq, rNe, decide_eq_true_eq, Bool.not_eq_true', decide_eq_false_iff_not, Bool.false_eq_true, if_true, if_false, reduceIte, reduceCtorEq, tMkLow, tRaiseLow, rIsB, rNotB, tBreak, tPar, gSub, rSetL, tChain, gTup, gCons, gNil, gSeq, cx_K, cx_Kn, optV, V.str.injEq, Bool.not_true, Bool.not_false, false_and, and_false, or_false, false_or, exists_false, tCallN, tCallS, tPairs])
section
variable {P : Program} {w : World} {K : PySem.W.Frag} {mg : Str → Option Value} {base : Heap} {A : Ads}
def spPart (K : PySem.W.Frag) : Sp := fun vs H Q _ => ∃ (b : Bool) (v : V), vs = [.bl b, v] ∧ ((b = true ∧ Bad K H v) ∨ (b = false ∧ BadP K H v)) ∧ ∀ H' r, Same H H' → SqT K H' r [.bl b, .str "value"] → Q (.ref r) H'
theorem ok__law_part (T : Txt K mg A) : FnOk P w K mg base CX0 7 A.f__law_part A.d__law_part ["is_number_v", "value"] (spPart K) := by
  refine T._law_part.F.ok sc__law_part (fun vs H Q E h => ?_) (fun cdv A' outer s H vs Q E hr h => ?_)
  · obtain ⟨_, _, rfl, _⟩ := h; rfl
  · obtain ⟨b, v, rfl, h, q⟩ := h
    have hr1 : Room 6 _ := hr
    refine ⟨_, (pss_cons (ps_set (i := 2) sc__law_part.nd rfl (.inl rfl) pe_non)
      (pss_cons (oddTry2 (i := 3) (tb := fun W => tIfS (tB (tVar 0)) (tDrop (tCallS (spNText K A.c_BadNumber) (WE W) (tCons (tVar 1) tNil))) (tDrop (tCallS (spPText K A.c_BadPoint) (WE W) (tCons (tVar 1) tNil)))) (ts := fun a cls d => tAsg (tTup (tCons (tCB (rIsF K cls d a) (tCons (tVar 3) (tCons (tC (.ref A.c_BadNumber)) tNil))) (tCons (tByAny (fun C => C = A.c_BadNumber ∨ C = A.c_BadPoint) a cls d (tVar 3)) tNil))) (gName 2)) (Wout := fun _ _ _ _ => False) rfl rfl sc__law_part.nd rfl rfl takes0 (by exact ⟨rfl, by decide, Or.inl T.low_BadNumber.gC⟩) (by exact ⟨rfl, by decide, Or.inl T.low_BadPoint.gC⟩) (by exact fun W pn xe tk _ => (pss_one (ps_if (pt_val (pv 0)) (pss_one (ps_expr (by exact (pe_callS (ok_number_text T) (hr1.mono (by decide)) rfl T.number_text.g T.number_text.F.kp T.number_text.b (fun σ => passAt tk σ) (pa_cons (pv 1) pa_nil))))) (pss_one (ps_expr (by exact (pe_callS (ok_point_text T) (hr1.mono (by decide)) rfl T.point_text.g T.point_text.F.kp T.point_text.b (fun σ => passAt tk σ) (pa_cons (pv 1) pa_nil)))))))) (by exact fun a oe cls d pn hz hf => pss_one (ps_set (i := 2) sc__law_part.nd rfl (Or.inl rfl) (by exact (pe_tup (pa_cons (pe_callB (call_isF hz hf) (by rfl) T.n_isinstance bt_isinstance (pa_cons (pv 3) (pa_cons (pe_glob (v := .ref A.c_BadNumber) (by rfl) T.low_BadNumber.gC rfl) pa_nil))) (pa_cons (by exact pe_byAny (S := fun C => C = A.c_BadNumber ∨ C = A.c_BadPoint) (by exact fun C hC => Or.elim hC (fun e => ⟨_, _, _, e.symm ▸ T.low_BadNumber⟩) (fun e => ⟨_, _, _, e.symm ▸ T.low_BadPoint⟩)) hz hf (pv 3)) pa_nil)))))))
      (pss_one (ps_ret (pv 2))))), ?_⟩
    walk_at "vc"
    rcases h with ⟨rfl, h⟩ | ⟨rfl, h⟩
    · rw [if_pos rfl]
      refine ⟨v, rfl, .inr ⟨h, fun H' d s e => ⟨true, T.am_N, fun _ a ha => ?_, fun z => Bool.noConfusion z⟩⟩⟩
      simp only [oddEnds2]
      walk_at "vc"
      refine ⟨_, _, _, true, d, _, rfl, rfl, T.ex_N, rfl, e, fun u hu => hu, T.ki_N, ?_⟩
      simp only [tByAny]
      walk_at "vc"
      refine ⟨_, .inl rfl, rfl, _, e, by decide, fun r hr => ?_⟩
      exact q _ r (s.trans (same_upd hr)) (st_of upd_same)
    · rw [if_neg (by decide)]
      refine ⟨v, rfl, .inr ⟨h, fun H' d s e => ⟨true, T.am_P, fun _ a ha => ?_, fun z => Bool.noConfusion z⟩⟩⟩
      simp only [oddEnds2]
      walk_at "vc"
      refine ⟨_, _, _, false, d, _, rfl, rfl, T.ex_P, rfl, e, fun u hu => hu, T.ki_P, ?_⟩
      simp only [tByAny]
      walk_at "vc"
      refine ⟨_, .inr rfl, rfl, _, e, by decide, fun r hr => ?_⟩
      exact q _ r (s.trans (same_upd hr)) (st_of upd_same)
end
end Odd
namespace Odd
open PySem PySem.Spec PyProof.Rows L2
local macro_rules | `(tactic| walk_at "vc") => `(tactic| simp only [tSeq, tAsg, gName, tCB, tCons, tNil, tVar, tC, tOp, tUn, rI0, rI, rU, tTup, tLst, tIfS, tTest, tB, tRet, tNext, rGcd, L2.start, List.map, List.set, List.replicate, List.cons_append, List.nil_append, List.length_cons, List.length_nil, List.getElem?_cons_succ, List.getElem?_cons_zero, Option.some.injEq, exists_eq_left', exists_eq_left, List.append_nil, List.cons.injEq, V.int.injEq, exists_and_left, and_true, true_and, and_assoc, exists_const, V.bl.injEq, V.ref.injEq, Nat.sub_self, Nat.reduceAdd, Nat.reduceSub, List.replicate_succ, List.replicate_zero, tAnd, tOr, tNot, tAndV, tOrV, tNotV, tIf, tCall, tCallK, tDrop, rEq, rNe, decide_eq_true_eq, Bool.not_eq_true', decide_eq_false_iff_not, Bool.false_eq_true, if_true, if_false, reduceIte, reduceCtorEq, tMkLow, tRaiseLow, rIsB, rNotB, tBreak, tPar, gSub, rSetL, tChain, gTup, gCons, gNil, gSeq, cx_K, cx_Kn, optV, V.str.injEq, Bool.not_true, Bool.not_false, false_and, and_false, or_false, false_or, exists_false, tCallN, tCallS, tPairs])
section
variable {P : Program} {w : World} {K : PySem.W.Frag} {mg : Str → Option Value} {base : Heap} {A : Ads}
theorem slice_lens (x : Str) {a b : Int} (h0 : 0 ≤ a) (h1 : a ≤ b) : (Txt.slice x none (some a)).length + (Txt.slice x (some b) none).length ≤ x.length := by
  rw [← SX.S_tl x, SX.slice_to h0, SX.slice_from (by omega), SX.S_len, SX.S_len, SX.S_len, List.length_take, List.length_drop]
  omega
def spBent : Sp := fun vs H Q _ => ∃ (u : Addr) (k : Nat) (x : Str), vs = [.ref u, .str x] ∧ x.length ≤ 10000 ∧ Urn H u (k + 8) ∧ ∀ H' y, But u H H' → Urn H' u k → y.length ≤ 10002 → Q (.str y) H'
theorem ok__law_bent (T : Txt K mg A) : FnOk P w K mg base CX0 3 A.f__law_bent A.d__law_bent ["crate", "text"] spBent := by
  refine T._law_bent.F.ok sc__law_bent (fun vs H Q E h => ?_) (fun cdv A' outer s H vs Q E hr h => ?_)
  · obtain ⟨_, _, _, rfl, _⟩ := h; rfl
  · obtain ⟨u, k, x, rfl, hx, hu, q⟩ := h
    refine ⟨_, (pss_cons (ps_set (i := 2) sc__law_bent.nd rfl (.inl rfl) (pe_call (ok__law_one_of T) (hr.mono (by decide)) (by rfl) T._law_one_of.g T._law_one_of.F.kp T._law_one_of.b .nil pass0 (pa_cons (pv 0) (pa_cons (pe_lst (pa_cons pe_str (pa_cons pe_str (pa_cons pe_str (pa_cons pe_str (pa_cons pe_str pa_nil)))))) pa_nil))))
      (pss_cons (ps_for PassesOwn.never rfl (pi_range1 rfl T.n_range (pa_cons (pe_op op_add pe_int (pe_call (ok__law_pick T) (hr.mono (by decide)) (by rfl) T._law_pick.g T._law_pick.F.kp T._law_pick.b .nil pass0 (pa_cons (pv 0) (pa_cons pe_int pa_nil)))) pa_nil)) (pg_name (i := 3) sc__law_bent.nd rfl (.inl rfl)) (pss_cons (ps_par (i := 4) (j := 5) rfl sc__law_bent.nd rfl rfl (by decide) rfl rfl (pa_cons (pe_call (ok__law_pick T) (hr.mono (by decide)) (by rfl) T._law_pick.g T._law_pick.F.kp T._law_pick.b .nil pass0 (pa_cons (pv 0) (pa_cons (pe_op op_add (pe_callB call_len_str (by rfl) T.n_len bt_len (pa_cons (pv 1) pa_nil)) pe_int) pa_nil))) (pa_cons (pe_call (ok__law_pick T) (hr.mono (by decide)) (by rfl) T._law_pick.g T._law_pick.F.kp T._law_pick.b .nil pass0 (pa_cons (pv 0) (pa_cons pe_int pa_nil))) pa_nil)) rfl)
      (pss_cons (ps_set (i := 6) sc__law_bent.nd rfl (.inl rfl) (pe_call (ok__law_one_of T) (hr.mono (by decide)) (by rfl) T._law_one_of.g T._law_one_of.F.kp T._law_one_of.b .nil pass0 (pa_cons (pv 0) (pa_cons (pe_callTy (call_listS rfl) (by rfl) T.n_list bt_list (pa_cons (pv 2) pa_nil)) pa_nil))))
      (pss_one (ps_set (i := 1) sc__law_bent.nd rfl (.inl rfl) (pe_op op_add_str (pe_op op_add_str (pe_slice C8.sl_txt (pv 1) po_none (po_some (pv 4))) (pe_ifExp (pt_cmpR op_lt (pv 5) pe_int (nomark _)) (pv 6) pe_str)) (pe_slice C8.sl_txt (pv 1) (po_some (pe_op op_add (pv 4) (pe_callTy call_int1 (by rfl) T.n_int bt_int (pa_cons (pe_cmpR op_gt (pv 5) pe_int (nomark _)) pa_nil)))) po_none)))))))
      (pss_one (ps_ret (pv 1))))), ?_⟩
    refine seq_by fun N hN => ?_
    walk_at "vc"
    refine ⟨by decide, fun p hp => ?_⟩
    have sp := same_upd (o := .lst [.str "0123456789", .str "-/,", .str " +.abcdefghijklmnopqrstuvwxyz\n\t", .str "ABCXYZ_()[]{}<>=!?;:'#&*@^~|$", .str "0-/,"]) hp
    obtain ⟨cu, yu, eu⟩ := hu.at
    refine ⟨u, p, _, k + 7, rfl, (ne_of_none eu hp).symm, upd_same, by simp, by simp, hu.same sp, fun H1 v b1 u1 hv => ?_⟩
    have b01 := (same_but (u := u) sp).trans b1
    clear b1 sp eu
    obtain ⟨sg, rfl, g0, g1⟩ : ∃ sg : Str, v = .str sg ∧ 0 < sg.length ∧ sg.length ≤ 60 := by
      simp only [List.mem_cons, List.not_mem_nil, or_false] at hv
      rcases hv with rfl | rfl | rfl | rfl | rfl
      · exact ⟨_, rfl, by decide +kernel, by decide +kernel⟩
      · exact ⟨_, rfl, by decide +kernel, by decide +kernel⟩
      · exact ⟨_, rfl, by decide +kernel, by decide +kernel⟩
      · exact ⟨_, rfl, by decide +kernel, by decide +kernel⟩
      · exact ⟨_, rfl, by decide +kernel, by decide +kernel⟩
    clear hv
    have gl : (TL.tl sg).length = sg.length := (TL.len_tl sg).symm
    subst hN
    refine seq_by fun N hN => ?_
    refine ⟨_, rfl, u, 2, k + 6, rfl, by decide, by decide, u1, fun H2 m b2 u2 m0 m1 => ⟨1, m, rfl, rfl, 1 + m, rfl, by omega, by omega, ?_⟩⟩
    have b02 := b01.trans b2
    have hm2 : (1 + m).toNat ≤ 2 := by omega
    refine for_range (n := (1 + m).toNat) (fun i σ H' => ∃ y o3 o4 o5 o6, σ = [some (.ref u), some (.str y), some (.str sg), o3, o4, o5, o6] ∧ y.length ≤ x.length + i ∧ But u H H' ∧ Urn H' u (k + 6 - 3 * i)) ⟨x, _, _, _, _, rfl, by omega, b02, u2⟩ ?_ ?_
    · rintro i σ H3 hi ⟨y, o3, o4, o5, o6, rfl, hy, b03, u3⟩
      walk_at "vc"
      have big : ∀ {n : Nat}, n ≤ 1000000 → n ≤ sizeLine := fun h => Nat.le_trans h (by decide)
      refine ⟨big (by omega), u, _, k + 5 - 3 * i, rfl, by omega, by omega, u3.mono (by omega), fun H4 at_ b4 u4 a0 a1 => ⟨u, _, k + 4 - 3 * i, rfl, by decide, by decide, u4.mono (by omega), fun H5 way b5 u5 w0 w1 => ⟨sg, rfl, big (by omega), fun l hl => ?_⟩⟩⟩
      have sl := same_upd (o := .lst ((TL.tl sg).map fun c => V.str ⟨#[c]⟩)) hl
      obtain ⟨cu, yu, eu⟩ := u5.at
      refine ⟨u, l, _, k + 3 - 3 * i, rfl, (ne_of_none eu hl).symm, upd_same, by rw [List.length_map]; omega, by rw [List.length_map]; omega, (u5.same sl).mono (by omega), fun H6 v b6 u6 hv => ?_⟩
      obtain ⟨c, _, rfl⟩ := List.mem_map.mp hv
      have b06 := (((b03.trans b4).trans b5).trans (same_but (u := u) sl)).trans b6
      clear b4 b5 b6 sl eu hv u3 u4 u5 b03
      simp only [tSl, tNoPart, tPart, C8.rSlX]
      walk_at "vc"
      have h01 : 0 ≤ (if 1 < way then 1 else 0 : Int) := by split <;> decide
      have sl := slice_lens y (a := at_) (b := at_ + (if 1 < way then 1 else 0 : Int)) a0 (by omega)
      generalize (at_ + if 1 < way then 1 else 0) = b at *
      have u9 : Urn H6 u (k + 6 - 3 * (i + 1)) := u6.mono (by omega)
      have l1 : (⟨#[c]⟩ : Str).length = 1 := rfl
      have l0 : (Str.ofString "").length = 0 := by decide +kernel
      refine ⟨big (by omega), ?_⟩
      split
      · refine ⟨big (by omega), big (by omega), big (by rw [strLen_append]; omega), ?_, b06, u9⟩
        rw [strLen_append, strLen_append]
        omega
      · refine ⟨big (by omega), big (by omega), big (by rw [strLen_append]; omega), ?_, b06, u9⟩
        rw [strLen_append, strLen_append]
        omega
    · rintro σ H3 ⟨y, o3, o4, o5, o6, rfl, hy, b03, u3⟩
      show N _ _
      subst hN
      walk_at "vc"
      exact q _ _ b03 (u3.mono (by omega)) (by omega)
end
end Odd
namespace Odd
open PySem PySem.Spec PyProof.Rows L2
local macro_rules | `(tactic| walk_at "vc") => `(tactic| simp only [tSeq, tAsg, gName, tCB, tCons, tNil, tVar, tC, tOp, tUn, rI0, rI, rU, tTup, tLst, tIfS, tTest, tB, tRet, tNext, rGcd, L2.start, List.map, List.set, List.replicate, List.cons_append, List.nil_append, List.length_cons, List.length_nil, List.getElem?_cons_succ, List.getElem?_cons_zero, Option.some.injEq, exists_eq_left', exists_eq_left, List.append_nil, List.cons.injEq, V.int.injEq, exists_and_left, and_true, true_and, and_assoc, exists_const, V.bl.injEq, V.ref.injEq, Nat.sub_self, Nat.reduceAdd, Nat.reduceSub, List.replicate_succ, List.replicate_zero, tAnd, tOr, tNot, tAndV, tOrV, tNotV, tIf, tCall, tCallK, tDrop, rEq, rNe, decide_eq_true_eq, Bool.not_eq_true', decide_eq_false_iff_not, Bool.false_eq_true, if_true, if_false, reduceIte, reduceCtorEq, tMkLow, tRaiseLow, rIsB, rNotB, tBreak, tPar, gSub, rSetL, tChain, gTup, gCons, gNil, gSeq, cx_K, cx_Kn, optV, V.str.injEq, Bool.not_true, Bool.not_false, false_and, and_false, or_false, false_or, exists_false, tCallN, tCallS, tPairs])
section
variable {P : Program} {w : World} {K : PySem.W.Frag} {mg : Str → Option Value} {base : Heap} {A : Ads}
theorem PP.but {K : PySem.W.Frag} {u : Addr} {H H' : Hp} {v : V} {p : P2} {ys : List V} (s : But u H H') (hu : H u = some (.lst ys)) (h : PP K H v p) : PP K H' v p := by
  obtain ⟨a, x, y, e, h, hx, hy⟩ := h
  exact ⟨a, x, y, e, s.tup hu h, hx.but s hu, hy.but s hu⟩
def dPr (q : Int × Int) : PyData := .tuple [.int q.1, .int q.2]
def dPP (p : P2) : PyData := .tuple [dPr p.1, dPr p.2]
theorem dp_pr {H : Hp} {v : V} {q : Int × Int} (h : Pr K H v q) : Dp K H v (dPr q) := by
  obtain ⟨p, rfl, h⟩ := h
  exact .tup h (.cons (.int _) (.cons (.int _) .nil))
theorem dp_pp {H : Hp} {v : V} {p : P2} (h : PP K H v p) : Dp K H v (dPP p) := by
  obtain ⟨a, x, y, rfl, h, hx, hy⟩ := h
  exact .tup h (.cons (dp_pr hx) (.cons (dp_pr hy) .nil))
theorem sh_pp (p : P2) : SeqAt.shaped (dPP p) = true := by
  simp [dPP, dPr, SeqAt.shaped, PyData.canLay0, PyData.canLayAll0, PyData.depth, PyData.depthAll]
theorem eqv_pp (p : P2) : PyData.eqv (dPP p) (dPP p) = true := by
  simp [dPP, dPr, PyData.eqv, PyData.eqvAll]
theorem len_pair (x y : PyData) (n : Nat) (hx : x.shown.length ≤ n) (hy : y.shown.length ≤ n) : (PyData.tuple [x, y]).shown.length ≤ 2 * n + 10 := by
  simp only [PyData.shown, PyData.shownAll]
  have e := join_length_add [x.shown, y.shown] (by simp)
  have e2 : piled [x.shown, y.shown] = x.shown.length + 2 + (y.shown.length + 2) := by simp [piled]
  unfold tupleText
  rw [strLen_append, strLen_append]
  have e1 : ((("(" : String) : Str)).length = 1 := rfl
  have e3 : (((if [x.shown, y.shown].length == 1 then ",)" else ")" : String) : Str)).length ≤ 2 := by split <;> decide
  omega
theorem len_int {a : Int} (h : a.natAbs < 2 ^ 1900) : (PyData.int a).shown.length ≤ 1921 := by
  simp only [PyData.shown]
  rw [PySem.ofString_length]
  exact PySem.int_text_length_le (k := 1920) (by decide) (log_lt h)
theorem repr_pr {H : Hp} {v : V} {q : Int × Int} {Q : VK} (h : Pr K H v q) (s : Sm 1900 q) (r : Q (.str (dPr q).shown) H) : rRepr K [v] H Q := by
  have hd := dp_pr h
  obtain ⟨a, rfl, _⟩ := h
  refine ⟨a, dPr q, rfl, hd, by simp [dPr, PyData.showable, PyData.showableAll, log_lt s.1, log_lt s.2], by simp [dPr, PyData.hasDict, PyData.hasDictAll], by simp [dPr, PyData.depth, PyData.depthAll], ?_, r⟩
  exact Nat.le_trans (len_pair _ _ 1921 (len_int s.1) (len_int s.2)) (by decide)
theorem repr_pp {H : Hp} {v : V} {p : P2} {Q : VK} (h : PP K H v p) (s : SmP 1900 p) (r : Q (.str (dPP p).shown) H) : rRepr K [v] H Q := by
  have hd := dp_pp h
  obtain ⟨a, x, y, rfl, _⟩ := h
  refine ⟨a, dPP p, rfl, hd, by simp [dPP, dPr, PyData.showable, PyData.showableAll, log_lt s.1.1, log_lt s.1.2, log_lt s.2.1, log_lt s.2.2], by simp [dPP, dPr, PyData.hasDict, PyData.hasDictAll], by simp [dPP, dPr, PyData.depth, PyData.depthAll], ?_, r⟩
  exact Nat.le_trans (len_pair _ _ 3852 (len_pair _ _ 1921 (len_int s.1.1) (len_int s.1.2)) (len_pair _ _ 1921 (len_int s.2.1) (len_int s.2.2))) (by decide)
/-! ### repr of what is told -/
def rReprO (K : PySem.W.Frag) : List V → Hp → VK → Prop := fun xs H Q => rRepr K xs H Q ∨ (xs = [.non] ∧ Q (.str "None") H)
theorem call_reprO {X : Cx} (hg : X.A.guards = some []) (hu : X.A.units + 64 < cLine) : CallR X (.builtin "repr") (rReprO X.K) := by
  intro pins s σ H xs us Q I r h
  rcases h with h | ⟨rfl, q⟩
  · exact call_reprD hg hu pins s σ H xs us Q I r h
  · obtain ⟨u, rfl, e⟩ := vals1 r
    obtain rfl : u = Value.none := e
    exact PySem.P.repr_of_none ⟨.str "None", H, I.tok _, ⟨_, rfl⟩, q⟩
def shO (o : Option (Int × Int)) : Str := match o with
  | none => "None"
  | some q => (dPr q).shown
def shO2 (o : Option P2) : Str := match o with
  | none => "None"
  | some p => (dPP p).shown
theorem parsed_sm {x : Str} {q : Int × Int} (h : parsed x = some q) : Sm 1900 q := by
  have p60 : (10 : Nat) ^ 60 < 2 ^ 1900 := by decide +kernel
  unfold parsed at h
  split at h
  · cases h
  rename_i h1
  have c1 : isCount (cutOf x).1 = true := by
    cases e : isCount (cutOf x).1 with
    | true => rfl
    | false => exact absurd (.inl e) h1
  have t1 : (topOf x).natAbs < 10 ^ 60 := by
    unfold topOf
    split
    · rw [Int.natAbs_neg]; exact val_lt c1
    · exact val_lt c1
  split at h
  · cases h
    exact ⟨Nat.lt_trans t1 p60, by show (1 : Int).natAbs < 2 ^ 1900; decide +kernel⟩
  split at h
  · cases h
  rename_i h3
  cases h
  have c3 : isCount (cutOf x).2.2 = true := by
    cases e : isCount (cutOf x).2.2 with
    | true => rfl
    | false => exact absurd (.inl e) h3
  exact ⟨Nat.lt_trans t1 p60, Nat.lt_trans (val_lt c3) p60⟩
theorem parsed2_sm {x : Str} {p : P2} (h : parsed2 x = some p) : SmP 1900 p := by
  unfold parsed2 at h
  split at h
  · split at h
    · rename_i e1 e2
      cases h
      exact ⟨parsed_sm e1, parsed_sm e2⟩
    · cases h
  · cases h
theorem repr_o {H : Hp} {x : Str} {v : V} {Q : VK} (h : OV K H (parsed x) v) (r : Q (.str (shO (parsed x))) H) : rReprO K [v] H Q := by
  cases e : parsed x with
  | none =>
    rw [e] at h r
    obtain rfl : v = .non := h
    exact .inr ⟨rfl, r⟩
  | some q =>
    rw [e] at h r
    exact .inl (repr_pr h (parsed_sm e) r)
def OV2 (K : PySem.W.Frag) (H : Hp) (o : Option P2) (v : V) : Prop := match o with
  | none => v = .non
  | some p => PP K H v p
theorem OV2.same {H H' : Hp} {o : Option P2} {v : V} (s : Same H H') (h : OV2 K H o v) : OV2 K H' o v := by
  cases o with
  | none => exact h
  | some p => exact PP.same s h
theorem retO2' {H : Hp} {o : Option P2} {Q : VK} (h : ∀ H' v, Same H H' → OV2 K H' o v → Q v H') : RetO2 K H o Q := by
  cases o with
  | none => exact fun H' s => h H' _ s rfl
  | some p => exact fun H' v s e => h H' v s e
theorem repr_o2 {H : Hp} {x : Str} {v : V} {Q : VK} (h : OV2 K H (parsed2 x) v) (r : Q (.str (shO2 (parsed2 x))) H) : rReprO K [v] H Q := by
  cases e : parsed2 x with
  | none =>
    rw [e] at h r
    obtain rfl : v = .non := h
    exact .inr ⟨rfl, r⟩
  | some q =>
    rw [e] at h r
    exact .inl (repr_pp h (parsed2_sm e) r)
theorem kb_number_text (T : Txt K mg A) : KBn K A.d_number_text ["value"] 0 ["value"] (fun _ ws => ws) (fun _ zs => zs) := fun_kb T.number_text.F fun _ _ _ _ _ _ ws hl => match ws, hl with | [_], _ => rfl
theorem kb_point_text (T : Txt K mg A) : KBn K A.d_point_text ["value"] 0 ["value"] (fun _ ws => ws) (fun _ zs => zs) := fun_kb T.point_text.F fun _ _ _ _ _ _ ws hl => match ws, hl with | [_], _ => rfl
theorem kb_read_number (T : Txt K mg A) : KBn K A.d_read_number ["text"] 0 ["text"] (fun _ ws => ws) (fun _ zs => zs) := fun_kb T.read_number.F fun _ _ _ _ _ _ ws hl => match ws, hl with | [_], _ => rfl
theorem kb_read_point (T : Txt K mg A) : KBn K A.d_read_point ["text"] 0 ["text"] (fun _ ws => ws) (fun _ zs => zs) := fun_kb T.read_point.F fun _ _ _ _ _ _ ws hl => match ws, hl with | [_], _ => rfl
end
end Odd
namespace Odd
open PySem PySem.Spec PyProof.Rows L2
local macro_rules | `(tactic| walk_at "vc") => `(tactic| simp only [tSeq, tAsg, gName, tCB, tCons, tNil, tVar, tC, tOp, tUn, rI0, rI, rU, tTup, tLst, tIfS, tTest, tB, tRet, tNext, rGcd, L2.start, List.map, List.set, List.replicate, List.cons_append, List.nil_append, List.length_cons, List.length_nil, List.getElem?_cons_succ, List.getElem?_cons_zero, Option.some.injEq, exists_eq_left', exists_eq_left, List.append_nil, List.cons.injEq, V.int.injEq, exists_and_left, and_true, true_and, and_assoc, exists_const, V.bl.injEq, V.ref.injEq, Nat.sub_self, Nat.reduceAdd, Nat.reduceSub, List.replicate_succ, List.replicate_zero, tAnd, tOr, tNot, tAndV, tOrV, tNotV, tIf, tCall, tCallK, tDrop, rEq, rNe, decide_eq_true_eq, Bool.not_eq_true', decide_eq_false_iff_not, Bool.false_eq_true, if_true, if_false, reduceIte, reduceCtorEq, tMkLow, tRaiseLow, rIsB, rNotB, tBreak, tPar, gSub, rSetL, tChain, gTup, gCons, gNil, gSeq, cx_K, cx_Kn, optV, V.str.injEq, Bool.not_true, Bool.not_false, false_and, and_false, or_false, false_or, exists_false, tCallN, tCallS, tPairs])
section
variable {P : Program} {w : World} {K : PySem.W.Frag} {mg : Str → Option Value} {base : Heap} {A : Ads}
theorem p60b : (10 : Nat) ^ 60 < 2 ^ 1900 := by decide +kernel
theorem sh_pr (q : Int × Int) : SeqAt.shaped (dPr q) = true := by
  simp [dPr, SeqAt.shaped, PyData.canLay0, PyData.canLayAll0, PyData.depth, PyData.depthAll]
theorem eqv_pr (q : Int × Int) : PyData.eqv (dPr q) (dPr q) = true := by
  simp [dPr, PyData.eqv, PyData.eqvAll]
theorem great_ok {x : Int} (h0 : 0 ≤ x) (h1 : x < 1000000000) : ∃ c : Nat, (1 + x) ^ 9 = (c : Int) ∧ 1 ≤ c ∧ c < 2 ^ 300 := by
  refine ⟨(1 + x).natAbs ^ 9, ?_, ?_, ?_⟩
  · have : (1 + x) = (((1 + x).natAbs : Nat) : Int) := by omega
    rw [this, Int.natAbs_natCast]
    exact (Int.natCast_pow _ _).symm
  · exact Nat.one_le_pow _ _ (by omega)
  · exact Nat.lt_of_le_of_lt (Nat.pow_le_pow_left (show (1 + x).natAbs ≤ 1000000000 by omega) 9) (by decide +kernel)
theorem great_gcd (a c : Nat) : Nat.gcd (a * c + 1) a = 1 := by
  have h1 := Nat.gcd_dvd_left (a * c + 1) a
  have h2 := Nat.gcd_dvd_right (a * c + 1) a
  have h3 : Nat.gcd (a * c + 1) a ∣ a * c := Nat.dvd_trans h2 (Nat.dvd_mul_right a c)
  exact Nat.dvd_one.mp ((Nat.dvd_add_right h3).mp h1)
theorem num_free (a : Int) : 44 ∉ TL.tl (PySem.Str.ofString (toString a)) := by
  have h := text_free (a, 1)
  have e : textOf (a, 1) = PySem.Str.ofString (toString a) := if_pos rfl
  rw [e] at h
  exact h
/-- the texts that are tried -/
def txts (nt : Str) : List Str := [nt, nt ++ "0", "-" ++ nt, "1/" ++ nt, "1/" ++ nt ++ "1", "00", "-0", "0/2", "1/1", "1/0", "", "-", "+1", "1/-2", "--1", " 1", "1 ", "1.0", "1e2", "1_0", "5\n", "\t5"]
theorem txts_ok {nt : Str} (nl : nt.length ≤ 1921) (nf : 44 ∉ TL.tl nt) : ∀ w ∈ txts nt, w.length ≤ 3000 ∧ 44 ∉ TL.tl w := by
  have app : ∀ {a b : Str}, a.length + b.length ≤ 3000 → 44 ∉ TL.tl a → 44 ∉ TL.tl b → (a ++ b).length ≤ 3000 ∧ 44 ∉ TL.tl (a ++ b) := fun hl ha hb => by
    rw [strLen_append, TL.tl_append]
    refine ⟨hl, fun h => ?_⟩
    rcases List.mem_append.mp h with h | h
    · exact ha h
    · exact hb h
  have l1 : ("1/" : Str).length = 2 := rfl
  have l2 : ("1" : Str).length = 1 := rfl
  have l3 : ("0" : Str).length = 1 := rfl
  have l4 : ("-" : Str).length = 1 := rfl
  have f1 : 44 ∉ TL.tl "1/" := by decide +kernel
  have k1 := app (a := "1/") (b := nt) (by omega) f1 nf
  intro w hw
  simp only [txts, List.mem_cons, List.not_mem_nil, or_false] at hw
  rcases hw with rfl | rfl | rfl | rfl | rfl | hw
  · exact ⟨by omega, nf⟩
  · exact app (by omega) nf (by decide +kernel)
  · exact app (by omega) (by decide +kernel) nf
  · exact k1
  · exact app (by rw [strLen_append]; omega) k1.2 (by decide +kernel)
  · rcases hw with rfl | rfl | rfl | rfl | rfl | rfl | rfl | rfl | rfl | rfl | rfl | rfl | rfl | rfl | rfl | rfl | rfl <;> exact ⟨by decide +kernel, by decide +kernel⟩
theorem same_upd2 {H : Hp} {p : Addr} {o o' : HO} (h : H p = none) : Same H (upd (upd H p o) p o') := fun b x e => by
  have n := ne_of_none e h
  rw [upd_ne n, upd_ne n]
  exact e
theorem strs_ne {ws : List Str} {c : Addr} {ys : List V} : ws.map V.str ≠ .ref c :: ys := by
  cases ws <;> (intro z; cases z)
theorem bent_zero : parsed2 (Str.ofString "0," ++ Str.ofString "00") = none := by decide +kernel
theorem told_one {H : Hp} {x : Str} {F G : Hp → Prop} (hz : x.length ≤ 1000000) (h : ∀ H', Same H H' → G H') :
    spTold K [.bl true, .str x] H (fun v H1 => rReprO K [v] H1 fun r1 H2 => spLRead K [.str x] H2 (fun v2 H3 => rReprO K [v2] H3 fun r2 H4 => scal r1 r2 = true ∧ if ¬ r1 = r2 then F H4 else G H4) E0) E0 := by
  refine ⟨true, _, rfl, .inr ⟨x, rfl, hz, .inl ⟨rfl, retO fun H1 v s1 o1 => repr_o o1 ⟨x, rfl, hz, retO fun H2 v2 s2 o2 => repr_o o2 ⟨rfl, ?_⟩⟩⟩⟩⟩
  rw [if_neg (fun z => z rfl)]
  exact h _ (s1.trans s2)
theorem told_two {H : Hp} {x : Str} {F G : Hp → Prop} (hz : x.length ≤ 1000000) (h : ∀ H', Same H H' → G H') :
    spTold K [.bl false, .str x] H (fun v H1 => rReprO K [v] H1 fun r1 H2 => spLRead2 K [.str x] H2 (fun v2 H3 => rReprO K [v2] H3 fun r2 H4 => scal r1 r2 = true ∧ if ¬ r1 = r2 then F H4 else G H4) E0) E0 := by
  refine ⟨false, _, rfl, .inr ⟨x, rfl, hz, .inr ⟨rfl, retO2' fun H1 v s1 o1 => repr_o2 o1 ⟨x, rfl, hz, retO2' fun H2 v2 s2 o2 => repr_o2 o2 ⟨rfl, ?_⟩⟩⟩⟩⟩
  rw [if_neg (fun z => z rfl)]
  exact h _ (s1.trans s2)
theorem told_two' {H : Hp} {x : Str} {F G : Hp → Prop} {C : Prop} (hC : C) (hz : x.length ≤ 1000000) (h : ∀ H', Same H H' → G H') :
    spTold K [.bl false, .str x] H (fun v H1 => rReprO K [v] H1 fun r1 H2 => C ∧ spLRead2 K [.str x] H2 (fun v2 H3 => rReprO K [v2] H3 fun r2 H4 => scal r1 r2 = true ∧ if ¬ r1 = r2 then F H4 else G H4) E0) E0 := by
  refine ⟨false, _, rfl, .inr ⟨x, rfl, hz, .inr ⟨rfl, retO2' fun H1 v s1 o1 => repr_o2 o1 ⟨hC, x, rfl, hz, retO2' fun H2 v2 s2 o2 => repr_o2 o2 ⟨rfl, ?_⟩⟩⟩⟩⟩
  rw [if_neg (fun z => z rfl)]
  exact h _ (s1.trans s2)
theorem told_no {H : Hp} {x : Str} {F G : Hp → Prop} (hp : parsed2 x = none) (hz : x.length ≤ 1000000) (h : ∀ H', Same H H' → G H') :
    spTold K [.bl false, .str x] H (fun v H1 => if ¬ v = .non then F H1 else G H1) E0 := by
  refine ⟨false, _, rfl, .inr ⟨x, rfl, hz, .inr ⟨rfl, ?_⟩⟩⟩
  rw [hp]
  intro H' s
  rw [if_neg (fun z => z rfl)]
  exact h _ s
theorem told_odd {H : Hp} {b : Bool} {v : V} {U : String} {F G : Hp → Prop} (hv : TyN K H v U) (hU : U ≠ "str") (h : ∀ H', Same H H' → G H') :
    spTold K [.bl b, v] H (fun v H1 => if ¬ v = .non then F H1 else G H1) E0 := by
  refine ⟨b, _, rfl, .inl ⟨U, hv, hU, fun H' s => ?_⟩⟩
  show if ¬ V.non = V.non then F H' else G H'
  rw [if_neg (fun z => z rfl)]
  exact h _ s
def spLaw (K : PySem.W.Frag) : Sp := fun vs H Q _ => ∃ (a : Addr) (ns : List Int), vs = [.ref a] ∧ SqL K H a (ns.map V.int) ∧ ns.length ≤ 63 ∧ ∀ H', Q (.bl true) H'
theorem ok_law (T : Txt K mg A) : GOk P w K mg base CX0 8 A.f_law A.d_law ["script"] (spLaw K) := by
  refine gok T.law.F sc_law (fun vs H Q E h => ?_) (fun cdv A' outer s H vs Q E hg hr h => ?_)
  · obtain ⟨_, _, rfl, _⟩ := h; rfl
  · obtain ⟨a, ns, rfl, hS, hl, q⟩ := h
    refine ⟨_, (pss_cons (ps_set (i := 1) sc_law.nd rfl (.inl rfl) (pe_call (ok__law_crate T) (hr.mono (by decide)) (by rfl) T._law_crate.g T._law_crate.F.kp T._law_crate.b .nil pass0 (pa_cons (pv 0) pa_nil)))
      (pss_cons (ps_for PassesOwn.never rfl (pi_range1 rfl T.n_range (pa_cons (pe_op op_add pe_int (pe_call (ok__law_pick T) (hr.mono (by decide)) (by rfl) T._law_pick.g T._law_pick.F.kp T._law_pick.b .nil pass0 (pa_cons (pv 1) (pa_cons pe_int pa_nil)))) pa_nil)) (pg_name (i := 2) sc_law.nd rfl (.inl rfl)) (pss_cons (ps_par (i := 3) (j := 4) rfl sc_law.nd rfl rfl (by decide) rfl rfl (pa_cons (pe_call (ok__law_drawn T) (hr.mono (by decide)) (by rfl) T._law_drawn.g T._law_drawn.F.kp T._law_drawn.b .nil pass0 (pa_cons (pv 1) pa_nil)) (pa_cons (pe_call (ok__law_drawn T) (hr.mono (by decide)) (by rfl) T._law_drawn.g T._law_drawn.F.kp T._law_drawn.b .nil pass0 (pa_cons (pv 1) pa_nil)) pa_nil)) rfl)
      (pss_cons (ps_par (i := 5) (j := 6) rfl sc_law.nd rfl rfl (by decide) rfl rfl (pa_cons (pe_call (ok__law_written T) (hr.mono (by decide)) (by rfl) T._law_written.g T._law_written.F.kp T._law_written.b .nil pass0 (pa_cons (pv 3) pa_nil)) (pa_cons (pe_op op_add_str (pe_op op_add_str (pe_call (ok__law_written T) (hr.mono (by decide)) (by rfl) T._law_written.g T._law_written.F.kp T._law_written.b .nil pass0 (pa_cons (pv 3) pa_nil)) pe_str) (pe_call (ok__law_written T) (hr.mono (by decide)) (by rfl) T._law_written.g T._law_written.F.kp T._law_written.b .nil pass0 (pa_cons (pv 4) pa_nil))) pa_nil)) rfl)
      (pss_cons (ps_if (PW.pt (pw_or (pt_cmpR op_ne (pe_callN0 (ok_number_text T) (hr.mono (by decide)) (by rfl) T.number_text.g T.number_text.F.kp (kb_number_text T) passL (pk_cons (pe_callTy call_list_of (by rfl) T.n_list bt_list (pa_cons (pv 3) pa_nil)) pk_nil)) (pv 5) (nomark _)) (pw_or (pt_cmpR op_ne (pe_callN0 (ok_point_text T) (hr.mono (by decide)) (by rfl) T.point_text.g T.point_text.F.kp (kb_point_text T) passL (pk_cons (pe_lst (pa_cons (pv 3) (pa_cons (pv 4) pa_nil))) pk_nil)) (pv 6) (nomark _)) (pw_or (pt_cmpR (op_neD hr.units) (pe_callN0 (ok_read_number T) (hr.mono (by decide)) (by rfl) T.read_number.g T.read_number.F.kp (kb_read_number T) passL (pk_cons (pv 5) pk_nil)) (pv 3) (nomark _)) (pw_or1 (pt_cmpR (op_neD hr.units) (pe_callN0 (ok_read_point T) (hr.mono (by decide)) (by rfl) T.read_point.g T.read_point.F.kp (kb_read_point T) passL (pk_cons (pv 6) pk_nil)) (pe_tup (pa_cons (pv 3) (pa_cons (pv 4) pa_nil))) (nomark _))))))) (pss_one (ps_ret pe_bl)) pss_nil)
      (pss_cons (ps_if (PW.pt (pw_and (pt_cmpR op_eq (pe_ix ix_tup (pv 3) pe_int (fun _ _ => rfl)) pe_int (nomark _)) (pw_and1 (PW.pt (pw_or (pt_cmpR op_ne (pe_call (ok_number_text T) (hr.mono (by decide)) (by rfl) T.number_text.g T.number_text.F.kp T.number_text.b .nil passL (pa_cons (pe_ix ix_tup (pv 3) pe_int (fun _ _ => rfl)) pa_nil)) (pv 5) (nomark _)) (pw_or1 (pt_cmpR op_ne (pe_call (ok_point_text T) (hr.mono (by decide)) (by rfl) T.point_text.g T.point_text.F.kp T.point_text.b .nil passL (pa_cons (pe_tup (pa_cons (pe_ix ix_tup (pv 3) pe_int (fun _ _ => rfl)) (pa_cons (pe_callTy call_list_of (by rfl) T.n_list bt_list (pa_cons (pv 4) pa_nil)) pa_nil))) pa_nil)) (pv 6) (nomark _)))))))) (pss_one (ps_ret pe_bl)) pss_nil)
      (pss_one (ps_for PassesOwn.never rfl (pi_range1 rfl T.n_range (pa_cons pe_int pa_nil)) (pg_name (i := 7) sc_law.nd rfl (.inl rfl)) (pss_cons (ps_par (i := 8) (j := 9) rfl sc_law.nd rfl rfl (by decide) rfl rfl (pa_cons (pe_call (ok__law_bent T) (hr.mono (by decide)) (by rfl) T._law_bent.g T._law_bent.F.kp T._law_bent.b .nil pass0 (pa_cons (pv 1) (pa_cons (pv 5) pa_nil))) (pa_cons (pe_call (ok__law_bent T) (hr.mono (by decide)) (by rfl) T._law_bent.g T._law_bent.F.kp T._law_bent.b .nil pass0 (pa_cons (pv 1) (pa_cons (pv 6) pa_nil))) pa_nil)) rfl)
      (pss_one (ps_if (PW.pt (pw_or (pt_cmpR op_ne (pe_callB (call_reprO hg hr.units) (by rfl) T.n_repr bt_repr (pa_cons (pe_call (ok__law_told T) (hr.mono (by decide)) (by rfl) T._law_told.g T._law_told.F.kp T._law_told.b .nil pass0 (pa_cons pe_bl (pa_cons (pv 8) pa_nil))) pa_nil)) (pe_callB (call_reprO hg hr.units) (by rfl) T.n_repr bt_repr (pa_cons (pe_call (ok__law_read T) (hr.mono (by decide)) (by rfl) T._law_read.g T._law_read.F.kp T._law_read.b .nil pass0 (pa_cons (pv 8) pa_nil)) pa_nil)) (nomark _)) (pw_or1 (pt_cmpR op_ne (pe_callB (call_reprO hg hr.units) (by rfl) T.n_repr bt_repr (pa_cons (pe_call (ok__law_told T) (hr.mono (by decide)) (by rfl) T._law_told.g T._law_told.F.kp T._law_told.b .nil pass0 (pa_cons pe_bl (pa_cons (pv 9) pa_nil))) pa_nil)) (pe_callB (call_reprO hg hr.units) (by rfl) T.n_repr bt_repr (pa_cons (pe_call (ok__law_read_two T) (hr.mono (by decide)) (by rfl) T._law_read_two.g T._law_read_two.F.kp T._law_read_two.b .nil pass0 (pa_cons (pv 9) pa_nil)) pa_nil)) (nomark _))))) (pss_one (ps_ret pe_bl)) pss_nil))))))))))
      (pss_cons (ps_set (i := 10) sc_law.nd rfl (.inl rfl) (pe_tup (pa_cons (pe_op op_add (pe_op op_mulW (pe_op op_pow pe_int pe_int) (pe_op op_pow (pe_op op_add pe_int (pe_call (ok__law_pick T) (hr.mono (by decide)) (by rfl) T._law_pick.g T._law_pick.F.kp T._law_pick.b .nil pass0 (pa_cons (pv 1) (pa_cons (pe_op op_pow pe_int pe_int) pa_nil)))) pe_int)) pe_int) (pa_cons (pe_op op_pow pe_int pe_int) pa_nil))))
      (pss_cons (ps_if (PW.pt (pw_or (pt_cmpR op_ne (pe_call (ok_number_text T) (hr.mono (by decide)) (by rfl) T.number_text.g T.number_text.F.kp T.number_text.b .nil passL (pa_cons (pv 10) pa_nil)) (pe_call (ok__law_written T) (hr.mono (by decide)) (by rfl) T._law_written.g T._law_written.F.kp T._law_written.b .nil pass0 (pa_cons (pv 10) pa_nil)) (nomark _)) (pw_or (pt_cmpR op_notN (pe_call (ok__law_told T) (hr.mono (by decide)) (by rfl) T._law_told.g T._law_told.F.kp T._law_told.b .nil pass0 (pa_cons pe_bl (pa_cons (pe_call (ok__law_written T) (hr.mono (by decide)) (by rfl) T._law_written.g T._law_written.F.kp T._law_written.b .nil pass0 (pa_cons (pv 10) pa_nil)) pa_nil))) pe_non (nomark _)) (pw_or1 (pt_cmpR op_ne (pe_call (ok_number_text T) (hr.mono (by decide)) (by rfl) T.number_text.g T.number_text.F.kp T.number_text.b .nil passL (pa_cons (pe_ix ix_tup (pv 10) pe_int (fun _ _ => rfl)) pa_nil)) (pe_callTy call_str_int (by rfl) T.n_str bt_str (pa_cons (pe_ix ix_tup (pv 10) pe_int (fun _ _ => rfl)) pa_nil)) (nomark _)))))) (pss_one (ps_ret pe_bl)) pss_nil)
      (pss_cons (ps_set (i := 11) sc_law.nd rfl (.inl rfl) (pe_callTy call_str_int (by rfl) T.n_str bt_str (pa_cons (pe_op op_add (pe_op op_pow pe_int pe_int) (pe_call (ok__law_pick T) (hr.mono (by decide)) (by rfl) T._law_pick.g T._law_pick.F.kp T._law_pick.b .nil pass0 (pa_cons (pv 1) (pa_cons (pe_op op_pow pe_int pe_int) pa_nil)))) pa_nil)))
      (pss_cons (ps_set (i := 12) sc_law.nd rfl (.inl rfl) (pe_lst (pa_cons (pv 11) (pa_cons (pe_op op_add_str (pv 11) pe_str) (pa_cons (pe_op op_add_str pe_str (pv 11)) (pa_cons (pe_op op_add_str pe_str (pv 11)) (pa_cons (pe_op op_add_str (pe_op op_add_str pe_str (pv 11)) pe_str) (pa_cons pe_str (pa_cons pe_str (pa_cons pe_str (pa_cons pe_str (pa_cons pe_str (pa_cons pe_str (pa_cons pe_str (pa_cons pe_str (pa_cons pe_str (pa_cons pe_str (pa_cons pe_str (pa_cons pe_str (pa_cons pe_str (pa_cons pe_str (pa_cons pe_str (pa_cons pe_str (pa_cons pe_str pa_nil))))))))))))))))))))))))
      (pss_cons (ps_for PassesOwn.never rfl (pi_list (pv 12)) (pg_name (i := 13) sc_law.nd rfl (.inl rfl)) (pss_one (ps_if (PW.pt (pw_or (pt_cmpR op_ne (pe_callB (call_reprO hg hr.units) (by rfl) T.n_repr bt_repr (pa_cons (pe_call (ok__law_told T) (hr.mono (by decide)) (by rfl) T._law_told.g T._law_told.F.kp T._law_told.b .nil pass0 (pa_cons pe_bl (pa_cons (pv 13) pa_nil))) pa_nil)) (pe_callB (call_reprO hg hr.units) (by rfl) T.n_repr bt_repr (pa_cons (pe_call (ok__law_read T) (hr.mono (by decide)) (by rfl) T._law_read.g T._law_read.F.kp T._law_read.b .nil pass0 (pa_cons (pv 13) pa_nil)) pa_nil)) (nomark _)) (pw_or (pt_cmpR op_ne (pe_callB (call_reprO hg hr.units) (by rfl) T.n_repr bt_repr (pa_cons (pe_call (ok__law_told T) (hr.mono (by decide)) (by rfl) T._law_told.g T._law_told.F.kp T._law_told.b .nil pass0 (pa_cons pe_bl (pa_cons (pe_op op_add_str (pv 13) pe_str) pa_nil))) pa_nil)) (pe_callB (call_reprO hg hr.units) (by rfl) T.n_repr bt_repr (pa_cons (pe_call (ok__law_read_two T) (hr.mono (by decide)) (by rfl) T._law_read_two.g T._law_read_two.F.kp T._law_read_two.b .nil pass0 (pa_cons (pe_op op_add_str (pv 13) pe_str) pa_nil)) pa_nil)) (nomark _)) (pw_or1 (pt_cmpR op_notN (pe_call (ok__law_told T) (hr.mono (by decide)) (by rfl) T._law_told.g T._law_told.F.kp T._law_told.b .nil pass0 (pa_cons pe_bl (pa_cons (pv 13) pa_nil))) pe_non (nomark _)))))) (pss_one (ps_ret pe_bl)) pss_nil)))
      (pss_cons (ps_set (i := 14) sc_law.nd rfl (.inl rfl) (pe_call (ok__law_one_of T) (hr.mono (by decide)) (by rfl) T._law_one_of.g T._law_one_of.F.kp T._law_one_of.b .nil pass0 (pa_cons (pv 1) (pa_cons (pe_lst (pa_cons pe_non (pa_cons pe_int (pa_cons (pe_lst (pa_cons pe_str pa_nil)) (pa_cons (pe_tup (pa_cons pe_str (pa_cons pe_str pa_nil))) (pa_cons pe_bl (pa_cons (pe_disp (pps_cons pe_str pe_int pps_nil) rfl rfl (by simp) (by decide)) pa_nil))))))) pa_nil))))
      (pss_cons (ps_if (PW.pt (pw_or (pt_cmpR op_notN (pe_call (ok__law_told T) (hr.mono (by decide)) (by rfl) T._law_told.g T._law_told.F.kp T._law_told.b .nil pass0 (pa_cons pe_bl (pa_cons (pv 14) pa_nil))) pe_non (nomark _)) (pw_or (pt_cmpR op_notN (pe_call (ok__law_told T) (hr.mono (by decide)) (by rfl) T._law_told.g T._law_told.F.kp T._law_told.b .nil pass0 (pa_cons pe_bl (pa_cons (pv 14) pa_nil))) pe_non (nomark _)) (pw_or1 (pt_cmpR op_notN (pe_call (ok__law_told T) (hr.mono (by decide)) (by rfl) T._law_told.g T._law_told.F.kp T._law_told.b .nil pass0 (pa_cons pe_bl (pa_cons (pe_op op_add_str pe_str (pe_ix ix_list (pv 12) pe_int (fun _ _ => rfl))) pa_nil))) pe_non (nomark _)))))) (pss_one (ps_ret pe_bl)) pss_nil)
      (pss_cons (ps_par (i := 15) (j := 16) rfl sc_law.nd rfl rfl (by decide) rfl rfl (pa_cons (pe_call (ok__law_one_of T) (hr.mono (by decide)) (by rfl) T._law_one_of.g T._law_one_of.F.kp T._law_one_of.b .nil pass0 (pa_cons (pv 1) (pa_cons (pe_lst (pa_cons pe_non (pa_cons pe_str (pa_cons (pe_tup (pa_cons pe_int (pa_cons pe_int pa_nil))) (pa_cons pe_bl (pa_cons (pe_lst (pa_cons pe_int pa_nil)) (pa_cons (pe_tup (pa_cons pe_int (pa_cons pe_int pa_nil))) pa_nil))))))) pa_nil))) (pa_cons (pe_call (ok__law_one_of T) (hr.mono (by decide)) (by rfl) T._law_one_of.g T._law_one_of.F.kp T._law_one_of.b .nil pass0 (pa_cons (pv 1) (pa_cons (pe_lst (pa_cons pe_non (pa_cons pe_str (pa_cons pe_int (pa_cons (pe_tup (pa_cons pe_int pa_nil)) (pa_cons (pe_tup (pa_cons pe_int (pa_cons pe_int (pa_cons pe_int pa_nil)))) (pa_cons (pe_tup (pa_cons (pe_tup (pa_cons pe_int (pa_cons pe_int pa_nil))) (pa_cons pe_int pa_nil))) (pa_cons (pe_tup (pa_cons pe_bl (pa_cons pe_int pa_nil))) pa_nil)))))))) pa_nil))) pa_nil)) rfl)
      (pss_one (ps_ret (pe_and (pe_cmpR (op_eqD hr.units) (pe_call (ok__law_part T) (hr.mono (by decide)) (by rfl) T._law_part.g T._law_part.F.kp T._law_part.b .nil pass0 (pa_cons pe_bl (pa_cons (pv 15) pa_nil))) (pe_tup (pa_cons pe_bl (pa_cons pe_str pa_nil))) (nomark _)) (pe_one (pe_cmpR (op_eqD hr.units) (pe_call (ok__law_part T) (hr.mono (by decide)) (by rfl) T._law_part.g T._law_part.F.kp T._law_part.b .nil pass0 (pa_cons pe_bl (pa_cons (pv 16) pa_nil))) (pe_tup (pa_cons pe_bl (pa_cons pe_str pa_nil))) (nomark _)))))))))))))))), ?_⟩
    refine seq_by fun N hN => ?_
    walk_at "vc"
    refine ⟨a, ns, rfl, hS, hl, fun H1 u s1 u1 => ?_⟩
    clear hS s1 hl
    subst hN
    refine seq_by fun N hN => ?_
    refine ⟨_, rfl, u, 5, 899999, rfl, by decide, by decide, u1, fun H2 m b2 u2 m0 m1 => ⟨2, m, rfl, rfl, 2 + m, rfl, by omega, by omega, ?_⟩⟩
    have hm5 : (2 + m).toNat ≤ 6 := by omega
    refine for_range (n := (2 + m).toNat) (fun i σ H' => ∃ o2 o3 o4 o5 o6 o7 o8 o9, σ = [some (.ref a), some (.ref u), o2, o3, o4, o5, o6, o7, o8, o9, none, none, none, none, none, none, none] ∧ Urn H' u (800000 - 2000 * i)) ⟨_, _, _, _, _, _, _, _, rfl, u2.mono (by omega)⟩ ?_ ?_
    · rintro i σ H' hi ⟨o2, o3, o4, o5, o6, o7, o8, o9, rfl, ui⟩
      have u0 : Urn H' u (799000 - 2000 * i) := ui.mono (by omega)
      refine seq_by fun N hN => ?_
      walk_at "vc"
      refine ⟨u, 798980 - 2000 * i, rfl, u0.mono (by omega), fun H1 vx x b1 u1 hx dx => ⟨u, 798960 - 2000 * i, rfl, u1.mono (by omega), fun H2 vy y b2 u2 hy dy => ?_⟩⟩
      obtain ⟨c1, y1, e1⟩ := u1.at
      have hx := hx.but b2 e1
      clear u0 ui b1 b2 u1 e1
      have sx : Sm 1900 x := ⟨Nat.lt_trans dx.2.1 p60b, by have := dx.2.2; have := dx.1.1; have := p60b; have : (10 : Int) ^ 60 = ((10 ^ 60 : Nat) : Int) := (by decide +kernel); omega⟩
      have sy : Sm 1900 y := ⟨Nat.lt_trans dy.2.1 p60b, by have := dy.2.2; have := dy.1.1; have := p60b; have : (10 : Int) ^ 60 = ((10 ^ 60 : Nat) : Int) := (by decide +kernel); omega⟩
      have lx := len_text sx
      have ly := len_text sy
      subst hN
      refine seq_by fun N hN => ?_
      walk_at "vc"
      have big : ∀ {n : Nat}, n ≤ 1000000 → n ≤ sizeLine := fun h => Nat.le_trans h (by decide)
      have lc : (Str.ofString ",").length = 1 := rfl
      refine ⟨vx, x, rfl, hx, sx, vx, x, rfl, hx, sx, textOf x, rfl, big (by omega), vy, y, rfl, hy, sy, textOf y, rfl, big (by rw [strLen_append]; omega), ?_⟩
      have e2 : textOf x ++ Str.ofString "," ++ textOf y = textOf2 (x, y) := by
        show _ = Str.empty ++ textOf x ++ "," ++ textOf y
        rw [empty_app]
      have l2 : (textOf2 (x, y)).length ≤ 9000 := by rw [← e2, strLen_append, strLen_append]; omega
      have k2 : parsed2 (textOf2 (x, y)) = some (x, y) := by rw [← e2]; exact parsed2_back (p := (x, y)) dx dy
      have k1 : parsed (textOf x) = some x := parsed_back dx
      rw [e2]
      subst hN
      refine seq_by fun N hN => ?_
      walk_at "vc"
      have hx0 := hx
      obtain ⟨px, rfl, tx⟩ := hx0
      refine ⟨px, rfl, _, .inr tx, fun l hl => ?_⟩
      have sl := same_upd (o := .lst [.int x.1, .int x.2]) hl
      refine ⟨_, rfl, .inl ⟨x, .sq (.inl (sl_of upd_same)) dx.1, sx, fun H3 s3 => ⟨rfl, ?_⟩⟩⟩
      rw [if_neg (fun z => z rfl)]
      refine ⟨by decide, fun p hp => ?_⟩
      have sp := same_upd (o := .lst [.ref px, vy]) hp
      have S3 := (sl.trans s3).trans sp
      refine ⟨_, rfl, .inl ⟨(x, y), ⟨p, _, vy, rfl, .inl (sl_of upd_same), (hx.same S3).num dx.1, (hy.same S3).num dy.1⟩, sx, sy, fun H4 s4 => ⟨rfl, ?_⟩⟩⟩
      rw [if_neg (fun z => z rfl)]
      refine ⟨_, rfl, .inr ⟨_, rfl, by omega, ?_⟩⟩
      rw [k1]
      intro H5 r s5 hr5
      have S5 := (S3.trans s4).trans s5
      refine ⟨_, _, dp_pr ⟨r, rfl, hr5⟩, dp_pr (hx.same S5), sh_pr x, sh_pr x, _, rfl, ?_⟩
      rw [eqv_pr, if_neg (by decide)]
      refine ⟨_, rfl, .inr ⟨_, rfl, by omega, ?_⟩⟩
      rw [k2]
      intro H6 v6 s6 hv6
      refine ⟨by decide, fun p2 hp2 => ?_⟩
      have s7 := same_upd (o := .tup [.ref px, vy]) hp2
      have S7 := (S5.trans s6).trans s7
      refine ⟨_, _, dp_pp (hv6.same s7), dp_pp (p := (x, y)) ⟨p2, _, _, rfl, st_of upd_same, hx.same S7, hy.same S7⟩, sh_pp _, sh_pp _, _, rfl, ?_⟩
      rw [eqv_pp, if_neg (by decide)]
      have hx := hx.same S7
      have hy := hy.same S7
      have tx := same_tup S7 tx
      have u2 := u2.same S7
      generalize upd H6 p2 (.tup [.ref px, vy]) = G1 at *
      clear hl sl s3 hp sp S3 s4 hr5 s5 S5 hv6 s6 hp2 s7 S7 e2
      subst hN
      refine seq_by fun N hN => ?_
      walk_at "vc"
      have rest : ∀ G2, Same G1 G2 → N [some (.ref a), some (.ref u), some (.int (0 + (i : Int))), some (.ref px), some vy, some (.str (textOf x)), some (.str (textOf2 (x, y))), o7, o8, o9, none, none, none, none, none, none, none] G2 := by
        intro G2 sG
        have u3 := u2.same sG
        clear hx hy tx u2 sG
        subst hN
        refine ⟨4, rfl, by decide, by decide, ?_⟩
        refine for_range (n := 4) (fun j σ H' => ∃ o7 o8 o9, σ = [some (.ref a), some (.ref u), some (.int (0 + (i : Int))), some (.ref px), some vy, some (.str (textOf x)), some (.str (textOf2 (x, y))), o7, o8, o9, none, none, none, none, none, none, none] ∧ Urn H' u (798960 - 2000 * i - 100 * j)) ⟨_, _, _, rfl, u3.mono (by omega)⟩ ?_ ?_
        · rintro j σ H3 hj ⟨o7, o8, o9, rfl, uj⟩
          refine seq_by fun N hN => ?_
          walk_at "vc"
          refine ⟨u, 798940 - 2000 * i - 100 * j, _, rfl, by omega, uj.mono (by omega), fun H4 b1 b4 u4 l1 => ⟨u, 798920 - 2000 * i - 100 * j, _, rfl, by omega, u4.mono (by omega), fun H5 b2 b5 u5 l2 => ?_⟩⟩
          clear b4 b5 u4 uj u3
          subst hN
          walk_at "vc"
          refine told_one (by omega) fun H6 s6 => told_two (by omega) fun H7 s7 => ?_
          exact (u5.same (s6.trans s7)).mono (by omega)
        · rintro σ H3 ⟨o7, o8, o9, rfl, uj⟩
          show ∃ _, _
          exact ⟨_, _, _, _, _, _, _, _, rfl, uj.mono (by omega)⟩
      refine ixT tx rfl ⟨rfl, ?_⟩
      split
      · rename_i hx1
        have hx1 : x.2 = 1 := by injection hx1
        have nx : Num K G1 (.int x.1) x := by
          have e : x = (x.1, 1) := by rw [← hx1]
          rw [e]
          exact .int x.1
        refine ixT tx rfl ⟨_, rfl, .inl ⟨x, nx, sx, fun H3 s3 => ⟨rfl, ?_⟩⟩⟩
        rw [if_neg (fun z => z rfl)]
        have hy0 := hy
        obtain ⟨py, rfl, ty⟩ := hy0
        refine ixT (same_tup s3 tx) rfl ⟨py, rfl, _, .inr (same_tup s3 ty), fun l hl => ⟨by decide, fun p hp => ?_⟩⟩
        have sl := same_upd (o := .lst [.int y.1, .int y.2]) hl
        have sp := same_upd (o := .tup [.int x.1, .ref l]) hp
        refine ⟨_, rfl, .inl ⟨(x, y), ⟨p, _, _, rfl, .inr (st_of upd_same), nx.same ((s3.trans sl).trans sp), .sq (.inl (sl_of (sp _ _ upd_same))) dy.1⟩, sx, sy, fun H4 s4 => ⟨rfl, ?_⟩⟩⟩
        rw [if_neg (fun z => z rfl)]
        exact rest _ (((s3.trans sl).trans sp).trans s4)
      · exact rest _ (Same.refl _)
    · rintro σ H' ⟨o2, o3, o4, o5, o6, o7, o8, o9, rfl, ui⟩
      have u0 : Urn H' u 780000 := ui.mono (by omega)
      clear ui hm5 u1 u2 b2 m0 m1
      show N _ _
      subst hN
      refine seq_by fun N hN => ?_
      walk_at "vc"
      have e9 : (10 : Int) ^ Int.toNat 9 = 1000000000 := by decide
      have c60 : (10 : Int) ^ Int.toNat 60 = 1000000000000000000000000000000000000000000000000000000000000 := by decide +kernel
      have n60 : (10 : Nat) ^ 60 = 1000000000000000000000000000000000000000000000000000000000000 := by decide +kernel
      have n200 : (2 : Nat) ^ 200 = 1606938044258990275541962092341162602522202993782792835301376 := by decide +kernel
      rw [e9, c60]
      refine ⟨⟨by decide, by decide, by decide⟩, ⟨by decide, by decide, by decide⟩, u, _, 779000, rfl, by decide, by decide, u0.mono (by omega), fun H1 x b1 u1 x0 x1 => ⟨x, rfl, ⟨by decide, by decide, by omega⟩, ?_⟩⟩
      obtain ⟨c, ec, c1, c2⟩ := great_ok x0 x1
      have e9' : (1 + x) ^ Int.toNat 9 = (c : Int) := ec
      rw [e9']
      refine ⟨wide_mul (a := 200) (b := 300) (by rw [n200]; decide) (by rw [Int.natAbs_natCast]; exact c2) (by decide) (by decide) (by decide), ⟨by decide, by decide, by decide⟩, by decide, fun p hp => ?_⟩
      have gg : Canon (1000000000000000000000000000000000000000000000000000000000000 * (c : Int) + 1, 1000000000000000000000000000000000000000000000000000000000000) := by
        refine ⟨show (1 : Int) ≤ 1000000000000000000000000000000000000000000000000000000000000 by decide, ?_⟩
        have := great_gcd 1000000000000000000000000000000000000000000000000000000000000 c
        have e : (1000000000000000000000000000000000000000000000000000000000000 * (c : Int) + 1).natAbs = 1000000000000000000000000000000000000000000000000000000000000 * c + 1 := by omega
        rw [e]
        exact this
      have gl : 10 ^ 60 ≤ (1000000000000000000000000000000000000000000000000000000000000 * (c : Int) + 1).natAbs := by rw [n60]; omega
      have gs : (1000000000000000000000000000000000000000000000000000000000000 * (c : Int) + 1).natAbs < 2 ^ 1900 := by
        have e : (1000000000000000000000000000000000000000000000000000000000000 * (c : Int) + 1).natAbs ≤ 2 ^ 200 * c := by rw [n200]; omega
        have e2 : 2 ^ 200 * c < 2 ^ 200 * 2 ^ 300 := Nat.mul_lt_mul_of_pos_left c2 (by decide)
        exact Nat.lt_of_le_of_lt e (Nat.lt_trans e2 (by decide +kernel))
      generalize 1000000000000000000000000000000000000000000000000000000000000 * (c : Int) + 1 = t at *
      have sp := same_upd (o := .tup [.int t, .int 1000000000000000000000000000000000000000000000000000000000000]) hp
      have ep : upd H1 p (.tup [.int t, .int 1000000000000000000000000000000000000000000000000000000000000]) p = some (.tup [.int t, .int 1000000000000000000000000000000000000000000000000000000000000]) := upd_same
      have u2 := u1.same sp
      generalize upd H1 p (.tup [.int t, .int 1000000000000000000000000000000000000000000000000000000000000]) = G1 at *
      clear u1 sp hp b1 ec e9' c1 c2 x0 x1 u0
      subst hN
      refine seq_by fun N hN => ?_
      walk_at "vc"
      have ms : (1000000000000000000000000000000000000000000000000000000000000 : Int).natAbs < 2 ^ 1900 := by decide +kernel
      have pk : ∀ {H'' : Hp}, Same G1 H'' → Pr K H'' (.ref p) (t, 1000000000000000000000000000000000000000000000000000000000000) := fun s => ⟨p, rfl, st_of (s _ _ ep)⟩
      refine ⟨_, rfl, .inl ⟨(t, 1000000000000000000000000000000000000000000000000000000000000), .sq (.inr (st_of ep)) gg, ⟨gs, ms⟩, fun H2 s2 => ⟨_, (t, 1000000000000000000000000000000000000000000000000000000000000), rfl, pk s2, ⟨gs, ms⟩, rfl, ?_⟩⟩⟩
      rw [if_neg (fun z => z rfl)]
      refine ⟨_, (t, 1000000000000000000000000000000000000000000000000000000000000), rfl, pk s2, ⟨gs, ms⟩, true, _, rfl, .inr ⟨textOf (t, 1000000000000000000000000000000000000000000000000000000000000), rfl, Nat.le_trans (len_text ⟨gs, ms⟩) (by decide), .inl ⟨rfl, ?_⟩⟩⟩
      rw [parsed_great gl (by decide)]
      intro H3 s3
      rw [if_neg (fun z => z rfl)]
      have et : textOf (t, 1) = Str.ofString (toString t) := if_pos rfl
      refine ixT (st_of (s3 _ _ (s2 _ _ ep))) rfl ⟨_, rfl, .inl ⟨(t, 1), .int t, ⟨gs, show (1 : Int).natAbs < 2 ^ 1900 by decide +kernel⟩, fun H4 s4 => ixT (st_of (s4 _ _ (s3 _ _ (s2 _ _ ep)))) rfl ⟨t, rfl, log_lt gs, ?_⟩⟩⟩
      rw [et]
      refine ⟨rfl, ?_⟩
      rw [if_neg (fun z => z rfl)]
      have u5 := u2.same ((s2.trans s3).trans s4)
      clear et s4 s3 s2 pk ms u2 ep gg gl gs
      subst hN
      refine seq_by fun N hN => ?_
      walk_at "vc"
      have c59 : (10 : Int) ^ Int.toNat 59 = 100000000000000000000000000000000000000000000000000000000000 := by decide +kernel
      rw [e9, c59]
      refine ⟨⟨by decide, by decide, by decide⟩, ⟨by decide, by decide, by decide⟩, u, _, 778000, rfl, by decide, by decide, u5.mono (by omega), fun H5 z b5 u6 z0 z1 => ⟨z, rfl, ?_, ?_⟩⟩
      · exact log_lt (Nat.lt_trans (by rw [n200]; omega : _ < 2 ^ 200) (by decide +kernel))
      have zs : (100000000000000000000000000000000000000000000000000000000000 + z).natAbs < 2 ^ 1900 := Nat.lt_trans (by rw [n200]; omega : _ < 2 ^ 200) (by decide +kernel)
      have nl := len_num zs
      have nf := num_free (100000000000000000000000000000000000000000000000000000000000 + z)
      generalize Str.ofString (toString (100000000000000000000000000000000000000000000000000000000000 + z)) = nt at *
      clear zs z0 z1 b5 u5
      have big : ∀ {n : Nat}, n ≤ 1000000 → n ≤ sizeLine := fun h => Nat.le_trans h (by decide)
      subst hN
      refine seq_by fun N hN => ?_
      walk_at "vc"
      have l1 : (Str.ofString "1/").length = 2 := rfl
      have l2 : (Str.ofString "1").length = 1 := rfl
      have l3 : (Str.ofString "0").length = 1 := rfl
      have l4 : (Str.ofString "-").length = 1 := rfl
      refine ⟨big (by omega), big (by omega), big (by omega), big (by omega), big (by rw [strLen_append]; omega), by decide, fun l hl => ?_⟩
      have wok := txts_ok nl nf
      show N _ (upd H5 l (.lst ((txts nt).map V.str)))
      have el : upd H5 l (.lst ((txts nt).map V.str)) l = some (.lst ((txts nt).map V.str)) := upd_same
      have w5 : (txts nt)[5]? = some (Str.ofString "00") := rfl
      have u7 := u6.same (same_upd (o := .lst ((txts nt).map V.str)) hl)
      generalize upd H5 l (.lst ((txts nt).map V.str)) = G5 at *
      generalize txts nt = ws at *
      clear hl u6 nf nl l1 l2 l3 l4
      subst hN
      refine seq_by fun N hN => ?_
      refine ⟨_, rfl, l, rfl, ⟨_, sl_of el⟩, ?_⟩
      refine for_list (xs := ws.map V.str) (fun i σ H' => ∃ o13, σ = [some (.ref a), some (.ref u), o2, o3, o4, o5, o6, o7, o8, o9, some (.ref p), some (.str nt), some (.ref l), o13, none, none, none] ∧ Same G5 H') ⟨none, rfl, Same.refl _⟩ (fun i σ H' _ h => by obtain ⟨_, _, h⟩ := h; exact sl_of (h _ _ el)) ?_ ?_
      · rintro i v σ H6 hv ⟨o13, rfl, s6⟩
        rw [List.getElem?_map] at hv
        cases hwi : ws[i]? with
        | none => rw [hwi] at hv; cases hv
        | some wd =>
          rw [hwi] at hv
          obtain rfl := Option.some.inj hv
          obtain ⟨wl, wf⟩ := wok wd (List.mem_of_getElem? hwi)
          walk_at "vc"
          refine told_one (by omega) fun H7 s7 => ⟨big (by have : (Str.ofString ",0").length = 2 := rfl; omega), told_two' (big (by have : (Str.ofString ",0").length = 2 := rfl; omega)) (by rw [strLen_append]; have : (Str.ofString ",0").length = 2 := rfl; omega) fun H8 s8 => told_no (parsed2_none wf) (by omega) fun H9 s9 => ?_⟩
          exact ((s6.trans s7).trans s8).trans s9
      · rintro σ H6 ⟨o13, rfl, s6⟩
        show N _ _
        have u8 := u7.same s6
        have el := s6 _ _ el
        clear u7 s6 wok
        subst hN
        refine seq_by fun N hN => ?_
        walk_at "vc"
        refine ⟨by decide, fun p1 hp1 => ⟨by decide, fun p2 hp2 => ?_⟩⟩
        have s1 := same_upd (o := .lst [.str "1"]) hp1
        have e1 : upd H6 p1 (.lst [.str "1"]) p1 = some (.lst [.str "1"]) := upd_same
        generalize upd H6 p1 (.lst [.str "1"]) = G1 at *
        have s2 := same_upd (o := .tup [.str "1", .str "2"]) hp2
        have e2 : upd G1 p2 (.tup [.str "1", .str "2"]) p2 = some (.tup [.str "1", .str "2"]) := upd_same
        generalize upd G1 p2 (.tup [.str "1", .str "2"]) = G2 at *
        simp only [tDisp, tPairs, tC]
        refine fun p3 hp3 => ⟨upd_same, [(.inr "1", .int 2)], rfl, by decide, ?_⟩
        have s3 := same_upd2 (o := .dK []) (o' := .dK (mergeK [] [(.inr "1", .int 2)])) hp3
        have e3 : upd (upd G2 p3 (.dK [])) p3 (.dK (mergeK [] [(.inr "1", .int 2)])) p3 = some (.dK (mergeK [] [(.inr "1", .int 2)])) := upd_same
        generalize upd (upd G2 p3 (.dK [])) p3 (.dK (mergeK [] [(.inr "1", .int 2)])) = G3 at *
        refine ⟨by decide, fun p4 hp4 => ?_⟩
        have s4 := same_upd (o := .lst [.non, .int 5, .ref p1, .ref p2, .bl true, .ref p3]) hp4
        have S3 := (s1.trans s2).trans s3
        obtain ⟨c8, y8, e8u⟩ := (u8.same S3).at
        have u9 := (u8.same S3).same s4
        obtain ⟨c9, y9, e9u⟩ := u9.at
        refine ⟨u, p4, _, 777000, rfl, (ne_of_none e8u hp4).symm, upd_same, by simp, by simp, u9.mono (by omega), fun H7 bad b7 u10 hv => ?_⟩
        have hbad : ∃ U, TyN K H7 bad U ∧ U ≠ "str" := by
          simp only [List.mem_cons, List.not_mem_nil, or_false] at hv
          rcases hv with rfl | rfl | rfl | rfl | rfl | rfl
          · exact ⟨_, .non, by decide⟩
          · exact ⟨_, .int 5, by decide⟩
          · exact ⟨_, .lst (b7.lst e9u (by intro z; cases z) (sl_of (s4 _ _ (s3 _ _ (s2 _ _ e1))))), by decide⟩
          · exact ⟨_, .tup (b7.tup e9u (st_of (s4 _ _ (s3 _ _ e2)))), by decide⟩
          · exact ⟨_, .bl true, by decide⟩
          · exact ⟨_, .dict (b7.1 _ (ne_of (s4 _ _ e3) e9u (by intro z; cases z)) _ (s4 _ _ e3)), by decide⟩
        obtain ⟨U, hU, hU2⟩ := hbad
        have el : SqL K H7 l (ws.map V.str) := b7.lst e9u strs_ne (sl_of (s4 _ _ (S3 _ _ el)))
        clear hv b7 u9 e9u e8u u8 S3 s1 s2 s3 s4 e1 e2 e3 hp1 hp2 hp3 hp4
        subst hN
        refine seq_by fun N hN => ?_
        walk_at "vc"
        refine told_odd hU hU2 fun H8 s8 => told_odd (hU.same s8) hU2 fun H9 s9 => ?_
        have a5 : atI (ws.map V.str) 5 = some (.str (Str.ofString "00")) := by
          show atI _ ((5 : Nat) : Int) = _
          exact atI_nat (by rw [List.getElem?_map, w5]; rfl)
        have s89 := s8.trans s9
        refine ixL (s89.seq el) a5 ⟨_, rfl, by decide, told_no bent_zero (by decide) fun H10 s10 => ?_⟩
        have u11 := u10.same (s89.trans s10)
        clear a5 el hU hU2 u10 s89 s8 s9 s10 w5
        subst hN
        refine seq_by fun N hN => ?_
        walk_at "vc"
        refine ⟨by decide, fun p1 hp1 => ?_⟩
        have s1 := same_upd (o := .tup [.int 2, .int 4]) hp1
        have e1 : upd H10 p1 (.tup [.int 2, .int 4]) p1 = some (.tup [.int 2, .int 4]) := upd_same
        generalize upd H10 p1 (.tup [.int 2, .int 4]) = G1 at *
        refine ⟨by decide, fun p2 hp2 => ?_⟩
        have s2 := same_upd (o := .lst [.int 1]) hp2
        have e2 : upd G1 p2 (.lst [.int 1]) p2 = some (.lst [.int 1]) := upd_same
        generalize upd G1 p2 (.lst [.int 1]) = G2 at *
        refine ⟨by decide, fun p3 hp3 => ?_⟩
        have s3 := same_upd (o := .tup [.int 1, .int 0]) hp3
        have e3 : upd G2 p3 (.tup [.int 1, .int 0]) p3 = some (.tup [.int 1, .int 0]) := upd_same
        generalize upd G2 p3 (.tup [.int 1, .int 0]) = G3 at *
        refine ⟨by decide, fun p4 hp4 => ?_⟩
        have s4 := same_upd (o := .lst [.non, .str "1", .ref p1, .bl true, .ref p2, .ref p3]) hp4
        have e4 : upd G3 p4 (.lst [.non, .str "1", .ref p1, .bl true, .ref p2, .ref p3]) p4 = some (.lst [.non, .str "1", .ref p1, .bl true, .ref p2, .ref p3]) := upd_same
        generalize upd G3 p4 (.lst [.non, .str "1", .ref p1, .bl true, .ref p2, .ref p3]) = G4 at *
        have S3 := (s1.trans s2).trans s3
        obtain ⟨c8, y8, e8u⟩ := (u11.same S3).at
        have u12 := (u11.same S3).same s4
        obtain ⟨c9, y9, e9u⟩ := u12.at
        refine ⟨u, p4, _, 776000, rfl, (ne_of_none e8u hp4).symm, e4, by simp, by simp, u12.mono (by omega), fun H7 odd b7 u13 hv => ?_⟩
        have t1 : SqT K H7 p1 [.int 2, .int 4] := b7.tup e9u (st_of (s4 _ _ (s3 _ _ (s2 _ _ e1))))
        have l2 : SqL K H7 p2 [.int 1] := b7.lst e9u (by intro z; cases z) (sl_of (s4 _ _ (s3 _ _ e2)))
        have t3 : SqT K H7 p3 [.int 1, .int 0] := b7.tup e9u (st_of (s4 _ _ e3))
        clear b7 u12 e9u e8u S3 s1 s2 s3 s4 e1 e2 e3 e4 hp1 hp2 hp3 hp4 u11
        refine ⟨by decide, fun q1 hq1 => ?_⟩
        have s1 := same_upd (o := .tup [.int 1]) hq1
        have e1 : upd H7 q1 (.tup [.int 1]) q1 = some (.tup [.int 1]) := upd_same
        generalize upd H7 q1 (.tup [.int 1]) = F1 at *
        refine ⟨by decide, fun q2 hq2 => ?_⟩
        have s2 := same_upd (o := .tup [.int 1, .int 2, .int 3]) hq2
        have e2 : upd F1 q2 (.tup [.int 1, .int 2, .int 3]) q2 = some (.tup [.int 1, .int 2, .int 3]) := upd_same
        generalize upd F1 q2 (.tup [.int 1, .int 2, .int 3]) = F2 at *
        refine ⟨by decide, fun q3 hq3 => ?_⟩
        have s3 := same_upd (o := .tup [.int 2, .int 4]) hq3
        have e3 : upd F2 q3 (.tup [.int 2, .int 4]) q3 = some (.tup [.int 2, .int 4]) := upd_same
        generalize upd F2 q3 (.tup [.int 2, .int 4]) = F3 at *
        refine ⟨by decide, fun q4 hq4 => ?_⟩
        have s4 := same_upd (o := .tup [.ref q3, .int 1]) hq4
        have e4 : upd F3 q4 (.tup [.ref q3, .int 1]) q4 = some (.tup [.ref q3, .int 1]) := upd_same
        generalize upd F3 q4 (.tup [.ref q3, .int 1]) = F4 at *
        refine ⟨by decide, fun q5 hq5 => ?_⟩
        have s5 := same_upd (o := .tup [.bl true, .int 0]) hq5
        have e5 : upd F4 q5 (.tup [.bl true, .int 0]) q5 = some (.tup [.bl true, .int 0]) := upd_same
        generalize upd F4 q5 (.tup [.bl true, .int 0]) = F5 at *
        refine ⟨by decide, fun q6 hq6 => ?_⟩
        have s6 := same_upd (o := .lst [.non, .str "1,2", .int 3, .ref q1, .ref q2, .ref q4, .ref q5]) hq6
        have e6 : upd F5 q6 (.lst [.non, .str "1,2", .int 3, .ref q1, .ref q2, .ref q4, .ref q5]) q6 = some (.lst [.non, .str "1,2", .int 3, .ref q1, .ref q2, .ref q4, .ref q5]) := upd_same
        generalize upd F5 q6 (.lst [.non, .str "1,2", .int 3, .ref q1, .ref q2, .ref q4, .ref q5]) = F6 at *
        have S5 := (((s1.trans s2).trans s3).trans s4).trans s5
        have S6 := S5.trans s6
        obtain ⟨c8, y8, e8u⟩ := (u13.same S5).at
        have u14 := (u13.same S5).same s6
        obtain ⟨c9, y9, e9u⟩ := u14.at
        refine ⟨u, q6, _, 775000, rfl, (ne_of_none e8u hq6).symm, e6, by simp, by simp, u14.mono (by omega), fun H8 far b8 u15 hf => ?_⟩
        have hodd : Bad K H8 odd := by
          simp only [List.mem_cons, List.not_mem_nil, or_false] at hv
          rcases hv with rfl | rfl | rfl | rfl | rfl | rfl
          · exact .scal .non (by decide) (by decide) (by decide)
          · exact .scal (.str _) (by decide) (by decide) (by decide)
          · exact .low (.inr (b8.tup e9u (same_tup S6 t1))) (by rintro ⟨_, z⟩; exact absurd z (by decide))
          · exact .scal (.bl true) (by decide) (by decide) (by decide)
          · exact .len (.inl (b8.lst e9u (by intro z; cases z) (S6.seq l2))) (by decide)
          · exact .low (.inr (b8.tup e9u (same_tup S6 t3))) (by rintro ⟨z, _⟩; exact absurd z (by decide))
        have T5 := s6
        have T4 := s5.trans T5
        have T3 := s4.trans T4
        have T2 := s3.trans T3
        have T1 := s2.trans T2
        have hfar : BadP K H8 far := by
          simp only [List.mem_cons, List.not_mem_nil, or_false] at hf
          rcases hf with rfl | rfl | rfl | rfl | rfl | rfl | rfl
          · exact .scal .non (by decide) (by decide)
          · exact .scal (.str _) (by decide) (by decide)
          · exact .scal (.int 3) (by decide) (by decide)
          · exact .len (.inr (b8.tup e9u (st_of (T1 _ _ e1)))) (by decide)
          · exact .len (.inr (b8.tup e9u (st_of (T2 _ _ e2)))) (by decide)
          · exact .fst (.inr (b8.tup e9u (st_of (T4 _ _ e4)))) (.low (.inr (b8.tup e9u (st_of (T3 _ _ e3)))) (by rintro ⟨_, z⟩; exact absurd z (by decide)))
          · exact .fst (.inr (b8.tup e9u (st_of (T5 _ _ e5)))) (.scal (.bl true) (by decide) (by decide) (by decide))
        clear hv hf b8 u14 e9u e8u S5 S6 T1 T2 T3 T4 T5 t1 l2 t3 s1 s2 s3 s4 s5 s6 e1 e2 e3 e4 e5 e6 hq1 hq2 hq3 hq4 hq5 hq6 u13 u15
        subst hN
        walk_at "vc"
        refine ⟨true, _, rfl, .inl ⟨rfl, hodd⟩, fun H9 r s9 hr9 => ⟨by decide, fun pa hpa => ?_⟩⟩
        have sa := same_upd (o := .tup [.bl true, .str "value"]) hpa
        refine ⟨.tuple [.bool true, .str "value"], .tuple [.bool true, .str "value"], .tup (same_tup sa hr9) (.cons (.bl true) (.cons (.str _) .nil)), .tup (st_of upd_same) (.cons (.bl true) (.cons (.str _) .nil)), by decide +kernel, by decide +kernel, _, rfl, ?_⟩
        rw [if_pos (by decide +kernel)]
        refine ⟨false, _, rfl, .inr ⟨rfl, hfar.same (s9.trans sa)⟩, fun H10 r2 s10 hr10 => ⟨by decide, fun pb hpb => ?_⟩⟩
        have sb := same_upd (o := .tup [.bl false, .str "value"]) hpb
        refine ⟨.tuple [.bool false, .str "value"], .tuple [.bool false, .str "value"], .tup (same_tup sb hr10) (.cons (.bl false) (.cons (.str _) .nil)), .tup (st_of upd_same) (.cons (.bl false) (.cons (.str _) .nil)), by decide +kernel, by decide +kernel, ?_⟩
        exact (show PyData.eqv (.tuple [.bool false, .str "value"]) (.tuple [.bool false, .str "value"]) = true by decide +kernel) ▸ q _
end
end Odd
namespace Odd
open PySem PySem.Spec PyProof.Rows L2
theorem exm_self {K : PySem.W.Frag} {S : Addr} (h1 : PySem.W.subIn K (.ref S) (.type "BaseException") = some true) (h2 : PySem.W.isClsIn K S = true) (h3 : PySem.W.typeIn K (.ref S) = some (.type "type")) (h4 : PySem.W.subIn K (.ref S) (.ref S) = some true) :
    PySem.W.exmOne K (.ref S) (.ref S) = some true := by
  have e1 : (PySem.W.subIn K (.ref S) (.type "BaseException") == some true) = true := by rw [h1] <;> rfl
  have e2 : ((PySem.W.clsIn K S).isSome && PySem.W.typeIn K (.ref S) == some (.type "type")) = true := by
    have h2' : (PySem.W.clsIn K S).isSome = true := h2
    rw [h2', h3] <;> rfl
  show (if (PySem.W.subIn K (.ref S) (.type "BaseException") == some true) = true then (if ((PySem.W.clsIn K S).isSome && PySem.W.typeIn K (.ref S) == some (.type "type")) = true then PySem.W.subIn K (.ref S) (.ref S) else none) else none) = some true
  rw [if_pos e1, if_pos e2]
  exact h4
theorem int_mk {K : PySem.W.Frag} {h : Heap} {mg : Str → Option Value} {n : Str} {i : Int} {t : Tok} (X : K.In h) (G : h.Ns mainGlobals mg) (e : PySem.W.nsIn K mainGlobals n = some (some (.int i t))) : ∃ t, mg n = some (.int i t) := ⟨t, PySem.W.mg_of X G e⟩
theorem exm_of {K : PySem.W.Frag} {S C : Addr} {b : Bool} (h1 : PySem.W.subIn K (.ref C) (.type "BaseException") = some true) (h2 : PySem.W.isClsIn K C = true) (h3 : PySem.W.typeIn K (.ref C) = some (.type "type")) (h4 : PySem.W.subIn K (.ref S) (.ref C) = some b) :
    PySem.W.exmOne K (.ref S) (.ref C) = some b := by
  have e1 : (PySem.W.subIn K (.ref C) (.type "BaseException") == some true) = true := by rw [h1] <;> rfl
  have e2 : ((PySem.W.clsIn K C).isSome && PySem.W.typeIn K (.ref C) == some (.type "type")) = true := by
    have h2' : (PySem.W.clsIn K C).isSome = true := h2
    rw [h2', h3] <;> rfl
  show (if (PySem.W.subIn K (.ref C) (.type "BaseException") == some true) = true then (if ((PySem.W.clsIn K C).isSome && PySem.W.typeIn K (.ref C) == some (.type "type")) = true then PySem.W.subIn K (.ref S) (.ref C) else none) else none) = some b
  rw [if_pos e1, if_pos e2]
  exact h4
theorem low_two4 {K : PySem.W.Frag} {h : Heap} {mg : Str → Option Value} {nxX qnX nxY qnY : Str} (X : K.In h) (G : h.Ns mainGlobals mg)
    {CX f1X NX COX : Addr} {nmX qX : Str} {bsX : List Value} {snX : List Str} {subX : List Value} {abX : Bool} {colX : Option Bool} {ddX : Option Addr} {m0X m1X m2X m3X m5X : Option Value} {p1X p2X q1X q2X q3X q4X : Pos}
    {od1X an1X : Option Addr} {sl1X : Array (Option Value)} {oc1X dc1X pm1X cd1X ct1X : Value}
    (aCX : PySem.W.nsIn K mainGlobals nxX = some (some (.ref CX)))
    (xLX : K.lookup CX = some (excClassObj nmX qX CX NX bsX [.ref COX, .type "ValueError", .type "Exception", .type "BaseException", .type "object"] true snX subX abX colX ddX m0X m1X m2X m3X m5X "ValueError.__new__"))
    (saX : PySem.W.findIn K (.ref CX) "__setattr__" = some (some (.builtin "object.__setattr__"))) (gaX : PySem.W.findIn K (.ref CX) "__getattribute__" = some (some (.builtin "BaseException.__getattribute__"))) (ggX : PySem.W.findIn K (.ref CX) "__getattr__" = some none) (nbX : PySem.W.findIn K (.ref CX) "part" = some none)
    (a1X : PySem.W.findIn K (.ref CX) "__init__" = some (some (.ref f1X))) (t1X : PySem.W.typeIn K (.ref f1X) = some (.type "function"))
    (l1X : K.lookup f1X = some ⟨oc1X, od1X, .func (PySem.W.fnOf "__init__" qnX (PySem.LowX.iA p1X p2X) (PySem.LowX.iB q1X q2X q3X q4X) PySem.LowX.iS .none .none dc1X pm1X an1X cd1X ct1X), sl1X⟩) (c1X : PySem.W.codeIn K cd1X qnX = true)
    (kCX : PySem.W.keepIn K (.ref CX) = true) (eCX : PySem.W.subIn K (.ref CX) (.type "BaseException") = some true) (tCX : PySem.W.typeIn K (.ref CX) = some (.type "type")) (hCX : PySem.W.hasDictIn K CX = true) (iCX : PySem.W.isClsIn K CX = true) (sCX : PySem.W.subIn K (.ref CX) (.ref CX) = some true)
    {CY f1Y NY COY : Addr} {nmY qY : Str} {bsY : List Value} {snY : List Str} {subY : List Value} {abY : Bool} {colY : Option Bool} {ddY : Option Addr} {m0Y m1Y m2Y m3Y m5Y : Option Value} {p1Y p2Y q1Y q2Y q3Y q4Y : Pos}
    {od1Y an1Y : Option Addr} {sl1Y : Array (Option Value)} {oc1Y dc1Y pm1Y cd1Y ct1Y : Value}
    (aCY : PySem.W.nsIn K mainGlobals nxY = some (some (.ref CY)))
    (xLY : K.lookup CY = some (excClassObj nmY qY CY NY bsY [.ref COY, .type "ValueError", .type "Exception", .type "BaseException", .type "object"] true snY subY abY colY ddY m0Y m1Y m2Y m3Y m5Y "ValueError.__new__"))
    (saY : PySem.W.findIn K (.ref CY) "__setattr__" = some (some (.builtin "object.__setattr__"))) (gaY : PySem.W.findIn K (.ref CY) "__getattribute__" = some (some (.builtin "BaseException.__getattribute__"))) (ggY : PySem.W.findIn K (.ref CY) "__getattr__" = some none) (nbY : PySem.W.findIn K (.ref CY) "part" = some none)
    (a1Y : PySem.W.findIn K (.ref CY) "__init__" = some (some (.ref f1Y))) (t1Y : PySem.W.typeIn K (.ref f1Y) = some (.type "function"))
    (l1Y : K.lookup f1Y = some ⟨oc1Y, od1Y, .func (PySem.W.fnOf "__init__" qnY (PySem.LowX.iA p1Y p2Y) (PySem.LowX.iB q1Y q2Y q3Y q4Y) PySem.LowX.iS .none .none dc1Y pm1Y an1Y cd1Y ct1Y), sl1Y⟩) (c1Y : PySem.W.codeIn K cd1Y qnY = true)
    (kCY : PySem.W.keepIn K (.ref CY) = true) (eCY : PySem.W.subIn K (.ref CY) (.type "BaseException") = some true) (tCY : PySem.W.typeIn K (.ref CY) = some (.type "type")) (hCY : PySem.W.hasDictIn K CY = true) (iCY : PySem.W.isClsIn K CY = true) (sCY : PySem.W.subIn K (.ref CY) (.ref CY) = some true)
    (sXY : PySem.W.subIn K (.ref CX) (.ref CY) = some false) (sYX : PySem.W.subIn K (.ref CY) (.ref CX) = some false)
    (haX : PySem.W.findIn K (.ref CX) "__class__" = some (some (.builtin "object.__class__"))) (haY : PySem.W.findIn K (.ref CY) "__class__" = some (some (.builtin "object.__class__")))
    (hn : PySem.W.specialIn K (.builtin "object.__class__") "__get__" = some (some (.builtin "getset_descriptor.__get__"))) (ht : PySem.W.takesIn K (.builtin "object.__class__") = some true)
    (hmX : PySem.W.mroIn K CX (.type "object") = some true) (hmY : PySem.W.mroIn K CY (.type "object") = some true)
    (kXX : PySem.W.kitOne K (.ref CX) (.ref CX) = some true) (kYX : PySem.W.kitOne K (.ref CY) (.ref CX) = some false) :
    ∃ C fI C' fI', PySem.LowX.LowTxt nxX qnX K mg C fI ∧ PySem.LowX.LowTxt nxY qnY K mg C' fI' ∧ ExcC K C ∧ ExcC K C' ∧ PySem.W.kitOne K (.ref C) (.ref C) = some true ∧ PySem.W.kitOne K (.ref C') (.ref C) = some false ∧
      PySem.W.exmAny K (.ref C) [.ref C, .ref C'] = some true ∧ PySem.W.exmAny K (.ref C') [.ref C, .ref C'] = some true := by
  have LX : PySem.LowX.LowTxt nxX qnX K mg CX f1X := { gC := PySem.W.mg_of X G aCX, cls := ⟨nmX, qX, NX, bsX, _, snX, subX, abX, colX, ddX, m0X, m1X, m2X, m3X, m5X, xLX, (show PySem.HandSPX.refsVE [.type "ValueError", .type "Exception", .type "BaseException", .type "object"] = true by decide +kernel)⟩, sa := saX, ga := gaX, gg := ggX, noN := nbX, iC := a1X, tC := t1X, kC := kCX, exC := eCX, tyC := tCX, hdC := hCX, te := exm_self eCX iCX tCX sCX, fn := ⟨_, _, _, _, _, _, _, _, _, _, _, _, _, _, l1X, c1X⟩ }
  have LY : PySem.LowX.LowTxt nxY qnY K mg CY f1Y := { gC := PySem.W.mg_of X G aCY, cls := ⟨nmY, qY, NY, bsY, _, snY, subY, abY, colY, ddY, m0Y, m1Y, m2Y, m3Y, m5Y, xLY, (show PySem.HandSPX.refsVE [.type "ValueError", .type "Exception", .type "BaseException", .type "object"] = true by decide +kernel)⟩, sa := saY, ga := gaY, gg := ggY, noN := nbY, iC := a1Y, tC := t1Y, kC := kCY, exC := eCY, tyC := tCY, hdC := hCY, te := exm_self eCY iCY tCY sCY, fn := ⟨_, _, _, _, _, _, _, _, _, _, _, _, _, _, l1Y, c1Y⟩ }
  have e1 := exm_of eCY iCY tCY sXY
  have e2 := exm_of eCX iCX tCX sYX
  refine ⟨CX, f1X, CY, f1Y, LX, LY, ⟨LX.ga, LX.gg, LX.exC, LX.hdC, haX, hn, ht, hmX⟩, ⟨LY.ga, LY.gg, LY.exC, LY.hdC, haY, hn, ht, hmY⟩, kXX, kYX, ?_, ?_⟩
  · simp only [PySem.W.exmAny, LX.te, e1]
    rfl
  · simp only [PySem.W.exmAny, LY.te, e2]
    rfl
theorem def_mk {K : PySem.W.Frag} {h : Heap} {mg : Str → Option Value} {x : Str} {st : Stmt} {ps : List Str} (X : K.In h) (G : h.Ns mainGlobals mg)
    (b : ∀ (kV doc pm : Value) (an : Option Addr) (cdv ct : Value) (us : List Value), us.length = ps.length → bindArgs (PySem.W.fnOf x x (defArgs st) (defBody st) (defScope st) .none kV doc pm an cdv ct) ⟨us, []⟩ = pure (ps.zip us))
    {f : Addr} {od an : Option Addr} {sl : Array (Option Value)} {oc kV dc pm cd ct : Value}
    (a : PySem.W.nsIn K mainGlobals x = some (some (.ref f))) (l : K.lookup f = some ⟨oc, od, .func (PySem.W.fnOf x x (defArgs st) (defBody st) (defScope st) .none kV dc pm an cd ct), sl⟩) (c : PySem.W.codeIn K cd x = true) (k : PySem.W.keepIn K (.ref f) = true) :
    ∃ f fd, DefOk K mg x st f fd ps := ⟨f, _, PySem.W.mg_of X G a, fun_mk l c k, (fun_mk l c k).binds b⟩
theorem low_mk {K : PySem.W.Frag} {h : Heap} {mg : Str → Option Value} {nx qn : Str} (X : K.In h) (G : h.Ns mainGlobals mg)
    {C f1 N CO : Addr} {nm q : Str} {bs : List Value} {sn : List Str} {sub : List Value} {ab : Bool} {col : Option Bool} {dd : Option Addr} {m0 m1 m2 m3 m5 : Option Value} {p1 p2 q1 q2 q3 q4 : Pos}
    {od1 an1 : Option Addr} {sl1 : Array (Option Value)} {oc1 dc1 pm1 cd1 ct1 : Value}
    (aC : PySem.W.nsIn K mainGlobals nx = some (some (.ref C)))
    (xL : K.lookup C = some (excClassObj nm q C N bs [.ref CO, .type "ValueError", .type "Exception", .type "BaseException", .type "object"] true sn sub ab col dd m0 m1 m2 m3 m5 "ValueError.__new__"))
    (sa : PySem.W.findIn K (.ref C) "__setattr__" = some (some (.builtin "object.__setattr__"))) (ga : PySem.W.findIn K (.ref C) "__getattribute__" = some (some (.builtin "BaseException.__getattribute__"))) (gg : PySem.W.findIn K (.ref C) "__getattr__" = some none) (nb : PySem.W.findIn K (.ref C) "part" = some none)
    (a1 : PySem.W.findIn K (.ref C) "__init__" = some (some (.ref f1))) (t1 : PySem.W.typeIn K (.ref f1) = some (.type "function"))
    (l1 : K.lookup f1 = some ⟨oc1, od1, .func (PySem.W.fnOf "__init__" qn (PySem.LowX.iA p1 p2) (PySem.LowX.iB q1 q2 q3 q4) PySem.LowX.iS .none .none dc1 pm1 an1 cd1 ct1), sl1⟩) (c1 : PySem.W.codeIn K cd1 qn = true)
    (kC : PySem.W.keepIn K (.ref C) = true) (eC : PySem.W.subIn K (.ref C) (.type "BaseException") = some true) (tC : PySem.W.typeIn K (.ref C) = some (.type "type")) (hC : PySem.W.hasDictIn K C = true) (iC : PySem.W.isClsIn K C = true) (sC : PySem.W.subIn K (.ref C) (.ref C) = some true) :
    ∃ C fI, PySem.LowX.LowTxt nx qn K mg C fI :=
  ⟨C, f1, { gC := PySem.W.mg_of X G aC, cls := ⟨nm, q, N, bs, _, sn, sub, ab, col, dd, m0, m1, m2, m3, m5, xL, (show PySem.HandSPX.refsVE [.type "ValueError", .type "Exception", .type "BaseException", .type "object"] = true by decide +kernel)⟩, sa := sa, ga := ga, gg := gg, noN := nb, iC := a1, tC := t1, kC := kC, exC := eC, tyC := tC, hdC := hC, te := exm_self eC iC tC sC, fn := ⟨_, _, _, _, _, _, _, _, _, _, _, _, _, _, l1, c1⟩ }⟩
theorem bi_pair_of : ∀ (kV doc pm : Value) (an : Option Addr) (cdv ct : Value) (us : List Value), us.length = (["value"] : List Str).length → bindArgs (PySem.W.fnOf "pair_of" "pair_of" (defArgs s_pair_of) (defBody s_pair_of) (defScope s_pair_of) .none kV doc pm an cdv ct) ⟨us, []⟩ = pure ((["value"] : List Str).zip us) := fun _ _ _ _ _ _ us hl => match us, hl with | [_], _ => rfl
theorem bi_is_integer : ∀ (kV doc pm : Value) (an : Option Addr) (cdv ct : Value) (us : List Value), us.length = (["value"] : List Str).length → bindArgs (PySem.W.fnOf "is_integer" "is_integer" (defArgs s_is_integer) (defBody s_is_integer) (defScope s_is_integer) .none kV doc pm an cdv ct) ⟨us, []⟩ = pure ((["value"] : List Str).zip us) := fun _ _ _ _ _ _ us hl => match us, hl with | [_], _ => rfl
theorem bi_is_within : ∀ (kV doc pm : Value) (an : Option Addr) (cdv ct : Value) (us : List Value), us.length = (["value", "least", "most"] : List Str).length → bindArgs (PySem.W.fnOf "is_within" "is_within" (defArgs s_is_within) (defBody s_is_within) (defScope s_is_within) .none kV doc pm an cdv ct) ⟨us, []⟩ = pure ((["value", "least", "most"] : List Str).zip us) := fun _ _ _ _ _ _ us hl => match us, hl with | [_, _, _], _ => rfl
theorem bi_is_row : ∀ (kV doc pm : Value) (an : Option Addr) (cdv ct : Value) (us : List Value), us.length = (["value"] : List Str).length → bindArgs (PySem.W.fnOf "is_row" "is_row" (defArgs s_is_row) (defBody s_is_row) (defScope s_is_row) .none kV doc pm an cdv ct) ⟨us, []⟩ = pure ((["value"] : List Str).zip us) := fun _ _ _ _ _ _ us hl => match us, hl with | [_], _ => rfl
theorem bi_is_pair : ∀ (kV doc pm : Value) (an : Option Addr) (cdv ct : Value) (us : List Value), us.length = (["value"] : List Str).length → bindArgs (PySem.W.fnOf "is_pair" "is_pair" (defArgs s_is_pair) (defBody s_is_pair) (defScope s_is_pair) .none kV doc pm an cdv ct) ⟨us, []⟩ = pure ((["value"] : List Str).zip us) := fun _ _ _ _ _ _ us hl => match us, hl with | [_], _ => rfl
theorem bi_is_number : ∀ (kV doc pm : Value) (an : Option Addr) (cdv ct : Value) (us : List Value), us.length = (["value"] : List Str).length → bindArgs (PySem.W.fnOf "is_number" "is_number" (defArgs s_is_number) (defBody s_is_number) (defScope s_is_number) .none kV doc pm an cdv ct) ⟨us, []⟩ = pure ((["value"] : List Str).zip us) := fun _ _ _ _ _ _ us hl => match us, hl with | [_], _ => rfl
theorem bi_is_point : ∀ (kV doc pm : Value) (an : Option Addr) (cdv ct : Value) (us : List Value), us.length = (["value"] : List Str).length → bindArgs (PySem.W.fnOf "is_point" "is_point" (defArgs s_is_point) (defBody s_is_point) (defScope s_is_point) .none kV doc pm an cdv ct) ⟨us, []⟩ = pure ((["value"] : List Str).zip us) := fun _ _ _ _ _ _ us hl => match us, hl with | [_], _ => rfl
theorem bi_point_of : ∀ (kV doc pm : Value) (an : Option Addr) (cdv ct : Value) (us : List Value), us.length = (["value"] : List Str).length → bindArgs (PySem.W.fnOf "point_of" "point_of" (defArgs s_point_of) (defBody s_point_of) (defScope s_point_of) .none kV doc pm an cdv ct) ⟨us, []⟩ = pure ((["value"] : List Str).zip us) := fun _ _ _ _ _ _ us hl => match us, hl with | [_], _ => rfl
theorem bi_number_in : ∀ (kV doc pm : Value) (an : Option Addr) (cdv ct : Value) (us : List Value), us.length = (["value", "part"] : List Str).length → bindArgs (PySem.W.fnOf "number_in" "number_in" (defArgs s_number_in) (defBody s_number_in) (defScope s_number_in) .none kV doc pm an cdv ct) ⟨us, []⟩ = pure ((["value", "part"] : List Str).zip us) := fun _ _ _ _ _ _ us hl => match us, hl with | [_, _], _ => rfl
theorem bi_point_in : ∀ (kV doc pm : Value) (an : Option Addr) (cdv ct : Value) (us : List Value), us.length = (["value", "part"] : List Str).length → bindArgs (PySem.W.fnOf "point_in" "point_in" (defArgs s_point_in) (defBody s_point_in) (defScope s_point_in) .none kV doc pm an cdv ct) ⟨us, []⟩ = pure ((["value", "part"] : List Str).zip us) := fun _ _ _ _ _ _ us hl => match us, hl with | [_, _], _ => rfl
theorem bi_number_text : ∀ (kV doc pm : Value) (an : Option Addr) (cdv ct : Value) (us : List Value), us.length = (["value"] : List Str).length → bindArgs (PySem.W.fnOf "number_text" "number_text" (defArgs s_number_text) (defBody s_number_text) (defScope s_number_text) .none kV doc pm an cdv ct) ⟨us, []⟩ = pure ((["value"] : List Str).zip us) := fun _ _ _ _ _ _ us hl => match us, hl with | [_], _ => rfl
theorem bi_is_count : ∀ (kV doc pm : Value) (an : Option Addr) (cdv ct : Value) (us : List Value), us.length = (["text"] : List Str).length → bindArgs (PySem.W.fnOf "is_count" "is_count" (defArgs s_is_count) (defBody s_is_count) (defScope s_is_count) .none kV doc pm an cdv ct) ⟨us, []⟩ = pure ((["text"] : List Str).zip us) := fun _ _ _ _ _ _ us hl => match us, hl with | [_], _ => rfl
theorem bi_parsed_number : ∀ (kV doc pm : Value) (an : Option Addr) (cdv ct : Value) (us : List Value), us.length = (["text"] : List Str).length → bindArgs (PySem.W.fnOf "parsed_number" "parsed_number" (defArgs s_parsed_number) (defBody s_parsed_number) (defScope s_parsed_number) .none kV doc pm an cdv ct) ⟨us, []⟩ = pure ((["text"] : List Str).zip us) := fun _ _ _ _ _ _ us hl => match us, hl with | [_], _ => rfl
theorem bi_read_number : ∀ (kV doc pm : Value) (an : Option Addr) (cdv ct : Value) (us : List Value), us.length = (["text"] : List Str).length → bindArgs (PySem.W.fnOf "read_number" "read_number" (defArgs s_read_number) (defBody s_read_number) (defScope s_read_number) .none kV doc pm an cdv ct) ⟨us, []⟩ = pure ((["text"] : List Str).zip us) := fun _ _ _ _ _ _ us hl => match us, hl with | [_], _ => rfl
theorem bi_point_text : ∀ (kV doc pm : Value) (an : Option Addr) (cdv ct : Value) (us : List Value), us.length = (["value"] : List Str).length → bindArgs (PySem.W.fnOf "point_text" "point_text" (defArgs s_point_text) (defBody s_point_text) (defScope s_point_text) .none kV doc pm an cdv ct) ⟨us, []⟩ = pure ((["value"] : List Str).zip us) := fun _ _ _ _ _ _ us hl => match us, hl with | [_], _ => rfl
theorem bi_parsed_point : ∀ (kV doc pm : Value) (an : Option Addr) (cdv ct : Value) (us : List Value), us.length = (["text"] : List Str).length → bindArgs (PySem.W.fnOf "parsed_point" "parsed_point" (defArgs s_parsed_point) (defBody s_parsed_point) (defScope s_parsed_point) .none kV doc pm an cdv ct) ⟨us, []⟩ = pure ((["text"] : List Str).zip us) := fun _ _ _ _ _ _ us hl => match us, hl with | [_], _ => rfl
theorem bi_read_point : ∀ (kV doc pm : Value) (an : Option Addr) (cdv ct : Value) (us : List Value), us.length = (["text"] : List Str).length → bindArgs (PySem.W.fnOf "read_point" "read_point" (defArgs s_read_point) (defBody s_read_point) (defScope s_read_point) .none kV doc pm an cdv ct) ⟨us, []⟩ = pure ((["text"] : List Str).zip us) := fun _ _ _ _ _ _ us hl => match us, hl with | [_], _ => rfl
theorem bi__law_crate : ∀ (kV doc pm : Value) (an : Option Addr) (cdv ct : Value) (us : List Value), us.length = (["script"] : List Str).length → bindArgs (PySem.W.fnOf "_law_crate" "_law_crate" (defArgs s__law_crate) (defBody s__law_crate) (defScope s__law_crate) .none kV doc pm an cdv ct) ⟨us, []⟩ = pure ((["script"] : List Str).zip us) := fun _ _ _ _ _ _ us hl => match us, hl with | [_], _ => rfl
theorem bi__law_pick : ∀ (kV doc pm : Value) (an : Option Addr) (cdv ct : Value) (us : List Value), us.length = (["crate", "many"] : List Str).length → bindArgs (PySem.W.fnOf "_law_pick" "_law_pick" (defArgs s__law_pick) (defBody s__law_pick) (defScope s__law_pick) .none kV doc pm an cdv ct) ⟨us, []⟩ = pure ((["crate", "many"] : List Str).zip us) := fun _ _ _ _ _ _ us hl => match us, hl with | [_, _], _ => rfl
theorem bi__law_one_of : ∀ (kV doc pm : Value) (an : Option Addr) (cdv ct : Value) (us : List Value), us.length = (["crate", "some"] : List Str).length → bindArgs (PySem.W.fnOf "_law_one_of" "_law_one_of" (defArgs s__law_one_of) (defBody s__law_one_of) (defScope s__law_one_of) .none kV doc pm an cdv ct) ⟨us, []⟩ = pure ((["crate", "some"] : List Str).zip us) := fun _ _ _ _ _ _ us hl => match us, hl with | [_, _], _ => rfl
theorem bi__law_shared : ∀ (kV doc pm : Value) (an : Option Addr) (cdv ct : Value) (us : List Value), us.length = (["one", "other"] : List Str).length → bindArgs (PySem.W.fnOf "_law_shared" "_law_shared" (defArgs s__law_shared) (defBody s__law_shared) (defScope s__law_shared) .none kV doc pm an cdv ct) ⟨us, []⟩ = pure ((["one", "other"] : List Str).zip us) := fun _ _ _ _ _ _ us hl => match us, hl with | [_, _], _ => rfl
theorem bi__law_read : ∀ (kV doc pm : Value) (an : Option Addr) (cdv ct : Value) (us : List Value), us.length = (["text"] : List Str).length → bindArgs (PySem.W.fnOf "_law_read" "_law_read" (defArgs s__law_read) (defBody s__law_read) (defScope s__law_read) .none kV doc pm an cdv ct) ⟨us, []⟩ = pure ((["text"] : List Str).zip us) := fun _ _ _ _ _ _ us hl => match us, hl with | [_], _ => rfl
theorem bi__law_read_two : ∀ (kV doc pm : Value) (an : Option Addr) (cdv ct : Value) (us : List Value), us.length = (["text"] : List Str).length → bindArgs (PySem.W.fnOf "_law_read_two" "_law_read_two" (defArgs s__law_read_two) (defBody s__law_read_two) (defScope s__law_read_two) .none kV doc pm an cdv ct) ⟨us, []⟩ = pure ((["text"] : List Str).zip us) := fun _ _ _ _ _ _ us hl => match us, hl with | [_], _ => rfl
theorem bi__law_size : ∀ (kV doc pm : Value) (an : Option Addr) (cdv ct : Value) (us : List Value), us.length = (["crate"] : List Str).length → bindArgs (PySem.W.fnOf "_law_size" "_law_size" (defArgs s__law_size) (defBody s__law_size) (defScope s__law_size) .none kV doc pm an cdv ct) ⟨us, []⟩ = pure ((["crate"] : List Str).zip us) := fun _ _ _ _ _ _ us hl => match us, hl with | [_], _ => rfl
theorem bi__law_drawn : ∀ (kV doc pm : Value) (an : Option Addr) (cdv ct : Value) (us : List Value), us.length = (["crate"] : List Str).length → bindArgs (PySem.W.fnOf "_law_drawn" "_law_drawn" (defArgs s__law_drawn) (defBody s__law_drawn) (defScope s__law_drawn) .none kV doc pm an cdv ct) ⟨us, []⟩ = pure ((["crate"] : List Str).zip us) := fun _ _ _ _ _ _ us hl => match us, hl with | [_], _ => rfl
theorem bi__law_written : ∀ (kV doc pm : Value) (an : Option Addr) (cdv ct : Value) (us : List Value), us.length = (["pair"] : List Str).length → bindArgs (PySem.W.fnOf "_law_written" "_law_written" (defArgs s__law_written) (defBody s__law_written) (defScope s__law_written) .none kV doc pm an cdv ct) ⟨us, []⟩ = pure ((["pair"] : List Str).zip us) := fun _ _ _ _ _ _ us hl => match us, hl with | [_], _ => rfl
theorem bi__law_bent : ∀ (kV doc pm : Value) (an : Option Addr) (cdv ct : Value) (us : List Value), us.length = (["crate", "text"] : List Str).length → bindArgs (PySem.W.fnOf "_law_bent" "_law_bent" (defArgs s__law_bent) (defBody s__law_bent) (defScope s__law_bent) .none kV doc pm an cdv ct) ⟨us, []⟩ = pure ((["crate", "text"] : List Str).zip us) := fun _ _ _ _ _ _ us hl => match us, hl with | [_, _], _ => rfl
theorem bi__law_told : ∀ (kV doc pm : Value) (an : Option Addr) (cdv ct : Value) (us : List Value), us.length = (["is_number_v", "text"] : List Str).length → bindArgs (PySem.W.fnOf "_law_told" "_law_told" (defArgs s__law_told) (defBody s__law_told) (defScope s__law_told) .none kV doc pm an cdv ct) ⟨us, []⟩ = pure ((["is_number_v", "text"] : List Str).zip us) := fun _ _ _ _ _ _ us hl => match us, hl with | [_, _], _ => rfl
theorem bi__law_part : ∀ (kV doc pm : Value) (an : Option Addr) (cdv ct : Value) (us : List Value), us.length = (["is_number_v", "value"] : List Str).length → bindArgs (PySem.W.fnOf "_law_part" "_law_part" (defArgs s__law_part) (defBody s__law_part) (defScope s__law_part) .none kV doc pm an cdv ct) ⟨us, []⟩ = pure ((["is_number_v", "value"] : List Str).zip us) := fun _ _ _ _ _ _ us hl => match us, hl with | [_, _], _ => rfl
theorem bi_law : ∀ (kV doc pm : Value) (an : Option Addr) (cdv ct : Value) (us : List Value), us.length = (["script"] : List Str).length → bindArgs (PySem.W.fnOf "law" "law" (defArgs s_law) (defBody s_law) (defScope s_law) .none kV doc pm an cdv ct) ⟨us, []⟩ = pure ((["script"] : List Str).zip us) := fun _ _ _ _ _ _ us hl => match us, hl with | [_], _ => rfl
end Odd
open PySem PySem.W PyProof.Rows
set_option maxHeartbeats 0 in
theorem PySem.Challenge.cw_oddsquares_k04_texts_of_numbers_and_poin_holds : PySem.Challenge.rw_oddsquares_k04_texts_of_numbers_and_poin.Holds := by
  w_on; o_law; k_head; (case hw => w_witness2)
  k_fill
  refine Odd.walk_ofG (l := PySem.Challenge.rw_oddsquares_k04_texts_of_numbers_and_poin) (n := 63) (k := 8) (x := "script") (sp := fun w => Odd.spLaw _) rfl (by decide) rfl ⟨rfl, by decide, by decide⟩ (fun w h Y => PySem.W.kIn_of Y) ?F (fun _ _ a ns hl hS => ⟨a, ns, rfl, hS, hl, fun _ => rfl⟩)
  case F =>
    intro w mg fa h KX G hmg
    obtain ⟨f_pair_of, d_pair_of, D_pair_of⟩ : ∃ f fd, Odd.DefOk _ mg "pair_of" Odd.s_pair_of f fd _ := by
      refine' Odd.def_mk KX G Odd.bi_pair_of ?a_pair_of ?l_pair_of ?c_pair_of ?k_pair_of
      (case a_pair_of => k_is); (case l_pair_of => k_is); (case c_pair_of => k_is); (case k_pair_of => k_is)
    obtain ⟨f_is_integer, d_is_integer, D_is_integer⟩ : ∃ f fd, Odd.DefOk _ mg "is_integer" Odd.s_is_integer f fd _ := by
      refine' Odd.def_mk KX G Odd.bi_is_integer ?a_is_integer ?l_is_integer ?c_is_integer ?k_is_integer
      (case a_is_integer => k_is); (case l_is_integer => k_is); (case c_is_integer => k_is); (case k_is_integer => k_is)
    obtain ⟨f_is_within, d_is_within, D_is_within⟩ : ∃ f fd, Odd.DefOk _ mg "is_within" Odd.s_is_within f fd _ := by
      refine' Odd.def_mk KX G Odd.bi_is_within ?a_is_within ?l_is_within ?c_is_within ?k_is_within
      (case a_is_within => k_is); (case l_is_within => k_is); (case c_is_within => k_is); (case k_is_within => k_is)
    obtain ⟨f_is_row, d_is_row, D_is_row⟩ : ∃ f fd, Odd.DefOk _ mg "is_row" Odd.s_is_row f fd _ := by
      refine' Odd.def_mk KX G Odd.bi_is_row ?a_is_row ?l_is_row ?c_is_row ?k_is_row
      (case a_is_row => k_is); (case l_is_row => k_is); (case c_is_row => k_is); (case k_is_row => k_is)
    obtain ⟨f_is_pair, d_is_pair, D_is_pair⟩ : ∃ f fd, Odd.DefOk _ mg "is_pair" Odd.s_is_pair f fd _ := by
      refine' Odd.def_mk KX G Odd.bi_is_pair ?a_is_pair ?l_is_pair ?c_is_pair ?k_is_pair
      (case a_is_pair => k_is); (case l_is_pair => k_is); (case c_is_pair => k_is); (case k_is_pair => k_is)
    obtain ⟨f_is_number, d_is_number, D_is_number⟩ : ∃ f fd, Odd.DefOk _ mg "is_number" Odd.s_is_number f fd _ := by
      refine' Odd.def_mk KX G Odd.bi_is_number ?a_is_number ?l_is_number ?c_is_number ?k_is_number
      (case a_is_number => k_is); (case l_is_number => k_is); (case c_is_number => k_is); (case k_is_number => k_is)
    obtain ⟨f_is_point, d_is_point, D_is_point⟩ : ∃ f fd, Odd.DefOk _ mg "is_point" Odd.s_is_point f fd _ := by
      refine' Odd.def_mk KX G Odd.bi_is_point ?a_is_point ?l_is_point ?c_is_point ?k_is_point
      (case a_is_point => k_is); (case l_is_point => k_is); (case c_is_point => k_is); (case k_is_point => k_is)
    obtain ⟨f_point_of, d_point_of, D_point_of⟩ : ∃ f fd, Odd.DefOk _ mg "point_of" Odd.s_point_of f fd _ := by
      refine' Odd.def_mk KX G Odd.bi_point_of ?a_point_of ?l_point_of ?c_point_of ?k_point_of
      (case a_point_of => k_is); (case l_point_of => k_is); (case c_point_of => k_is); (case k_point_of => k_is)
    obtain ⟨f_number_in, d_number_in, D_number_in⟩ : ∃ f fd, Odd.DefOk _ mg "number_in" Odd.s_number_in f fd _ := by
      refine' Odd.def_mk KX G Odd.bi_number_in ?a_number_in ?l_number_in ?c_number_in ?k_number_in
      (case a_number_in => k_is); (case l_number_in => k_is); (case c_number_in => k_is); (case k_number_in => k_is)
    obtain ⟨f_point_in, d_point_in, D_point_in⟩ : ∃ f fd, Odd.DefOk _ mg "point_in" Odd.s_point_in f fd _ := by
      refine' Odd.def_mk KX G Odd.bi_point_in ?a_point_in ?l_point_in ?c_point_in ?k_point_in
      (case a_point_in => k_is); (case l_point_in => k_is); (case c_point_in => k_is); (case k_point_in => k_is)
    obtain ⟨f_number_text, d_number_text, D_number_text⟩ : ∃ f fd, Odd.DefOk _ mg "number_text" Odd.s_number_text f fd _ := by
      refine' Odd.def_mk KX G Odd.bi_number_text ?a_number_text ?l_number_text ?c_number_text ?k_number_text
      (case a_number_text => k_is); (case l_number_text => k_is); (case c_number_text => k_is); (case k_number_text => k_is)
    obtain ⟨f_is_count, d_is_count, D_is_count⟩ : ∃ f fd, Odd.DefOk _ mg "is_count" Odd.s_is_count f fd _ := by
      refine' Odd.def_mk KX G Odd.bi_is_count ?a_is_count ?l_is_count ?c_is_count ?k_is_count
      (case a_is_count => k_is); (case l_is_count => k_is); (case c_is_count => k_is); (case k_is_count => k_is)
    obtain ⟨f_parsed_number, d_parsed_number, D_parsed_number⟩ : ∃ f fd, Odd.DefOk _ mg "parsed_number" Odd.s_parsed_number f fd _ := by
      refine' Odd.def_mk KX G Odd.bi_parsed_number ?a_parsed_number ?l_parsed_number ?c_parsed_number ?k_parsed_number
      (case a_parsed_number => k_is); (case l_parsed_number => k_is); (case c_parsed_number => k_is); (case k_parsed_number => k_is)
    obtain ⟨f_read_number, d_read_number, D_read_number⟩ : ∃ f fd, Odd.DefOk _ mg "read_number" Odd.s_read_number f fd _ := by
      refine' Odd.def_mk KX G Odd.bi_read_number ?a_read_number ?l_read_number ?c_read_number ?k_read_number
      (case a_read_number => k_is); (case l_read_number => k_is); (case c_read_number => k_is); (case k_read_number => k_is)
    obtain ⟨f_point_text, d_point_text, D_point_text⟩ : ∃ f fd, Odd.DefOk _ mg "point_text" Odd.s_point_text f fd _ := by
      refine' Odd.def_mk KX G Odd.bi_point_text ?a_point_text ?l_point_text ?c_point_text ?k_point_text
      (case a_point_text => k_is); (case l_point_text => k_is); (case c_point_text => k_is); (case k_point_text => k_is)
    obtain ⟨f_parsed_point, d_parsed_point, D_parsed_point⟩ : ∃ f fd, Odd.DefOk _ mg "parsed_point" Odd.s_parsed_point f fd _ := by
      refine' Odd.def_mk KX G Odd.bi_parsed_point ?a_parsed_point ?l_parsed_point ?c_parsed_point ?k_parsed_point
      (case a_parsed_point => k_is); (case l_parsed_point => k_is); (case c_parsed_point => k_is); (case k_parsed_point => k_is)
    obtain ⟨f_read_point, d_read_point, D_read_point⟩ : ∃ f fd, Odd.DefOk _ mg "read_point" Odd.s_read_point f fd _ := by
      refine' Odd.def_mk KX G Odd.bi_read_point ?a_read_point ?l_read_point ?c_read_point ?k_read_point
      (case a_read_point => k_is); (case l_read_point => k_is); (case c_read_point => k_is); (case k_read_point => k_is)
    obtain ⟨f__law_crate, d__law_crate, D__law_crate⟩ : ∃ f fd, Odd.DefOk _ mg "_law_crate" Odd.s__law_crate f fd _ := by
      refine' Odd.def_mk KX G Odd.bi__law_crate ?a__law_crate ?l__law_crate ?c__law_crate ?k__law_crate
      (case a__law_crate => k_is); (case l__law_crate => k_is); (case c__law_crate => k_is); (case k__law_crate => k_is)
    obtain ⟨f__law_pick, d__law_pick, D__law_pick⟩ : ∃ f fd, Odd.DefOk _ mg "_law_pick" Odd.s__law_pick f fd _ := by
      refine' Odd.def_mk KX G Odd.bi__law_pick ?a__law_pick ?l__law_pick ?c__law_pick ?k__law_pick
      (case a__law_pick => k_is); (case l__law_pick => k_is); (case c__law_pick => k_is); (case k__law_pick => k_is)
    obtain ⟨f__law_one_of, d__law_one_of, D__law_one_of⟩ : ∃ f fd, Odd.DefOk _ mg "_law_one_of" Odd.s__law_one_of f fd _ := by
      refine' Odd.def_mk KX G Odd.bi__law_one_of ?a__law_one_of ?l__law_one_of ?c__law_one_of ?k__law_one_of
      (case a__law_one_of => k_is); (case l__law_one_of => k_is); (case c__law_one_of => k_is); (case k__law_one_of => k_is)
    obtain ⟨f__law_shared, d__law_shared, D__law_shared⟩ : ∃ f fd, Odd.DefOk _ mg "_law_shared" Odd.s__law_shared f fd _ := by
      refine' Odd.def_mk KX G Odd.bi__law_shared ?a__law_shared ?l__law_shared ?c__law_shared ?k__law_shared
      (case a__law_shared => k_is); (case l__law_shared => k_is); (case c__law_shared => k_is); (case k__law_shared => k_is)
    obtain ⟨f__law_read, d__law_read, D__law_read⟩ : ∃ f fd, Odd.DefOk _ mg "_law_read" Odd.s__law_read f fd _ := by
      refine' Odd.def_mk KX G Odd.bi__law_read ?a__law_read ?l__law_read ?c__law_read ?k__law_read
      (case a__law_read => k_is); (case l__law_read => k_is); (case c__law_read => k_is); (case k__law_read => k_is)
    obtain ⟨f__law_read_two, d__law_read_two, D__law_read_two⟩ : ∃ f fd, Odd.DefOk _ mg "_law_read_two" Odd.s__law_read_two f fd _ := by
      refine' Odd.def_mk KX G Odd.bi__law_read_two ?a__law_read_two ?l__law_read_two ?c__law_read_two ?k__law_read_two
      (case a__law_read_two => k_is); (case l__law_read_two => k_is); (case c__law_read_two => k_is); (case k__law_read_two => k_is)
    obtain ⟨f__law_size, d__law_size, D__law_size⟩ : ∃ f fd, Odd.DefOk _ mg "_law_size" Odd.s__law_size f fd _ := by
      refine' Odd.def_mk KX G Odd.bi__law_size ?a__law_size ?l__law_size ?c__law_size ?k__law_size
      (case a__law_size => k_is); (case l__law_size => k_is); (case c__law_size => k_is); (case k__law_size => k_is)
    obtain ⟨f__law_drawn, d__law_drawn, D__law_drawn⟩ : ∃ f fd, Odd.DefOk _ mg "_law_drawn" Odd.s__law_drawn f fd _ := by
      refine' Odd.def_mk KX G Odd.bi__law_drawn ?a__law_drawn ?l__law_drawn ?c__law_drawn ?k__law_drawn
      (case a__law_drawn => k_is); (case l__law_drawn => k_is); (case c__law_drawn => k_is); (case k__law_drawn => k_is)
    obtain ⟨f__law_written, d__law_written, D__law_written⟩ : ∃ f fd, Odd.DefOk _ mg "_law_written" Odd.s__law_written f fd _ := by
      refine' Odd.def_mk KX G Odd.bi__law_written ?a__law_written ?l__law_written ?c__law_written ?k__law_written
      (case a__law_written => k_is); (case l__law_written => k_is); (case c__law_written => k_is); (case k__law_written => k_is)
    obtain ⟨f__law_bent, d__law_bent, D__law_bent⟩ : ∃ f fd, Odd.DefOk _ mg "_law_bent" Odd.s__law_bent f fd _ := by
      refine' Odd.def_mk KX G Odd.bi__law_bent ?a__law_bent ?l__law_bent ?c__law_bent ?k__law_bent
      (case a__law_bent => k_is); (case l__law_bent => k_is); (case c__law_bent => k_is); (case k__law_bent => k_is)
    obtain ⟨f__law_told, d__law_told, D__law_told⟩ : ∃ f fd, Odd.DefOk _ mg "_law_told" Odd.s__law_told f fd _ := by
      refine' Odd.def_mk KX G Odd.bi__law_told ?a__law_told ?l__law_told ?c__law_told ?k__law_told
      (case a__law_told => k_is); (case l__law_told => k_is); (case c__law_told => k_is); (case k__law_told => k_is)
    obtain ⟨f__law_part, d__law_part, D__law_part⟩ : ∃ f fd, Odd.DefOk _ mg "_law_part" Odd.s__law_part f fd _ := by
      refine' Odd.def_mk KX G Odd.bi__law_part ?a__law_part ?l__law_part ?c__law_part ?k__law_part
      (case a__law_part => k_is); (case l__law_part => k_is); (case c__law_part => k_is); (case k__law_part => k_is)
    obtain ⟨f_law, d_law, D_law⟩ : ∃ f fd, Odd.DefOk _ mg "law" Odd.s_law f fd _ := by
      refine' Odd.def_mk KX G Odd.bi_law ?a_law ?l_law ?c_law ?k_law
      (case a_law => k_is); (case l_law => k_is); (case c_law => k_is); (case k_law => k_is)
    obtain ⟨c_BadNumber, i_BadNumber, c_BadPoint, i_BadPoint, L_BadNumber, L_BadPoint, ex_N, ex_P, ki_N, ki_P, am_N, am_P⟩ : ∃ C fI C' fI', PySem.LowX.LowTxt "BadNumber" "BadNumber.__init__" _ mg C fI ∧ PySem.LowX.LowTxt "BadPoint" "BadPoint.__init__" _ mg C' fI' ∧ L2.ExcC _ C ∧ L2.ExcC _ C' ∧ PySem.W.kitOne _ (.ref C) (.ref C) = some true ∧ PySem.W.kitOne _ (.ref C') (.ref C) = some false ∧ PySem.W.exmAny _ (.ref C) [.ref C, .ref C'] = some true ∧ PySem.W.exmAny _ (.ref C') [.ref C, .ref C'] = some true := by
      refine' Odd.low_two4 KX G ?aC_N ?xL_N ?sa_N ?ga_N ?gg_N ?nb_N ?a1_N ?t1_N ?l1_N ?c1_N ?kC_N ?eC_N ?tC_N ?hC_N ?iC_N ?sC_N ?aC_P ?xL_P ?sa_P ?ga_P ?gg_P ?nb_P ?a1_P ?t1_P ?l1_P ?c1_P ?kC_P ?eC_P ?tC_P ?hC_P ?iC_P ?sC_P ?sXY_2 ?sYX_2 ?haX_2 ?haY_2 ?hn_2 ?ht_2 ?hmX_2 ?hmY_2 ?kXX_2 ?kYX_2
      (case aC_N => k_is); (case xL_N => k_is); (case sa_N => k_is); (case ga_N => k_is); (case gg_N => k_is); (case nb_N => k_is); (case a1_N => k_is); (case t1_N => k_is); (case l1_N => k_is); (case c1_N => k_is); (case kC_N => k_is); (case eC_N => k_is); (case tC_N => k_is); (case hC_N => k_is); (case iC_N => k_is); (case sC_N => first | rfl | k_is)
      (case aC_P => k_is); (case xL_P => k_is); (case sa_P => k_is); (case ga_P => k_is); (case gg_P => k_is); (case nb_P => k_is); (case a1_P => k_is); (case t1_P => k_is); (case l1_P => k_is); (case c1_P => k_is); (case kC_P => k_is); (case eC_P => k_is); (case tC_P => k_is); (case hC_P => k_is); (case iC_P => k_is); (case sC_P => first | rfl | k_is)
      (case sXY_2 => first | rfl | k_is); (case sYX_2 => first | rfl | k_is); (case haX_2 => first | rfl | k_is); (case haY_2 => first | rfl | k_is); (case hn_2 => first | rfl | k_is); (case ht_2 => first | rfl | k_is); (case hmX_2 => first | rfl | k_is); (case hmY_2 => first | rfl | k_is); (case kXX_2 => first | rfl | k_is); (case kYX_2 => first | rfl | k_is)
    obtain ⟨c_BadText, i_BadText, L_BadText⟩ : ∃ C fI, PySem.LowX.LowTxt "BadText" "BadText.__init__" _ mg C fI := by
      refine' Odd.low_mk KX G ?aC_T ?xL_T ?sa_T ?ga_T ?gg_T ?nb_T ?a1_T ?t1_T ?l1_T ?c1_T ?kC_T ?eC_T ?tC_T ?hC_T ?iC_T ?sC_T
      (case aC_T => k_is); (case xL_T => k_is); (case sa_T => k_is); (case ga_T => k_is); (case gg_T => k_is); (case nb_T => k_is)
      (case a1_T => k_is); (case t1_T => k_is); (case l1_T => k_is); (case c1_T => k_is)
      (case kC_T => k_is); (case eC_T => k_is); (case tC_T => k_is); (case hC_T => k_is); (case iC_T => k_is); (case sC_T => first | rfl | k_is)
    have n_len : mg "len" = none := by
      refine' PySem.W.mg_none_of KX G ?z_len
      (case z_len => k_is)
    have n_abs : mg "abs" = none := by
      refine' PySem.W.mg_none_of KX G ?z_abs
      (case z_abs => k_is)
    have n_repr : mg "repr" = none := by
      refine' PySem.W.mg_none_of KX G ?z_repr
      (case z_repr => k_is)
    have n_isinstance : mg "isinstance" = none := by
      refine' PySem.W.mg_none_of KX G ?z_isinstance
      (case z_isinstance => k_is)
    have n_int : mg "int" = none := by
      refine' PySem.W.mg_none_of KX G ?z_int
      (case z_int => k_is)
    have n_bool : mg "bool" = none := by
      refine' PySem.W.mg_none_of KX G ?z_bool
      (case z_bool => k_is)
    have n_list : mg "list" = none := by
      refine' PySem.W.mg_none_of KX G ?z_list
      (case z_list => k_is)
    have n_tuple : mg "tuple" = none := by
      refine' PySem.W.mg_none_of KX G ?z_tuple
      (case z_tuple => k_is)
    have n_range : mg "range" = none := by
      refine' PySem.W.mg_none_of KX G ?z_range
      (case z_range => k_is)
    have n_str : mg "str" = none := by
      refine' PySem.W.mg_none_of KX G ?z_str
      (case z_str => k_is)
    have g_gcd : mg "gcd" = some (.builtin "math.gcd") := by
      refine' PySem.W.mg_of KX G ?z_gcd
      (case z_gcd => k_is)
    have g_MOST_DIGITS : ∃ t, mg "MOST_DIGITS" = some (.int 60 t) := by
      refine' Odd.int_mk KX G ?z_most
      (case z_most => k_is)

    have T : Odd.Txt _ mg ⟨f_pair_of, d_pair_of, f_is_integer, d_is_integer, f_is_within, d_is_within, f_is_row, d_is_row, f_is_pair, d_is_pair, f_is_number, d_is_number, f_is_point, d_is_point, f_point_of, d_point_of, f_number_in, d_number_in, f_point_in, d_point_in, f_number_text, d_number_text, f_is_count, d_is_count, f_parsed_number, d_parsed_number, f_read_number, d_read_number, f_point_text, d_point_text, f_parsed_point, d_parsed_point, f_read_point, d_read_point, f__law_crate, d__law_crate, f__law_pick, d__law_pick, f__law_one_of, d__law_one_of, f__law_shared, d__law_shared, f__law_read, d__law_read, f__law_read_two, d__law_read_two, f__law_size, d__law_size, f__law_drawn, d__law_drawn, f__law_written, d__law_written, f__law_bent, d__law_bent, f__law_told, d__law_told, f__law_part, d__law_part, f_law, d_law, c_BadNumber, i_BadNumber, c_BadPoint, i_BadPoint, c_BadText, i_BadText⟩ := ⟨D_pair_of, D_is_integer, D_is_within, D_is_row, D_is_pair, D_is_number, D_is_point, D_point_of, D_number_in, D_point_in, D_number_text, D_is_count, D_parsed_number, D_read_number, D_point_text, D_parsed_point, D_read_point, D__law_crate, D__law_pick, D__law_one_of, D__law_shared, D__law_read, D__law_read_two, D__law_size, D__law_drawn, D__law_written, D__law_bent, D__law_told, D__law_part, D_law, L_BadNumber, L_BadPoint, L_BadText, n_len, n_abs, n_repr, n_isinstance, n_int, n_bool, n_list, n_tuple, n_range, n_str, ex_N, ex_P, ki_N, ki_P, am_N, am_P, g_gcd, g_MOST_DIGITS⟩
    have e := hmg.symm.trans D_law.g
    cases e
    obtain ⟨oc, od, kV, doc, pm, an, cdv, ct, osl, rfl, lk, hcd⟩ := D_law.F.ex
    exact ⟨_, fun s v => .of_eq rfl, fun base _ _ => Odd.ok_law T⟩
#print axioms PySem.Challenge.cw_oddsquares_k04_texts_of_numbers_and_poin_holds
