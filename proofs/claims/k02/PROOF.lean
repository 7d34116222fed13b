import PyProof.Rows.All
import Wide.All
import OpenK.AllK
import Wide.FinOn
import HandS.ForMost
import HandS.ForExc
import HandS.Gcd
import HandS.Wide
import HandS.IsInst
import HandS.Style
import HandS.RaiseMore
import HandS.Defaults
import HandS.TryOnly
import PyProof.ReprRoads
import PyProof.EqKinds
import PySem.Challenge.RW_oddsquares_k02_points_and_vectors
set_option Elab.async false
set_option linter.all false
set_option maxRecDepth 100000
set_option maxHeartbeats 4000000
namespace Odd
open PySem PySem.Spec PyProof.Rows L2

/-! ### numbers -/
def Canon (p : Int × Int) : Prop := 1 ≤ p.2 ∧ Nat.gcd p.1.natAbs p.2.natAbs = 1
def IsLow (t u : Int) (p : Int × Int) : Prop := Canon p ∧ p.1 * u = t * p.2
def low (t u : Int) : Int × Int := if u < 0 then (t.fdiv (-(Nat.gcd t.natAbs u.natAbs : Int)), u.fdiv (-(Nat.gcd t.natAbs u.natAbs : Int))) else (t.fdiv (Nat.gcd t.natAbs u.natAbs : Int), u.fdiv (Nat.gcd t.natAbs u.natAbs : Int))

theorem low_pos {t u : Int} (h : 0 < u) : ∃ g : Int, 0 < g ∧ t = g * (low t u).1 ∧ u = g * (low t u).2 ∧ Nat.gcd (low t u).1.natAbs (low t u).2.natAbs = 1 := by
  have hg : 0 < Nat.gcd t.natAbs u.natAbs := Nat.gcd_pos_of_pos_right _ (by omega)
  have d1 : ((Nat.gcd t.natAbs u.natAbs : Nat) : Int) ∣ t := Int.ofNat_dvd_left.mpr (Nat.gcd_dvd_left _ _)
  have d2 : ((Nat.gcd t.natAbs u.natAbs : Nat) : Int) ∣ u := Int.ofNat_dvd_left.mpr (Nat.gcd_dvd_right _ _)
  have e1 := Int.mul_fdiv_cancel' d1
  have e2 := Int.mul_fdiv_cancel' d2
  have el : low t u = (t.fdiv (Nat.gcd t.natAbs u.natAbs : Int), u.fdiv (Nat.gcd t.natAbs u.natAbs : Int)) := by
    unfold low
    rw [if_neg (by omega)]
  refine ⟨(Nat.gcd t.natAbs u.natAbs : Int), by omega, ?_, ?_, ?_⟩
  · rw [el]; exact e1.symm
  · rw [el]; exact e2.symm
  · rw [el]
    have a1 : t.natAbs = Nat.gcd t.natAbs u.natAbs * (t.fdiv (Nat.gcd t.natAbs u.natAbs : Int)).natAbs := by
      have := congrArg Int.natAbs e1
      rw [Int.natAbs_mul] at this
      exact this.symm
    have a2 : u.natAbs = Nat.gcd t.natAbs u.natAbs * (u.fdiv (Nat.gcd t.natAbs u.natAbs : Int)).natAbs := by
      have := congrArg Int.natAbs e2
      rw [Int.natAbs_mul] at this
      exact this.symm
    have a3 : Nat.gcd t.natAbs u.natAbs = Nat.gcd t.natAbs u.natAbs * Nat.gcd (t.fdiv (Nat.gcd t.natAbs u.natAbs : Int)).natAbs (u.fdiv (Nat.gcd t.natAbs u.natAbs : Int)).natAbs := by
      rw [← Nat.gcd_mul_left, ← a1, ← a2]
    exact Nat.eq_of_mul_eq_mul_left hg (by rw [Nat.mul_one]; exact a3.symm)
theorem low_neg {t u : Int} (h : u < 0) : low t u = low (-t) (-u) := by
  unfold low
  rw [if_pos h, if_neg (by omega), Int.natAbs_neg, Int.natAbs_neg]
  have k : ∀ x : Int, x.fdiv (-((Nat.gcd t.natAbs u.natAbs : Nat) : Int)) = (-x).fdiv ((Nat.gcd t.natAbs u.natAbs : Nat) : Int) := fun x => by
    have q := Int.neg_fdiv_neg (-x) ((Nat.gcd t.natAbs u.natAbs : Nat) : Int)
    rw [Int.neg_neg] at q
    exact q
  rw [k t, k u]
theorem natAbs_mul_le {g x y : Int} (hg : g ≠ 0) (e : x = g * y) : y.natAbs ≤ x.natAbs := by
  rw [e, Int.natAbs_mul]
  exact Nat.le_mul_of_pos_left _ (by omega)
/-- what lowest makes -/
theorem low_is {t u : Int} (h : u ≠ 0) : IsLow t u (low t u) ∧ (low t u).1.natAbs ≤ t.natAbs ∧ (low t u).2.natAbs ≤ u.natAbs := by
  have pos : ∀ t u : Int, 0 < u → IsLow t u (low t u) ∧ (low t u).1.natAbs ≤ t.natAbs ∧ (low t u).2.natAbs ≤ u.natAbs := fun t u hu => by
    obtain ⟨g, hg, e1, e2, e3⟩ := low_pos (t := t) hu
    generalize low t u = q at *
    obtain ⟨a, b⟩ := q
    dsimp only at *
    have hb : 0 < b := by
      rcases Int.lt_or_le 0 b with x | x
      · exact x
      · have : g * b ≤ 0 := Int.mul_nonpos_of_nonneg_of_nonpos (by omega) x
        omega
    refine ⟨⟨⟨by show 1 ≤ b; omega, e3⟩, ?_⟩, natAbs_mul_le (by omega) e1, natAbs_mul_le (by omega) e2⟩
    show a * u = t * b
    rw [e1, e2, ← Int.mul_assoc, Int.mul_comm a g]
  rcases Int.lt_or_le 0 u with hu | hu
  · exact pos t u hu
  · have hn : u < 0 := by omega
    obtain ⟨⟨c, e⟩, l1, l2⟩ := pos (-t) (-u) (by omega)
    rw [low_neg hn]
    rw [Int.natAbs_neg] at l1 l2
    refine ⟨⟨c, ?_⟩, l1, l2⟩
    rw [Int.mul_neg, Int.neg_mul] at e
    omega
/-- two pairs in lowest terms that are the same number are the same pair -/
theorem canon_eq {p q : Int × Int} (hp : Canon p) (hq : Canon q) (e : p.1 * q.2 = q.1 * p.2) : p = q := by
  obtain ⟨a, b⟩ := p
  obtain ⟨c, d⟩ := q
  obtain ⟨hb, g1⟩ := hp
  obtain ⟨hd, g2⟩ := hq
  dsimp only at *
  have n : a.natAbs * d.natAbs = c.natAbs * b.natAbs := by
    have := congrArg Int.natAbs e
    rwa [Int.natAbs_mul, Int.natAbs_mul] at this
  have d1 : d.natAbs ∣ b.natAbs := (Nat.Coprime.symm g2 : Nat.Coprime d.natAbs c.natAbs).dvd_of_dvd_mul_left ⟨a.natAbs, by rw [← n, Nat.mul_comm]⟩
  have d2 : b.natAbs ∣ d.natAbs := (Nat.Coprime.symm g1 : Nat.Coprime b.natAbs a.natAbs).dvd_of_dvd_mul_left ⟨c.natAbs, by rw [n, Nat.mul_comm]⟩
  have ebd : b = d := by
    have := Nat.dvd_antisymm d2 d1
    omega
  subst ebd
  have : a = c := Int.eq_of_mul_eq_mul_right (by omega) e
  rw [this]
/-- the pair in lowest terms of a pair in lowest terms is itself -/
theorem IsLow.uniq {t u : Int} {p q : Int × Int} (hu : u ≠ 0) (hp : IsLow t u p) (hq : IsLow t u q) : p = q := by
  refine canon_eq hp.1 hq.1 ?_
  refine Int.eq_of_mul_eq_mul_right hu ?_
  have e1 := hp.2
  have e2 := hq.2
  calc p.1 * q.2 * u = (p.1 * u) * q.2 := by rw [Int.mul_assoc, Int.mul_comm q.2 u, ← Int.mul_assoc]
    _ = t * p.2 * q.2 := by rw [e1]
    _ = (t * q.2) * p.2 := by rw [Int.mul_assoc, Int.mul_comm p.2 q.2, ← Int.mul_assoc]
    _ = q.1 * u * p.2 := by rw [e2]
    _ = q.1 * p.2 * u := by rw [Int.mul_assoc, Int.mul_comm u p.2, ← Int.mul_assoc]

/-! ### rules -/
def CDivX (_ j : Int) : Prop := j ≠ 0 ∧ j.natAbs.log2 < 9000
theorem op_fdivX {X : Cx} : OpR X (binaryOp .FloorDiv) (rI CDivX fun i j => .int (i.fdiv j)) := opI fun i j _ _ _ _ _ hc q => floordiv_int hc.1 q (.inl (PyProof.noPylong_of_log2 hc.2))
theorem divx {j : Int} {b : Nat} (h : j ≠ 0) (hb : j.natAbs < 2 ^ b) (h0 : 0 < b) (h9 : b ≤ 9000) : CDivX i j := ⟨h, Nat.lt_of_lt_of_le (PySem.Flt.log2_lt_of h0 hb) h9⟩

/-! ### heaps -/
theorem same_upd {H : Hp} {p : Addr} {o : HO} (h : H p = none) : Same H (upd H p o) := fun b x e => by
  rw [upd_ne (ne_of_none e h)]
  exact e
theorem same_tup {K : PySem.W.Frag} {H H' : Hp} {a : Addr} {xs : List V} (e : Same H H') (h : SqT K H a xs) : SqT K H' a xs := by
  rcases h with (h | ⟨o, h⟩) | h
  · exact .inl (.inl (e _ _ h))
  · exact .inl (.inr ⟨o, e _ _ h⟩)
  · exact .inr h
/-- all but the object at u stands as it stood -/
def But (u : Addr) (H H' : Hp) : Prop := (∀ b, b ≠ u → ∀ o, H b = some o → H' b = some o) ∧ ∀ c ys, H u = some (.lst (c :: ys)) → ∃ ys', H' u = some (.lst (c :: ys'))
theorem same_but {u : Addr} {H H' : Hp} (s : Same H H') : But u H H' := ⟨fun b _ o e => s b o e, fun c ys e => ⟨ys, s _ _ e⟩⟩
theorem But.trans {u : Addr} {H H1 H2 : Hp} (a : But u H H1) (b : But u H1 H2) : But u H H2 := ⟨fun c n o h => b.1 c n o (a.1 c n o h), fun c ys e => by obtain ⟨y1, e1⟩ := a.2 c ys e; exact b.2 c y1 e1⟩
theorem But.refl (u : Addr) (H : Hp) : But u H H := ⟨fun _ _ _ h => h, fun c ys e => ⟨ys, e⟩⟩
theorem but_upd {u : Addr} {H : Hp} {c : V} {xs ys : List V} (h : H u = some (.lst (c :: xs))) : But u H (upd H u (.lst (c :: ys))) := ⟨fun b nb o e => by rw [upd_ne nb]; exact e, fun c' y' e => by rw [h] at e; cases e; exact ⟨ys, upd_same⟩⟩
theorem But.tup {K : PySem.W.Frag} {u : Addr} {H H' : Hp} {a : Addr} {xs : List V} {ys : List V} (s : But u H H') (hu : H u = some (.lst ys)) (h : SqT K H a xs) : SqT K H' a xs := by
  rcases h with (h | ⟨o, h⟩) | h
  · exact .inl (.inl (s.1 _ (ne_of h hu (by intro z; cases z)) _ h))
  · exact .inl (.inr ⟨o, s.1 _ (ne_of h hu (by intro z; cases z)) _ h⟩)
  · exact .inr h
theorem But.lst {K : PySem.W.Frag} {u : Addr} {H H' : Hp} {a : Addr} {xs : List V} {ys : List V} (s : But u H H') (hu : H u = some (.lst ys)) (d : xs ≠ ys) (h : SqL K H a xs) : SqL K H' a xs := by
  rcases h with (h | ⟨o, h⟩) | h
  · exact .inl (.inl (s.1 _ (ne_of h hu (by intro z; injection z with z; exact d z)) _ h))
  · exact .inl (.inr ⟨o, s.1 _ (ne_of h hu (by intro z; cases z)) _ h⟩)
  · exact .inr h

/-! ### what a value is -/
inductive TyN (K : PySem.W.Frag) (H : Hp) : V → String → Prop
  | non : TyN K H .non "NoneType"
  | bl (b : Bool) : TyN K H (.bl b) "bool"
  | int (i : Int) : TyN K H (.int i) "int"
  | str (x : Str) : TyN K H (.str x) "str"
  | lst {p : Addr} {xs : List V} (h : SqL K H p xs) : TyN K H (.ref p) "list"
  | tup {p : Addr} {xs : List V} (h : SqT K H p xs) : TyN K H (.ref p) "tuple"
  | dict {p : Addr} {kvs : List (Key × V)} (h : H p = some (.dK kvs)) : TyN K H (.ref p) "dict"
theorem TyN.x {K : PySem.W.Frag} {H : Hp} {v : V} {T : String} (h : TyN K H v T) : TyX K H v (.type T) := by
  cases h with
  | non => exact .base .non
  | bl b => exact .base (.bl b)
  | int i => exact .base (.int i)
  | str x => exact .base (.str x)
  | lst h =>
    rcases h with (h | ⟨o, h⟩) | ⟨o, its, n, h, c, _⟩
    · exact .base (.lst h)
    · exact .base (.frz h)
    · exact .kList h c
  | tup h =>
    rcases h with (h | ⟨o, h⟩) | ⟨o, its, n, h, c, _⟩
    · exact .base (.tup h)
    · exact .fTuple h
    · exact .kTuple h c
  | dict h => exact .base (.dK h)
theorem TyN.same {K : PySem.W.Frag} {H H' : Hp} {v : V} {T : String} (s : Same H H') (h : TyN K H v T) : TyN K H' v T := by
  cases h with
  | non => exact .non
  | bl b => exact .bl b
  | int i => exact .int i
  | str x => exact .str x
  | lst h => exact .lst (s.seq h)
  | tup h => exact .tup (same_tup s h)
  | dict h => exact .dict (s _ _ h)
/-- a list or a tuple of these values -/
def Sq (K : PySem.W.Frag) (H : Hp) (p : Addr) (xs : List V) : Prop := SqL K H p xs ∨ SqT K H p xs
theorem Sq.same {K : PySem.W.Frag} {H H' : Hp} {p : Addr} {xs : List V} (s : Same H H') (h : Sq K H p xs) : Sq K H' p xs := by
  rcases h with h | h
  · exact .inl (s.seq h)
  · exact .inr (same_tup s h)
theorem Sq.but {K : PySem.W.Frag} {u : Addr} {H H' : Hp} {p : Addr} {xs ys : List V} (s : But u H H') (hu : H u = some (.lst ys)) (d : xs ≠ ys) (h : Sq K H p xs) : Sq K H' p xs := by
  rcases h with h | h
  · exact .inl (s.lst hu d h)
  · exact .inr (s.tup hu h)
/-- a pair of integers as a list or a tuple in lowest terms, or an integer: a number -/
inductive Num (K : PySem.W.Frag) (H : Hp) : V → Int × Int → Prop
  | int (n : Int) : Num K H (.int n) (n, 1)
  | sq {p : Addr} {a b : Int} (h : Sq K H p [.int a, .int b]) (c : Canon (a, b)) : Num K H (.ref p) (a, b)
theorem Num.same {K : PySem.W.Frag} {H H' : Hp} {v : V} {q : Int × Int} (s : Same H H') (h : Num K H v q) : Num K H' v q := by
  cases h with
  | int n => exact .int n
  | sq h c => exact .sq (h.same s) c
theorem Num.but {K : PySem.W.Frag} {u : Addr} {H H' : Hp} {v : V} {q : Int × Int} {c : Addr} {ys : List V} (s : But u H H') (hu : H u = some (.lst (.ref c :: ys))) (h : Num K H v q) : Num K H' v q := by
  cases h with
  | int n => exact .int n
  | sq h c => exact .sq (h.but s hu (by intro z; cases z)) c
theorem Num.canon {K : PySem.W.Frag} {H : Hp} {v : V} {q : Int × Int} (h : Num K H v q) : Canon q := by
  cases h with
  | int n => exact ⟨by show (1 : Int) ≤ 1; omega, Nat.gcd_one_right _⟩
  | sq h c => exact c
/-- a tuple that is a number -/
def Pr (K : PySem.W.Frag) (H : Hp) (v : V) (q : Int × Int) : Prop := ∃ p, v = .ref p ∧ SqT K H p [.int q.1, .int q.2]
theorem Pr.same {K : PySem.W.Frag} {H H' : Hp} {v : V} {q : Int × Int} (s : Same H H') (h : Pr K H v q) : Pr K H' v q := by
  obtain ⟨p, e, h⟩ := h
  exact ⟨p, e, same_tup s h⟩
theorem Pr.but {K : PySem.W.Frag} {u : Addr} {H H' : Hp} {v : V} {q : Int × Int} {ys : List V} (s : But u H H') (hu : H u = some (.lst ys)) (h : Pr K H v q) : Pr K H' v q := by
  obtain ⟨p, e, h⟩ := h
  exact ⟨p, e, s.tup hu h⟩
theorem Pr.num {K : PySem.W.Frag} {H : Hp} {v : V} {q : Int × Int} (h : Pr K H v q) (c : Canon q) : Num K H v q := by
  obtain ⟨p, rfl, h⟩ := h
  exact .sq (.inr h) c
/-- what is no number -/
inductive Bad (K : PySem.W.Frag) (H : Hp) : V → Prop
  | scal {v : V} {T : String} (h : TyN K H v T) (h1 : T ≠ "int") (h2 : T ≠ "list") (h3 : T ≠ "tuple") : Bad K H v
  | len {p : Addr} {xs : List V} (h : Sq K H p xs) (l : xs.length ≠ 2) : Bad K H (.ref p)
  | top {p : Addr} {x y : V} {T U : String} (h : Sq K H p [x, y]) (hx : TyN K H x T) (hT : T ≠ "int") (hy : TyN K H y U) : Bad K H (.ref p)
  | und {p : Addr} {a : Int} {y : V} {U : String} (h : Sq K H p [.int a, y]) (hy : TyN K H y U) (hU : U ≠ "int") : Bad K H (.ref p)
  | low {p : Addr} {a b : Int} (h : Sq K H p [.int a, .int b]) (c : ¬ Canon (a, b)) : Bad K H (.ref p)
theorem Bad.same {K : PySem.W.Frag} {H H' : Hp} {v : V} (s : Same H H') (h : Bad K H v) : Bad K H' v := by
  cases h with
  | scal h h1 h2 h3 => exact .scal (h.same s) h1 h2 h3
  | len h l => exact .len (h.same s) l
  | top h hx hT hy => exact .top (h.same s) (hx.same s) hT (hy.same s)
  | und h hy hU => exact .und (h.same s) (hy.same s) hU
  | low h c => exact .low (h.same s) c
/-- of so many bits -/
def Sm (N : Nat) (q : Int × Int) : Prop := q.1.natAbs < 2 ^ N ∧ q.2.natAbs < 2 ^ N
/-- hands back a number as a tuple -/
def RetP (K : PySem.W.Frag) (H : Hp) (q : Int × Int) (Q : VK) : Prop := ∀ H' p, Same H H' → SqT K H' p [.int q.1, .int q.2] → Q (.ref p) H'
/-- hands back a value -/
def RetV (H : Hp) (v : V) (Q : VK) : Prop := ∀ H', Same H H' → Q v H'
/-- raises an error of the class at C with this part -/
def RaiseP (H : Hp) (C : Addr) (part : V) (E : XK) : Prop := ∀ H' d, Same H H' → H' d = some (.xd [(("part" : Str), part)]) → E (.ref C) (some d) H'
theorem RetP.same {K : PySem.W.Frag} {H H' : Hp} {q : Int × Int} {Q : VK} (s : Same H H') (h : RetP K H q Q) : RetP K H' q Q := fun H2 p s2 e => h H2 p (s.trans s2) e
theorem RetV.same {H H' : Hp} {v : V} {Q : VK} (s : Same H H') (h : RetV H v Q) : RetV H' v Q := fun H2 s2 => h H2 (s.trans s2)
theorem RaiseP.same {H H' : Hp} {C : Addr} {part : V} {E : XK} (s : Same H H') (h : RaiseP H C part E) : RaiseP H' C part E := fun H2 d s2 e => h H2 d (s.trans s2) e
theorem st_of {K : PySem.W.Frag} {H : Hp} {a : Addr} {xs : List V} (h : H a = some (.tup xs)) : SqT K H a xs := .inl (.inl h)
theorem sl_of {K : PySem.W.Frag} {H : Hp} {a : Addr} {xs : List V} (h : H a = some (.lst xs)) : SqL K H a xs := .inl (.inl h)
theorem bt_len : bootBuiltins "len" = some (.builtin "len") := by decide +kernel
theorem bt_abs : bootBuiltins "abs" = some (.builtin "abs") := by decide +kernel
theorem bt_repr : bootBuiltins "repr" = some (.builtin "repr") := by decide +kernel
theorem bt_isinstance : bootBuiltins "isinstance" = some (.builtin "isinstance") := by decide +kernel
theorem bt_int : bootBuiltins "int" = some (.type "int") := by decide +kernel
theorem bt_bool : bootBuiltins "bool" = some (.type "bool") := by decide +kernel
theorem bt_str : bootBuiltins "str" = some (.type "str") := by decide +kernel
theorem bt_list : bootBuiltins "list" = some (.type "list") := by decide +kernel
theorem bt_tuple : bootBuiltins "tuple" = some (.type "tuple") := by decide +kernel
theorem bt_all : bootBuiltins "all" = some (.builtin "all") := by decide +kernel
theorem bt_range : bootBuiltins "range" = some (.type "range") := by decide +kernel
section
variable {X : Cx} {CX : CXT} {k : Nat} {f : Addr} {fd : FuncData} {ps ks : List Str} {sp : Sp} {E : XK} {x : Str} {p pos : Pos} {kws : List Keyword} {tk : TA} {g : List Value → List Value → List Value} {gV : List V → List V → List V}
/-- f(k = v, ..) -/
theorem pe_callK0 (F : FnOk X.prog X.w X.K X.mg X.base CX k f fd ps sp) (hr : Room k X.A) (hg : Gl X x) (hm : X.mg x = some (.ref f)) (hk : PySem.W.keepIn X.K (.ref f) = true) (hb : KBinds X.K fd ps ks g gV) (hx : Passes CX X E)
    (hkw : PK X kws tk) (hall : (backToKw pos (keywordEach kws X.env)).all (·.1.isSome) = true := by rfl) (hks : (backToKw pos (keywordEach kws X.env)).filterMap (·.1) = ks := by rfl)
    (hdb : (x == ("__debug__" : Str)) = false := by decide) (hpl : ((backTo pos (starEach [] X.env)).any (·.1) || (backToKw pos (keywordEach kws X.env)).any (·.1.isNone)) = false := by rfl) :
    PE X (.Call (.Name x p) [] kws pos) (tCallK sp gV E tNil tk) := by
  refine ⟨fun pins s σ H Q I h => ?_⟩
  refine wpAny_Call_Name_kw (ld_glob I hg hm ?_ hdb)
  refine PySem.W.callWith_KW0 (h₀ := X.base) I.ok.mod.kin hk hall (thn (hkw.run pos pins s σ H _ I h) fun ws s2 ⟨zs, H2, I2, rz, q2⟩ => ⟨I2.kIn, ?_⟩) hpl
  rw [hks]
  exact run_fnk (us := []) F hr hb hx I2 .nil rz q2
/-- repr of a bool, of an int -/
theorem call_reprX : CallR X (.builtin "repr") (fun xs H Q => (∃ i : Int, xs = [.int i] ∧ i.natAbs.log2 < 1920 ∧ Q (.str (toString i)) H) ∨ ∃ b : Bool, xs = [.bl b] ∧ Q (.str (if b then "True" else "False")) H) := by
  intro pins s σ H xs us Q I r h
  rcases h with h | ⟨b, rfl, q⟩
  · exact SkE.call_repr_int pins s σ H xs us Q I r h
  · obtain ⟨u, rfl, e⟩ := vals1 r
    cases e
    exact PySem.P.repr_of_bool (by cases b <;> exact ⟨.str _, H, I.tok _, ⟨_, rfl⟩, q⟩)
end
end Odd
namespace PySem
namespace LowX
open PySem.W PySem.Calls PyProof.Rows PySem.HandSPX
/-! ### the text of __init__ -/
def iA (p1 p2 : Pos) : Arguments := { posonlyargs := [], args := [{ arg := "self", annotation := none, pos := p1 }, { arg := "part", annotation := none, pos := p2 }], vararg := none, kwonlyargs := [], kw_defaults := [], kwarg := none, defaults := [] }
def iB (q1 q2 q3 q4 : Pos) : List Stmt := [.Assign [.Attribute (.Name "self" q1) "part" q2] (.Name "part" q3) q4]
def iS : Scope := { kind := .function, names := [(PySem.Str.ofString "self", .local), (PySem.Str.ofString "part", .local)], isGenerator := false, isCoroutine := false, more := [] }
/-- what the written part says of Low, at C, and of its __init__, at fI -/
structure LowTxt (nx qn : Str) (K : Frag) (mg : Str → Option Value) (C fI : Addr) : Prop where
  gC : mg nx = some (.ref C)
  cls : ∃ nm q N bs bm sn sub ab col dd k0 k1 k2 k3 k5, K.lookup C = some (excClassObj nm q C N bs bm true sn sub ab col dd k0 k1 k2 k3 k5 "ValueError.__new__") ∧ refsVE bm = true
  sa : findIn K (.ref C) "__setattr__" = some (some (.builtin "object.__setattr__"))
  ga : findIn K (.ref C) "__getattribute__" = some (some (.builtin "BaseException.__getattribute__"))
  gg : findIn K (.ref C) "__getattr__" = some none
  noN : findIn K (.ref C) "part" = some none
  iC : findIn K (.ref C) "__init__" = some (some (.ref fI))
  tC : typeIn K (.ref fI) = some (.type "function")
  kC : keepIn K (.ref C) = true
  exC : subIn K (.ref C) (.type "BaseException") = some true
  tyC : typeIn K (.ref C) = some (.type "type")
  hdC : hasDictIn K C = true
  te : exmOne K (.ref C) (.ref C) = some true
  fn : ∃ (oc : Value) (od : Option Addr) (doc pm : Value) (an : Option Addr) (cdv ct : Value) (osl : Array (Option Value)) (p1 p2 q1 q2 q3 q4 : Pos),
    K.lookup fI = some ⟨oc, od, .func (fnOf "__init__" qn (iA p1 p2) (iB q1 q2 q3 q4) iS .none .none doc pm an cdv ct), osl⟩ ∧ codeIn K cdv qn = true
theorem one_size (v : Value) : [v].length ≤ sizeLine := by
  rw [sizeLine_eq]
  exact (by decide : 1 ≤ 16777216)
theorem kept_but {K : Frag} {h h' : Heap} {x : Addr} (X : K.In h) (hx : K.lookup x = none) (k : ∀ b o, b ≠ x → h.get? b = some o → h'.get? b = some o) : K.In h' := fun a o e =>
  k a o (fun z => by rw [z, hx] at e; cases e) (X a o e)
theorem ldC {M : Model} {s : Shared} {name : Str} {scope : Scope} {L a : Addr} {cd : Value} {m : Str → Option Value} {x : Str} {pos : Pos} {v : Value} {Q : Value → Shared → Prop} {A : Around} {E : Value → Shared → Prop} (hn : s.heap.Ns L m) (hv : m x = some v) (h : Q v s)
    (hk : scope.kind = .function := by rfl) (hl : (envOfC name scope L a cd).kindOf x = some .local := by rfl) (hd : (x == ("__debug__" : Str)) = false := by decide) :
    wpAny M A (eval (.Name x pos) (envOfC name scope L a cd)) Q E s := wpAny_Name (wpAny_loadName_local hk hl hn hv h) hd
/-- what __init__ leaves of a fresh exception at x -/
structure InitEnd (h h' : Heap) (x C dx t1 : Addr) (v : Value) : Prop where
  keep : ∀ b o, b ≠ x → h.get? b = some o → h'.get? b = some o
  obj : h'.get? x = some { cls := .ref C, dict := some dx, data := .fields #[.ref t1, .none, .none, .none, .bool false, .none] }
  dbig : h.objs.size ≤ dx
  dne : dx ≠ x
  ns : h'.Ns1 dx (fun y => if y = "part" then some v else none)
/-- a made Low -/
structure OwnMade (h h' : Heap) (e C d : Addr) (v : Value) : Prop where
  keep : ∀ b o, h.get? b = some o → h'.get? b = some o
  new : h.objs.size ≤ e
  obj : ∃ oe vs, h'.get? e = some oe ∧ oe.cls = .ref C ∧ oe.dict = some d ∧ oe.data = .fields vs ∧ vs[1]? = some .none
  dbig : h.objs.size ≤ d
  dne : d ≠ e
  ns : h'.Ns1 d (fun y => if y = "part" then some v else none)
section
variable {prog : Program} {w : World} {A : Around} {E : Value → Shared → Prop} {R : Result → Shared → Prop} {s : Shared} {K : Frag} {mg : Str → Option Value} {C fI : Addr} {nx qn : Str}
theorem low_init (T : LowTxt nx qn K mg C fI) {x t0 : Addr} {v : Value} (X : K.In s.heap) (hlim : s.heap.NoLimit) (hx : s.heap.get? x = some (excO C t0)) (hnx : K.lookup x = none) (hroom : A.depth < recursionLimit)
    (hq : ∀ h' tk dx, InitEnd s.heap h' x C dx t0 v → R (.ok (.ret .none)) { s with heap := h', toks := tk }) :
    codeAny (model prog w) A (.call (.ref fI) ⟨[.ref x, v], []⟩) R s := by
  obtain ⟨oc, od, doc, pm, an, cdv, ct, osl, p1, p2, q1, q2, q3, q4, ho, hcd⟩ := T.fn
  obtain ⟨nm, q, N, bs, bm, sn, sub, ab, col, dd, k0, k1, k2, k3, k5, hC, hbm⟩ := T.cls
  have hcl : clsIn K C = some { name := nm, bases := bs, mro := .ref C :: bm, ns := N, qualname := q, hasDict := true, slotNames := sn, subclasses := sub, abstract := ab, collection := col, hasDel := false } := by unfold clsIn; rw [hC] <;> rfl
  refine Att.call_fn (binds := [("self", .ref x), ("part", v)]) X hlim ho hcd hroom (BindsTo.of_eq (by first | rfl | with_unfolding_all rfl)) (by first | rfl | decide | with_unfolding_all rfl) (fun s₁ IC => ?_) rfl rfl rfl
  obtain ⟨h₁, tk₁, rfl⟩ := IC.toInCall.same
  have k : ∀ b o, s.heap.get? b = some o → h₁.get? b = some o := IC.toInCall.keep
  have hn := IC.toInCall.ns
  have hxL : s.heap.objs.size ≠ x := Nat.ne_of_gt (Heap.lt_size hx)
  have X₁ : K.In h₁ := X.keeps k
  have hx₁ := k _ _ hx
  -- self.by = by
  show wpAny _ _ (execs _ _) _ _ _
  refine wpAny_execs_cons (plainObj_wpAny_Assign_Attribute ?_)
  refine ldC (v := v) hn (by first | rfl | with_unfolding_all rfl | kernel_rfl) (ldC (v := .ref x) hn (by first | rfl | with_unfolding_all rfl | kernel_rfl) ?_)
  refine set_plain X₁ (ox := excO C t0) (od := none) ⟨hx₁, rfl, rfl, trivial⟩ T.sa ?_
  refine exc_osa X₁ hx₁ hcl (show refsVE (.ref C :: bm) = true from hbm) rfl T.noN (fun h₃ tk₃ dx k₃ dn dne hx₃ hn₃ => ?_)
  show wpAny _ _ (execs _ _) _ _ _
  have z : s.heap.objs.size < h₁.objs.size := hn.lt
  exact wpAny_execs_nil (hq h₃ tk₃ dx ⟨fun b o hb e => k₃ b o hb (k b o e), hx₃, Nat.le_of_lt (Nat.lt_of_lt_of_le z dn), dne, hn₃⟩)
theorem low_made (T : LowTxt nx qn K mg C fI) {v : Value} (X : K.In s.heap) (hlim : s.heap.NoLimit) (hroom : A.depth + 1 < recursionLimit)
    (hq : ∀ h' tk e d, OwnMade s.heap h' e C d v → R (.ok (.ret (.ref e))) { s with heap := h', toks := tk }) :
    codeAny (model prog w) A (.call (.ref C) ⟨[v], []⟩) R s := by
  obtain ⟨nm, q, N, bs, bm, sn, sub, ab, col, dd, k0, k1, k2, k3, k5, hC, hbm⟩ := T.cls
  obtain ⟨hp, g, dr, tk, os⟩ := s
  have k : ∀ b o, hp.get? b = some o → ((hp.push (kdv_tup [v])).push (excO C hp.objs.size)).get? b = some o := fun b o e => Heap.get?_push_of_some _ (Heap.get?_push_of_some _ e)
  have hget : ((hp.push (kdv_tup [v])).push (excO C hp.objs.size)).get? (hp.objs.size + 1) = some (excO C hp.objs.size) := by heap_get
  have hnx : K.lookup (hp.objs.size + 1) = none := by
    cases e : K.lookup (hp.objs.size + 1) with
    | none => rfl
    | some o =>
      have z : hp.get? (hp.objs.size + 1) = some o := X _ _ e
      exact absurd (Nat.lt_of_succ_lt (Heap.lt_size z)) (Nat.lt_irrefl _)
  refine call_own F.excBase_ValueError (fun X => refsVE_contains X bm hbm) (X _ _ hC) (looks_findIn X T.iC) (fun self => bind_fn X self T.tC) (one_size v) ?_
  refine low_init (s := ⟨(hp.push (kdv_tup [v])).push (excO C hp.objs.size), g, dr, tk, os⟩) T (X.keeps k) (hlim.keeps k) hget hnx ?_ fun h' tk' dx ⟨k', hx, dn, dne, hns⟩ => ?_
  · show A.depth + 1 < recursionLimit
    exact hroom
  · have old : ∀ b o, hp.get? b = some o → h'.get? b = some o := fun b o e => k' b o (Nat.ne_of_lt (Nat.lt_succ_of_lt (Heap.lt_size e))) (k b o e)
    have z : hp.objs.size + 1 + 1 ≤ dx := by
      first
        | (simpa only [Heap.size_push] using dn)
        | exact dn
        | (have q := dn; rw [Heap.size_push, Heap.size_push] at q; exact q)
    exact ⟨rfl, hq h' tk' (hp.objs.size + 1) dx ⟨old, Nat.le_succ _, ⟨_, _, hx, rfl, rfl, rfl, rfl⟩, Nat.le_trans (Nat.le_trans (Nat.le_succ _) (Nat.le_succ _)) z, dne, hns⟩⟩
end
end LowX
end PySem
namespace L2
open PySem PySem.Spec PyProof.Rows
theorem relO_low {v : V} {v' : Value} (r : RelV v v') (f : Str) : RelO (List.lookup f [(("part" : Str), v)]) (if f = "part" then some v' else none) := by
  by_cases hw : f = "part"
  · subst hw
    rw [if_pos rfl]
    have q : List.lookup ("part" : Str) [(("part" : Str), v)] = some v := by simp [List.lookup]
    rw [q]
    exact r
  · rw [if_neg hw]
    have qw : (f == ("part" : Str)) = false := by simpa using hw
    have q2 : List.lookup f [(("part" : Str), v)] = none := by simp [List.lookup, qw]
    rw [q2]
    trivial
section
variable {X : Cx} {C fI : Addr} {nx qn : Str}
/-- Low(e) -/
def tMkLow (C : Addr) (ta : TA) : St → Hp → XK → Prop := fun σ H Q => ta σ H fun vs H1 => ∃ v, vs = [v] ∧ ∀ d, H1 d = none → Q (.ref C) (some d) (upd H1 d (.xd [(("part" : Str), v)]))
theorem pmk_low {a : Expr} {ta : TA} {p pos : Pos} {k : Nat} (T : PySem.LowX.LowTxt nx qn X.K X.mg C fI) (hr : Room k X.A) (ha : PA X [a] ta) (hg : Gl X nx := by rfl) (hnd : (nx == ("__debug__" : Str)) = false := by decide)
    (he : starEach (a :: []) X.env = (false, eval a X.env) :: starEach [] X.env := by rfl) (hpl : (backTo pos (starEach [] X.env)).any (·.1) = false := by rfl) :
    PMk X (.Call (.Name nx p) [a] [] pos) (tMkLow C ta) := by
  intro pins s σ H Q I h
  refine wpAny_Call_Name_kw (ld_glob I hg T.gC ?_ hnd)
  refine PySem.W.callWith_K (h₀ := X.base) I.ok.mod.kin T.kC (thn (ha.run pos pins s σ H _ I h) fun us s1 hh => ?_) he hpl
  obtain ⟨vs, H1, I1, r1, v, ev, q1⟩ := hh
  subst ev
  refine ⟨I1.kIn, ?_⟩
  cases r1 with
  | cons rv rn =>
    rename_i v' us'
    cases rn
    show wpAny _ _ (call (.ref C) [v']) _ _ _
    have hlim := I1.nolimit
    obtain ⟨hp, g, dr, tk, os⟩ := s1
    refine wpAny_call (PySem.LowX.low_made T I1.kIn hlim (by have := hr.dp; omega) fun h' tk' e d M => ?_)
    show MkP X pins σ Q (.ref e) ⟨h', g, dr, tk', os⟩
    obtain ⟨oe, fv, hoe, hc, hd, hdat, h1⟩ := M.obj
    have hns := M.ns
    obtain ⟨G', g1, g2⟩ := restrict h' fun b => decide (b ≠ e)
    have gk : ∀ b, b ≠ e → G'.get? b = h'.get? b := fun b hb => g1 b (decide_eq_true hb)
    have ge : G'.get? e = none := g2 e (by simp)
    have old : ∀ b o, hp.get? b = some o → G'.get? b = some o := fun b o q => (gk b (Nat.ne_of_lt (Nat.lt_of_lt_of_le (Heap.lt_size q) M.new))).trans (M.keep b o q)
    have ob : ObjOk X.prog X.w (upd H1 d (.xd [(("part" : Str), v)])) G' d (.xd [(("part" : Str), v)]) :=
      ⟨_, hns.at (fun o q => (gk d M.dne).trans q), fun f => relO_low rv f⟩
    have J : Inv X pins σ (upd H1 d (.xd [(("part" : Str), v)])) ⟨G', g, dr, tk', os⟩ := I1.laid (t' := tk') old M.dbig ob
    refine ⟨e, oe, fv, ⟨G', g, dr, tk', os⟩, _, .ref C, some d, rfl, J, fun b o q => ?_, ge, hoe, ⟨hc, hd⟩, hdat, h1, ?_, rfl, I1.bare, raises_own T.exC T.tyC, q1 d (I1.hok.fresh M.dbig)⟩
    · by_cases hb : b = e
      · have q' : G'.get? b = some o := q
        rw [hb, ge] at q'; cases q'
      · exact (gk b hb).symm.trans q
    · rw [upd_ne (Ne.symm M.dne)]
      exact I1.hok.fresh M.new
/-- raise Low(e) -/
def tRaiseLow (C : Addr) (W : WX) (ta : TA) : TS := fun _ σ H => tMkLow C ta σ H fun cls d H' => W cls d σ H'
theorem ps_raiseLow {a : Expr} {ta : TA} {W : WX} {p pos pos2 : Pos} {k : Nat} (hc : X.calm = true) (T : PySem.LowX.LowTxt nx qn X.K X.mg C fI) (hr : Room k X.A) (tk : Takes X W) (ha : PA X [a] ta) (hg : Gl X nx := by rfl) (hnd : (nx == ("__debug__" : Str)) = false := by decide)
    (he : starEach (a :: []) X.env = (false, eval a X.env) :: starEach [] X.env := by rfl) (hpl : (backTo pos (starEach [] X.env)).any (·.1) = false := by rfl) :
    PS X (.Raise (some (.Call (.Name nx p) [a] [] pos)) none pos2) (tRaiseLow C W ta) := ps_raise hc tk (pmk_low T hr ha hg hnd he hpl)
/-- low.by, low the exception that the suite holds (at a; its class cls, its dict d) -/
def tByLow (C : Addr) (a : Addr) (cls : Value) (d : Option Addr) (te : TE) : TE := fun σ H Q => te σ H fun x H1 => x = .ref a ∧ cls = .ref C ∧ ∃ (dd : Addr) (v : V), d = some dd ∧ H1 dd = some (.xd [(("part" : Str), v)]) ∧ Q v H1
theorem pe_byLow {a : Addr} {oe : Obj} {cls : Value} {d : Option Addr} {pn : List (Addr × Obj)} {e : Expr} {te : TE} {pos : Pos} (T : PySem.LowX.LowTxt nx qn X.K X.mg C fI) (hz : Zc cls d oe) (hf : ∃ vs, oe.data = .fields vs) (he : PE (X.suite a ((a, oe) :: pn)) e te)
    (hb : attributeBase e "part" X.env (eval e X.env) = eval e X.env := by rfl) :
    PE (X.suite a ((a, oe) :: pn)) (.Attribute e "part" pos) (tByLow C a cls d te) := by
  refine ⟨fun pins s σ H Q I h => ?_⟩
  refine attr_of hb (thn (he.run pins s σ H _ I h) fun u s1 hh => ?_)
  obtain ⟨x, H1, I1, rx, ex, ec, dd, v, ed, ea, q⟩ := hh
  subst ex
  obtain rfl : u = Value.ref a := rx
  subst ec
  subst ed
  obtain ⟨ha, _⟩ := I1.pin (a, oe) (List.mem_append_left _ List.mem_cons_self)
  obtain ⟨vs, hd⟩ := hf
  have hx : ObjOk X.prog X.w H1 s1.heap dd (.xd [(("part" : Str), v)]) := I1.hok dd _ ea
  obtain ⟨mA, hns, hr⟩ := hx
  obtain ⟨od, ho, hl⟩ := lookIn_ns hns
  have l : List.lookup ("part" : Str) [(("part" : Str), v)] = some v := by simp [List.lookup]
  obtain ⟨u, hu, ru⟩ := RelO.some_of (v := v) (o := mA "part") (by rw [← l]; exact hr "part")
  have J : PySem.W.InstAt s1.heap a oe C (some od) := ⟨ha, hz.1, by unfold PySem.W.notCls; rw [hd] <;> rfl, by rw [hz.2]; exact ho⟩
  exact HandSPX.exc_get I1.kIn J T.ga T.gg T.exC (PySem.W.findObj_own T.hdC T.noN rfl (by rw [hl, hu])) (handed_of ru) ⟨v, H1, I1.tok _, ru, q⟩
end
end L2

namespace L2
open PySem PySem.Spec PyProof.Rows
/-- an if whose test is known -/
theorem if_true_of {c : Bool} {A B : Prop} (hc : c = true) (h : A) : if c = true then A else B := by
  rw [if_pos hc]
  exact h
theorem if_false_of {c : Bool} {A B : Prop} (hc : c = false) (h : B) : if c = true then A else B := by
  rw [hc, if_neg Bool.false_ne_true]
  exact h
end L2
namespace Odd
open PySem PySem.Spec PyProof.Rows L2
/-! ### small rules that readings use -/
theorem cx_K {CX : CXT} {P : Program} {w : World} {K : PySem.W.Frag} {mg : Str → Option Value} {base : Heap} {N : List Str} {qual : Str} {sc : Scope} {f : Addr} {cd : Value} {A : Around} {outer : List Env} {s : Shared} {H : Hp} {E : XK} :
    (cxOf CX P w K mg base N qual sc f cd A outer s H E).K = K := rfl
theorem cx_Kn {X : Cx} : (Cx.nox X).K = X.K := rfl
def gSeq (K : PySem.W.Frag) (n : Nat) (t : TGs) : TG := fun v σ H Q => ∃ a xs, v = .ref a ∧ Sq K H a xs ∧ xs.length = n ∧ t xs σ H Q
theorem pg_seq2 {X : Cx} {pos : Pos} {es : List Expr} {k : Nat} {t : TGs} {n : Nat} (hc : X.calm = true) (h : PGs X es t)
    (hn : (assignEach es X.env).length = n := by rfl) (hst : (assignEach es X.env).findIdx? (·.1) = none := by rfl) : PG X (.Tuple es k pos) (gSeq X.K n t) := by
  refine ⟨fun pins s σ H v u Q I r hw => ?_⟩
  obtain ⟨a, xs, e1, hq, hl, hw⟩ := hw
  rcases hq with hq | hq
  · exact (pg_lst hc h hn hst).run pins s σ H v u Q I r ⟨a, xs, e1, hq, hl, hw⟩
  · exact (pg_tup hc h hn hst).run pins s σ H v u Q I r ⟨a, xs, e1, hq, hl, hw⟩
section
variable {K : PySem.W.Frag} {H H0 : Hp} {Q : VK} {p : Addr} {xs : List V} {v : V} {i : Int}
theorem ixT (h : SqT K H p xs) (e : atI xs i = some v) (q : Q v H) : rIxT K (.ref p) (.int i) H Q := ⟨p, xs, i, v, rfl, rfl, h, e, q⟩
theorem ixL (h : SqL K H p xs) (e : atI xs i = some v) (q : Q v H) : rIxL K (.ref p) (.int i) H Q := ⟨p, xs, i, v, rfl, rfl, h, e, q⟩
theorem ty_int {T : String} (h : TyN K H v T) (q : Q (.bl (T == "int" || T == "bool")) H) : rIsi K [v, .ty "int"] H Q := by
  refine ⟨v, .ty "int", .type T, .type "int", _, rfl, .ty _, h.x, ?_, q⟩
  cases h <;> exact kit_ty (by decide +kernel)
theorem ty_bool {T : String} (h : TyN K H v T) (q : Q (.bl (T == "bool")) H) : rIsi K [v, .ty "bool"] H Q := by
  refine ⟨v, .ty "bool", .type T, .type "bool", _, rfl, .ty _, h.x, ?_, q⟩
  cases h <;> exact kit_ty (by decide +kernel)
theorem ty_tuple {T : String} (h : TyN K H v T) (q : Q (.bl (T == "tuple")) H) : rIsi K [v, .ty "tuple"] H Q := by
  refine ⟨v, .ty "tuple", .type T, .type "tuple", _, rfl, .ty _, h.x, ?_, q⟩
  cases h <;> exact kit_ty (by decide +kernel)
theorem ty_str {T : String} (h : TyN K H v T) (q : Q (.bl (T == "str")) H) : rIsi K [v, .ty "str"] H Q := by
  refine ⟨v, .ty "str", .type T, .type "str", _, rfl, .ty _, h.x, ?_, q⟩
  cases h <;> exact kit_ty (by decide +kernel)
theorem kl (T : String) (h : TyN K H v T) : PySem.W.kitOne K (.type T) (.type "list") = some (T == "list") := by
  cases h <;> exact kit_ty (by decide +kernel)
theorem kt (T : String) (h : TyN K H v T) : PySem.W.kitOne K (.type T) (.type "tuple") = some (T == "tuple") := by
  cases h <;> exact kit_ty (by decide +kernel)
theorem ty_row {T : String} (h : TyN K H v T) (hp : H p = some (.tup [.ty "list", .ty "tuple"])) (q : Q (.bl (T == "list" || T == "tuple")) H) : rIsiT K [v, .ref p] H Q := by
  refine ⟨v, p, _, .type T, [.type "list", .type "tuple"], _, rfl, hp, .cons (.ty _) (.cons (.ty _) .nil), h.x, ?_, q⟩
  refine kitAny_cons (kl T h) (fun e => ?_) (fun e => by rw [e] <;> rfl)
  rw [e, Bool.false_or]
  exact kitAny_cons (kt T h) (fun e => by rw [e]; exact kitAny_nil) (fun e => e)
end
theorem TyN.intI {K : PySem.W.Frag} {H : Hp} {v : V} {T : String} (h : TyN K H v T) (e : T = "int") : ∃ i, v = .int i := by
  cases h <;> first | exact ⟨_, rfl⟩ | exact absurd e (by decide)
theorem seq_by {t u : TS} {D : Ends} {σ : L2.St} {H : Hp} (h : ∀ N, N = u D → t { D with nx := N } σ H) : tSeq t u D σ H := h _ rfl
theorem dpAll_ints {K : PySem.W.Frag} {H : Hp} : ∀ ns : List Int, DpAll K H (ns.map V.int) (ns.map PyData.int)
  | [] => .nil
  | n :: ns => .cons (.int n) (dpAll_ints ns)
theorem dp_ints {K : PySem.W.Frag} {H : Hp} {a : Addr} {ns : List Int} (h : SqL K H a (ns.map V.int)) : Dp K H (.ref a) (.list (ns.map PyData.int)) := .lst h (dpAll_ints ns)
theorem dp_intsT {K : PySem.W.Frag} {H : Hp} {a : Addr} {ns : List Int} (h : SqT K H a (ns.map V.int)) : Dp K H (.ref a) (.tuple (ns.map PyData.int)) := .tup h (dpAll_ints ns)
theorem lay_ints : ∀ ns : List Int, PyData.canLayAll0 (ns.map PyData.int) = true
  | [] => by simp [PyData.canLayAll0]
  | n :: ns => by simp [PyData.canLayAll0, PyData.canLay0, lay_ints ns]
theorem dep_ints : ∀ ns : List Int, PyData.depthAll (ns.map PyData.int) = 0
  | [] => by simp [PyData.depthAll]
  | n :: ns => by simp [PyData.depthAll, PyData.depth, dep_ints ns]
theorem sh_ints (ns : List Int) : SeqAt.shaped (.list (ns.map PyData.int)) = true := by
  simp [SeqAt.shaped, PyData.canLay0, PyData.depth, lay_ints, dep_ints]
theorem sh_intsT (ns : List Int) : SeqAt.shaped (.tuple (ns.map PyData.int)) = true := by
  simp [SeqAt.shaped, PyData.canLay0, PyData.depth, lay_ints, dep_ints]
theorem eqv_ints : ∀ ns ms : List Int, PyData.eqvAll (ns.map PyData.int) (ms.map PyData.int) = decide (ns = ms)
  | [], [] => by simp [PyData.eqvAll]
  | [], m :: ms => by simp [PyData.eqvAll]
  | n :: ns, [] => by simp [PyData.eqvAll]
  | n :: ns, m :: ms => by
    rw [List.map_cons, List.map_cons, PyData.eqvAll, eqv_ints ns ms, PyData.eqv, Bool.eq_iff_iff]
    simp
section
variable {X : Cx} {CX : CXT} {k : Nat} {f : Addr} {fd : FuncData} {ps ks : List Str} {sp : Sp} {E : XK} {x : Str} {p pos : Pos} {kws : List Keyword} {tk : TA} {g : List Value → List Value → List Value} {gV : List V → List V → List V}
/-- f(k = v, ..) -/
theorem pe_callN0 (F : FnOk X.prog X.w X.K X.mg X.base CX k f fd ps sp) (hr : Room k X.A) (hg : Gl X x) (hm : X.mg x = some (.ref f)) (hk : PySem.W.keepIn X.K (.ref f) = true) (hb : KBn X.K fd ps 0 ks g gV) (hx : Passes CX X E)
    (hkw : PK X kws tk) (hall : (backToKw pos (keywordEach kws X.env)).all (·.1.isSome) = true := by rfl) (hks : (backToKw pos (keywordEach kws X.env)).filterMap (·.1) = ks := by rfl)
    (hdb : (x == ("__debug__" : Str)) = false := by decide) (hpl : ((backTo pos (starEach [] X.env)).any (·.1) || (backToKw pos (keywordEach kws X.env)).any (·.1.isNone)) = false := by rfl) :
    PE X (.Call (.Name x p) [] kws pos) (tCallN 0 ks.length sp gV E tNil tk) := by
  refine ⟨fun pins s σ H Q I h => ?_⟩
  refine wpAny_Call_Name_kw (ld_glob I hg hm ?_ hdb)
  refine PySem.W.callWith_KW0 (h₀ := X.base) I.ok.mod.kin hk hall (thn (hkw.run pos pins s σ H _ I h) fun ws s2 ⟨zs, H2, I2, rz, l1, l2, q2⟩ => ⟨I2.kIn, ?_⟩) hpl
  rw [hks]
  exact run_fnN (us := []) F hr hb hx I2 .nil rz l1 l2 q2
end
/-- a def without defaults, called by keywords alone, in the parameters' order -/
theorem fun_kb {K : PySem.W.Frag} {x qual : Str} {st : Stmt} {f : Addr} {fd : FuncData} {ps : List Str} (F : Fun K x qual st f fd)
    (h : ∀ (kV doc pm : Value) (an : Option Addr) (cdv ct : Value) (ws : List Value), ws.length = ps.length → bindArgs (PySem.W.fnOf x qual (defArgs st) (defBody st) (defScope st) .none kV doc pm an cdv ct) ⟨[], ps.zip ws⟩ = pure (ps.zip ws)) : KBn K fd ps 0 ps (fun _ ws => ws) (fun _ zs => zs) := by
  obtain ⟨oc, od, kV, doc, pm, an, cdv, ct, osl, rfl, lk, hcd⟩ := F.ex
  refine ⟨fun s us ws X l1 l2 => ?_, fun _ r => r⟩
  obtain rfl := List.eq_nil_of_length_eq_zero l1
  exact .of_eq (h kV doc pm an cdv ct ws l2)
/-- a def with defaults, called by keywords alone -/
theorem funD_kb {K : PySem.W.Frag} {x qual : Str} {params : Arguments} {body : List Stmt} {scope : Scope} {dvs : List V} {f : Addr} {fd : FuncData} {ps ks : List Str} {j : Nat} (F : FunD K x qual params body scope dvs [] f fd) (hd : dvs ≠ [])
    (h : ∀ (T : Addr) (kV doc pm : Value) (an : Option Addr) (cdv ct : Value) (its ws : List Value), its.length = dvs.length → ws.length = ks.length →
      ∃ k, bindArgs (PySem.W.fnOf x qual params body scope (.ref T) kV doc pm an cdv ct) ⟨[], ks.zip ws⟩ = seqItems? (.ref T) >>= k ∧ k (some its.toArray) = pure (ps.zip (ws ++ its.drop j))) :
    ∃ its : List Value, KBn K fd ps 0 ks (fun _ ws => ws ++ its.drop j) (fun _ zs => zs ++ dvs.drop j) := by
  obtain ⟨oc, od, dV, kV, doc, pm, an, cdv, ct, osl, rfl, lk, hcd, hD, hK⟩ := F.ex
  rcases hD with ⟨e, _⟩ | ⟨_, T, o, its, m, rfl, lT, oT, rT⟩
  · exact absurd e hd
  · refine ⟨its, fun s us ws X l1 l2 => ?_, fun _ r => r.append (rT.drop j)⟩
    obtain rfl := List.eq_nil_of_length_eq_zero l1
    obtain ⟨k, e1, e2⟩ := h T kV doc pm an cdv ct its ws rT.length.symm l2
    refine BindsTo.of_looks fun M => ?_
    rw [e1]
    exact looks_items X lT oT (.of_pure e2)
theorem call_reprB {X : Cx} : CallR X (.builtin "repr") (fun xs H Q => ∃ b : Bool, xs = [.bl b] ∧ Q (.str (if b = true then "True" else "False")) H) := fun pins s σ H xs us Q I r h => call_reprX pins s σ H xs us Q I r (.inr h)
theorem call_reprI {X : Cx} : CallR X (.builtin "repr") (fun xs H Q => ∃ i : Int, xs = [.int i] ∧ i.natAbs.log2 < 1920 ∧ Q (.str (toString i)) H) := fun pins s σ H xs us Q I r h => call_reprX pins s σ H xs us Q I r (.inl h)
def optV : Option Int → V
  | none => .non
  | some i => .int i
theorem is_int {K : PySem.W.Frag} {H : Hp} {v : V} (T : String) (h : TyN K H v T) : ((T == "int" || T == "bool") && !(T == "bool")) = (T == "int") := by
  cases h <;> decide
theorem Num.ty {K : PySem.W.Frag} {H : Hp} {v : V} {q : Int × Int} (h : Num K H v q) : ∃ T, TyN K H v T ∧ (T = "int" ∨ T = "list" ∨ T = "tuple") := by
  cases h with
  | int n => exact ⟨_, .int n, .inl rfl⟩
  | sq h c =>
    rcases h with h | h
    · exact ⟨_, .lst h, .inr (.inl rfl)⟩
    · exact ⟨_, .tup h, .inr (.inr rfl)⟩
theorem Sq.ty {K : PySem.W.Frag} {H : Hp} {p : Addr} {xs : List V} (h : Sq K H p xs) : ∃ T, TyN K H (.ref p) T ∧ (T == "list" || T == "tuple") = true := by
  rcases h with h | h
  · exact ⟨_, .lst h, by decide⟩
  · exact ⟨_, .tup h, by decide⟩
end Odd
namespace Odd
open PySem PySem.Spec PyProof.Rows L2
/-! ### repr of lists and tuples: it asks that no such text is being made around; so what is known of the guards goes along -/
def rRepr (K : PySem.W.Frag) : List V → Hp → VK → Prop := fun xs H Q => ∃ a d, xs = [.ref a] ∧ Dp K H (.ref a) d ∧ d.showable = true ∧ d.hasDict = false ∧ d.depth ≤ 60 ∧ d.shown.length ≤ sizeLine ∧ Q (.str d.shown) H
theorem call_reprD {X : Cx} (hg : X.A.guards = some []) (hu : X.A.units + 64 < cLine) : CallR X (.builtin "repr") (rRepr X.K) := by
  intro pins s σ H xs us Q I r h
  obtain ⟨a, d, rfl, hd, h1, h2, h3, h4, q⟩ := h
  obtain ⟨u, rfl, e⟩ := vals1 r
  obtain rfl : u = Value.ref a := e
  obtain ⟨as, hr⟩ := Dp.reads I d _ _ hd rfl
  exact repr_of_reads' hr h1 (PyData.noDict_hsm h2) hg (by omega) (fun _ _ z => z) (fun h' t tk k => ⟨.str d.shown, H, I.kept (h' := h') (t' := tk) k, ⟨t, rfl⟩, q⟩) h4
/-- a def's promise where the guards are known to be none -/
structure GOk (P : Program) (w : World) (K : PySem.W.Frag) (mg : Str → Option Value) (base : Heap) (CX : CXT) (k : Nat) (f : Addr) (fd : FuncData) (ps : List Str) (sp : Sp) : Prop where
  size : ∀ vs H Q E, sp vs H Q E → vs.length = ps.length
  go : ∀ {A : Around} {outer : List Env} {s : Shared} {H : Hp} {args : Args} {us : List Value} {vs : List V} {Q : VK} {E : XK}, A.guards = some [] → Room k A → Env0 P w K mg base A outer s H →
    BindsTo s fd args (ps.zip us) → Vals vs us → sp vs H Q E → codeAny (model P w) A (.call (.ref f) args) (CR CX outer P w H s Q E) s
section
variable {P : Program} {w : World} {K : PySem.W.Frag} {mg : Str → Option Value} {base : Heap}
/-- from a def's text and its body -/
theorem gok {x qual : Str} {st : Stmt} {f : Addr} {fd : FuncData} {N ps : List Str} {k : Nat} {sp : Sp} (F : Fun K x qual st f fd) (S : FnScope N ps (defScope st)) (size : ∀ vs H Q E, sp vs H Q E → vs.length = ps.length)
    (body : ∀ (cdv : Value) (A : Around) (outer : List Env) (s : Shared) (H : Hp) (vs : List V) (Q : VK) (E : XK), A.guards = some [] → Room k (A.deeper (envOfC qual (defScope st) s.heap.objs.size f cdv)) → sp vs H Q E →
      ∃ t, PSs (cxOf CX0 P w K mg base N qual (defScope st) f cdv A outer s H E).nox (defBody st) t ∧ t { nx := fun _ H' => Q .non H', rt := Q } (start N vs) H) : GOk P w K mg base CX0 (k + 1) f fd ps sp := by
  obtain ⟨oc, od, kV, doc, pm, an, cdv, ct, osl, rfl, lk, hcd⟩ := F.ex
  constructor
  · exact size
  intro A outer s H args us vs Q E hg hr e0 hb r hsp
  have up := fun b o (e : base.get? b = some o) => (e0.bs b o e).1
  have In := e0.mod.kin.keeps up
  have free := e0.mod.nolimit.keeps up
  have kinds : ∀ y ∈ ps.zip us, (defScope st).names.lookup y.1 = some .local ∨ ((defScope st).names.lookup y.1 = some .cell ∧ ((cellsFrom (s.heap.objs.size + 1) (defScope st).names []).lookup y.1).isSome = true) := by
    rintro ⟨n, v⟩ hy
    cases S.par n (List.of_mem_zip hy).1 with
    | inl q => exact Or.inl q
    | inr q => exact Or.inr ⟨q, PySem.W.cellsFrom_some _ _ _ (Or.inl q)⟩
  apply codeAny_call_function hr.depth (In _ _ lk) rfl S.co S.gen rfl (PySem.W.codeRec_of In hcd)
  apply hb
  apply wpAny_newFunctionEnv_cells S.kind kinds
  rintro env rfl s1 x
  refine ⟨free.keeps x.toInCall.keep, codeAny_func ?_⟩
  obtain ⟨t, ht, hq⟩ := body cdv A outer s H vs Q E hg (hr.deeper _) hsp
  have I := inv_start (CX := CX0) (mg := mg) (base := base) (E := E) S hr.hd e0 (size _ _ _ _ hsp) r x
  apply wpAny_mono (ht.nox.run [] s1 (start N vs) H _ I hq) _ (fun e s' hs => hs)
  intro fl s' hs
  cases fl with
  | ret u =>
    obtain ⟨v, σ', H', J, rv, q⟩ := hs
    exact ⟨v, H', J.os, J.bare, J.base, J.hok, rv, q⟩
  | next =>
    obtain ⟨σ', H', J, q⟩ := hs
    exact ⟨.non, H', J.os, J.bare, J.base, J.hok, rfl, q⟩
  | brk => exact hs.elim fun _ z => z.elim fun _ z => z.2.elim
  | cont => exact hs.elim fun _ z => z.elim fun _ z => z.2.elim
end
section
variable {X : Cx} {k : Nat} {f : Addr} {fd : FuncData} {ps : List Str} {sp : Sp} {x : Str} {p pos : Pos} {e : Expr} {es : List Expr} {t : TA}
theorem pe_callG (F : GOk X.prog X.w X.K X.mg X.base CX0 k f fd ps sp) (hgu : X.A.guards = some []) (hr : Room k X.A) (hg : Gl X x) (hm : X.mg x = some (.ref f)) (hk : PySem.W.keepIn X.K (.ref f) = true) (hb : Binds X.K fd ps [])
    (ha : PA X (e :: es) t) (hdb : (x == ("__debug__" : Str)) = false := by decide) (he : starEach (e :: es) X.env = (false, eval e X.env) :: starEach es X.env := by rfl) (hpl : (backTo pos (starEach es X.env)).any (·.1) = false := by rfl) :
    PE X (.Call (.Name x p) (e :: es) [] pos) (tCall sp [] E0 t) := by
  constructor
  intro pins s σ H Q I h
  apply wpAny_Call_Name_kw
  apply ld_glob I hg hm _ hdb
  apply PySem.W.callWith_K (h₀ := X.base) I.ok.mod.kin hk _ he hpl
  apply thn (ha.run pos pins s σ H _ I h)
  rintro us s1 ⟨vs, H1, I1, r, q⟩
  refine ⟨I1.kIn, wpAny_call (codeAny_mono (F.go hgu hr I1.env0 ?_ (vs := vs) (us := us) (Q := Q) (E := E0) r (by rw [List.append_nil] at q; exact q)) ?_)⟩
  · have b := hb s1 us I1.kIn (by rw [List.append_nil, ← r.length]; rw [List.append_nil] at q; exact F.size _ _ _ _ q)
    rwa [List.append_nil] at b
  · intro r' s' hq
    match r', hq with
    | .error e, hq => exact hq.elim
    | .ok (.ret u), hq => exact I1.after hq
end
end Odd
namespace Odd
open PySem PySem.Spec PyProof.Rows L2
/-! ### the end of a law whose def's promise speaks of the guards -/
/-- the script as the only thing that is tracked, or nothing at all -/
def scrH (a : Addr) (ob : Obj) (ns : List Int) (t : Bool) : Hp := fun b => if b = a ∧ t = true then some (.frz ob (.lst (ns.map V.int))) else none
theorem scrH_at {a b : Addr} {ob : Obj} {ns : List Int} {t : Bool} {u : HO} (h : scrH a ob ns t b = some u) : b = a ∧ t = true ∧ u = .frz ob (.lst (ns.map V.int)) := by
  unfold scrH at h
  split at h
  · rename_i c
    exact ⟨c.1, c.2, (Option.some.inj h).symm⟩
  · cases h
theorem walk_ofG {l : PySem.W.OpenLaw} {n k : Nat} {q : Program} {loose : List Str} {XP : (Str → Option Value) → Heap → Prop} {YP : World → Heap → Prop} {d : DefRec} {K : Params → PySem.W.Frag} {sp : World → Sp} {x : Str}
    (hn : l.most = some n) (hn2 : n ≤ sizeLine) (hdf : d.params.defaults = []) (hr : Room k callerA) (hY : ∀ (w : World) (h : Heap), YP w h → (K w.params).In h)
    (F : ∀ (w : World) (mg : Str → Option Value) (fa : Addr) (h : Heap), (K w.params).In h → h.Ns mainGlobals mg → mg d.name = some (.ref fa) →
      ∃ fd : FuncData, (∀ (s : Shared) (u : Value), BindsTo s fd ⟨[u], []⟩ [(x, u)]) ∧ ∀ base : Heap, (K w.params).In base → base.Ns mainGlobals mg → GOk l.prog w (K w.params) mg base CX0 k fa fd [x] (sp w))
    (hsp : ∀ (w : World) (H : Hp) (a : Addr) (ns : List Int), ns.length ≤ n → SqL (K w.params) H a (ns.map V.int) → sp w [.ref a] H (fun v _ => v = .bl true) E0) :
    PySem.W.WalkO q loose XP YP l.row.toRowW d [] (fun f vs => PySem.call f vs) := by
  refine Att.attach_call hn hdf fun w s₀ s₁ mg mb fa o pm cd doc a vs ns G Y ho hd hcd hmg hobj hints hlen hg => ?_
  have KX := hY w _ Y
  obtain ⟨fd, hbind, hF⟩ := F w mg fa _ KX G.T.g hmg
  have rv := vals_ints hints
  -- tracked: unless it stands in the written part
  obtain ⟨t, ht⟩ : ∃ t : Bool, t = true ↔ (K w.params).lookup a = none := by
    cases e : (K w.params).lookup a with
    | none => exact ⟨true, by simp⟩
    | some o => exact ⟨false, by simp⟩
  let ob : Obj := { cls := .type "list", data := .seq vs.toArray }
  have hob : s₁.heap.get? a = some ob := hobj
  have hok : HOk l.prog w (scrH a ob ns t) s₁.heap := by
    intro b u z
    obtain ⟨rfl, _, rfl⟩ := scrH_at z
    exact ⟨hob, by rw [List.length_map]; exact Nat.le_trans hlen hn2, vs, _, rv, hob⟩
  have hS : SqL (K w.params) (scrH a ob ns t) a (ns.map V.int) := by
    cases t with
    | true => exact .inl (.inr ⟨ob, if_pos ⟨rfl, rfl⟩⟩)
    | false =>
      cases e : (K w.params).lookup a with
      | none => exact absurd (ht.mpr e) Bool.false_ne_true
      | some o =>
        have e' := KX a o e
        rw [hob] at e'
        cases e'
        exact .inr ⟨_, vs.toArray, _, e, rfl, rfl, rfl, by rw [List.size_toArray, hints.length]; exact Nat.le_trans hlen hn2, by simpa using rv⟩
  -- what the top has left is not tracked
  have apart : ∀ {b : Addr} {ob' : Obj}, s₁.heap.get? b = some ob' → (∀ n' its, ob'.data ≠ .seq its n') ∨ (K w.params).lookup b ≠ none → scrH a ob ns t b = none := by
    intro b ob' e h
    cases z : scrH a ob ns t b with
    | none => rfl
    | some u =>
      obtain ⟨rfl, ht', _⟩ := scrH_at z
      rcases h with h | h
      · rw [hob] at e
        cases e
        exact absurd rfl (h _ _)
      · exact absurd (ht.mp ht') h
  have ns2 : ∀ {b : Addr} {m : Str → Option Value}, s₁.heap.Ns b m → (hidT s₁.heap (scrH a ob ns t)).Ns b m := by
    rintro b m ⟨o', es, ep, e, dd, r⟩
    exact ⟨o', es, ep, hidT_get e (apart e (.inl fun n' its z => by rw [dd] at z; cases z)), dd, r⟩
  have kin : (K w.params).In (hidT s₁.heap (scrH a ob ns t)) := fun b o' e => hidT_get (KX b o' e) (apart (KX b o' e) (.inr fun z => by rw [z] at e; cases e))
  obtain ⟨mc, lim1, lim2⟩ := G.T.nolimit
  have e0 : Env0 l.prog w (K w.params) mg (hidT s₁.heap (scrH a ob ns t)) callerA [] s₁ (scrH a ob ns t) :=
    ⟨rfl, ⟨kin, ns2 G.T.g, ⟨mb, ns2 G.T.b, G.T.builtins⟩, mc, ns2 lim1, lim2⟩, fun b o' e => of_hidT e, Nat.le_of_eq (hidT_size _ _), trivial, fun b hb => absurd (show b ∈ ([] : List Addr) from hb) (by simp), hok, .of_eq hg⟩
  refine codeAny_mono ((hF _ kin (ns2 G.T.g)).go (us := [.ref a]) (vs := [.ref a]) rfl hr e0 (hbind s₁ (.ref a)) (.cons rfl .nil) (hsp w _ a ns hlen hS)) ?_
  intro r s' h
  match r, h with
  | .error e, h => exact h.elim
  | .ok (.ret u), h =>
    obtain ⟨v, H', os, bare, un, hok', r', qq⟩ := h
    obtain rfl : v = .bl true := qq
    obtain rfl : u = Value.bool true := r'
    refine ⟨rfl, OldK.of_keep fun b ob' e => ?_, os, bare⟩
    cases z : scrH a ob ns t b with
    | none => exact un.keep b ob' e z (by intro y; exact absurd (show b ∈ ([] : List Addr) from y) (by simp)) (by simp)
    | some u =>
      obtain ⟨rfl, ht', rfl⟩ := scrH_at z
      have z2 := un.frzs b ob _ z
      obtain ⟨e2, _⟩ := hok' b _ z2
      rw [hob] at e
      cases e
      exact e2
end Odd
namespace Odd
open PySem PySem.Spec PyProof.Rows L2
def topS (i : Nat) : Stmt := PySem.Challenge.pw_oddsquares_k02_points_and_vectors.main.body.getD i (.Pass ⟨0, 0, 0, 0⟩)
abbrev s_lowest : Stmt := topS 2
theorem sc_lowest : FnScope ["top", "under", "part"] ["top", "under"] (defScope s_lowest) := ⟨rfl, rfl, rfl, by decide +kernel, rfl, by decide +kernel, by decide +kernel⟩
abbrev s_pair_of : Stmt := topS 3
theorem sc_pair_of : FnScope ["value"] ["value"] (defScope s_pair_of) := ⟨rfl, rfl, rfl, by decide +kernel, rfl, by decide +kernel, by decide +kernel⟩
abbrev s_negative : Stmt := topS 4
theorem sc_negative : FnScope ["value"] ["value"] (defScope s_negative) := ⟨rfl, rfl, rfl, by decide +kernel, rfl, by decide +kernel, by decide +kernel⟩
abbrev s_sum_of : Stmt := topS 5
theorem sc_sum_of : FnScope ["one", "other"] ["one", "other"] (defScope s_sum_of) := ⟨rfl, rfl, rfl, by decide +kernel, rfl, by decide +kernel, by decide +kernel⟩
abbrev s_difference : Stmt := topS 6
theorem sc_difference : FnScope ["one", "other"] ["one", "other"] (defScope s_difference) := ⟨rfl, rfl, rfl, by decide +kernel, rfl, by decide +kernel, by decide +kernel⟩
abbrev s_product_of : Stmt := topS 7
theorem sc_product_of : FnScope ["one", "other"] ["one", "other"] (defScope s_product_of) := ⟨rfl, rfl, rfl, by decide +kernel, rfl, by decide +kernel, by decide +kernel⟩
abbrev s_is_integer : Stmt := topS 9
theorem sc_is_integer : FnScope ["value"] ["value"] (defScope s_is_integer) := ⟨rfl, rfl, rfl, by decide +kernel, rfl, by decide +kernel, by decide +kernel⟩
abbrev s_is_within : Stmt := topS 10
theorem sc_is_within : FnScope ["value", "least", "most"] ["value", "least", "most"] (defScope s_is_within) := ⟨rfl, rfl, rfl, by decide +kernel, rfl, by decide +kernel, by decide +kernel⟩
abbrev s_is_row : Stmt := topS 11
theorem sc_is_row : FnScope ["value"] ["value"] (defScope s_is_row) := ⟨rfl, rfl, rfl, by decide +kernel, rfl, by decide +kernel, by decide +kernel⟩
abbrev s_is_pair : Stmt := topS 12
theorem sc_is_pair : FnScope ["value"] ["value"] (defScope s_is_pair) := ⟨rfl, rfl, rfl, by decide +kernel, rfl, by decide +kernel, by decide +kernel⟩
abbrev s_is_number : Stmt := topS 13
theorem sc_is_number : FnScope ["value", "top", "under"] ["value"] (defScope s_is_number) := ⟨rfl, rfl, rfl, by decide +kernel, rfl, by decide +kernel, by decide +kernel⟩
abbrev s_is_point : Stmt := topS 14
theorem sc_is_point : FnScope ["value"] ["value"] (defScope s_is_point) := ⟨rfl, rfl, rfl, by decide +kernel, rfl, by decide +kernel, by decide +kernel⟩
abbrev s_are_points : Stmt := topS 15
theorem sc_are_points : FnScope ["value", "least", "most", "item"] ["value", "least", "most"] (defScope s_are_points) := ⟨rfl, rfl, rfl, by decide +kernel, rfl, by decide +kernel, by decide +kernel⟩
abbrev s_point_of : Stmt := topS 21
theorem sc_point_of : FnScope ["value"] ["value"] (defScope s_point_of) := ⟨rfl, rfl, rfl, by decide +kernel, rfl, by decide +kernel, by decide +kernel⟩
abbrev s_joined : Stmt := topS 22
theorem sc_joined : FnScope ["one", "other"] ["one", "other"] (defScope s_joined) := ⟨rfl, rfl, rfl, by decide +kernel, rfl, by decide +kernel, by decide +kernel⟩
abbrev s_way_between : Stmt := topS 23
theorem sc_way_between : FnScope ["start", "end"] ["start", "end"] (defScope s_way_between) := ⟨rfl, rfl, rfl, by decide +kernel, rfl, by decide +kernel, by decide +kernel⟩
abbrev s_stretched : Stmt := topS 24
theorem sc_stretched : FnScope ["way", "factor"] ["way", "factor"] (defScope s_stretched) := ⟨rfl, rfl, rfl, by decide +kernel, rfl, by decide +kernel, by decide +kernel⟩
abbrev s_turned : Stmt := topS 25
theorem sc_turned : FnScope ["way"] ["way"] (defScope s_turned) := ⟨rfl, rfl, rfl, by decide +kernel, rfl, by decide +kernel, by decide +kernel⟩
abbrev s_cross_of : Stmt := topS 26
theorem sc_cross_of : FnScope ["one", "other"] ["one", "other"] (defScope s_cross_of) := ⟨rfl, rfl, rfl, by decide +kernel, rfl, by decide +kernel, by decide +kernel⟩
abbrev s_dot_of : Stmt := topS 27
theorem sc_dot_of : FnScope ["one", "other"] ["one", "other"] (defScope s_dot_of) := ⟨rfl, rfl, rfl, by decide +kernel, rfl, by decide +kernel, by decide +kernel⟩
abbrev s_moved : Stmt := topS 28
theorem sc_moved : FnScope ["start", "way", "share"] ["start", "way", "share"] (defScope s_moved) := ⟨rfl, rfl, rfl, by decide +kernel, rfl, by decide +kernel, by decide +kernel⟩
abbrev s_number_in : Stmt := topS 30
theorem sc_number_in : FnScope ["value", "part"] ["value", "part"] (defScope s_number_in) := ⟨rfl, rfl, rfl, by decide +kernel, rfl, by decide +kernel, by decide +kernel⟩
abbrev s_point_in : Stmt := topS 31
theorem sc_point_in : FnScope ["value", "part"] ["value", "part"] (defScope s_point_in) := ⟨rfl, rfl, rfl, by decide +kernel, rfl, by decide +kernel, by decide +kernel⟩
abbrev s_point : Stmt := topS 33
theorem sc_point : FnScope ["x", "y"] ["x", "y"] (defScope s_point) := ⟨rfl, rfl, rfl, by decide +kernel, rfl, by decide +kernel, by decide +kernel⟩
abbrev s_added : Stmt := topS 34
theorem sc_added : FnScope ["one", "other"] ["one", "other"] (defScope s_added) := ⟨rfl, rfl, rfl, by decide +kernel, rfl, by decide +kernel, by decide +kernel⟩
abbrev s_taken : Stmt := topS 35
theorem sc_taken : FnScope ["one", "other", "start"] ["one", "other"] (defScope s_taken) := ⟨rfl, rfl, rfl, by decide +kernel, rfl, by decide +kernel, by decide +kernel⟩
abbrev s_scaled : Stmt := topS 36
theorem sc_scaled : FnScope ["vector", "factor", "told"] ["vector", "factor"] (defScope s_scaled) := ⟨rfl, rfl, rfl, by decide +kernel, rfl, by decide +kernel, by decide +kernel⟩
abbrev s_quarter : Stmt := topS 37
theorem sc_quarter : FnScope ["vector"] ["vector"] (defScope s_quarter) := ⟨rfl, rfl, rfl, by decide +kernel, rfl, by decide +kernel, by decide +kernel⟩
abbrev s_cross : Stmt := topS 38
theorem sc_cross : FnScope ["one", "other"] ["one", "other"] (defScope s_cross) := ⟨rfl, rfl, rfl, by decide +kernel, rfl, by decide +kernel, by decide +kernel⟩
abbrev s_dot : Stmt := topS 39
theorem sc_dot : FnScope ["one", "other"] ["one", "other"] (defScope s_dot) := ⟨rfl, rfl, rfl, by decide +kernel, rfl, by decide +kernel, by decide +kernel⟩
abbrev s_squared : Stmt := topS 40
theorem sc_squared : FnScope ["one", "other", "way"] ["one", "other"] (defScope s_squared) := ⟨rfl, rfl, rfl, by decide +kernel, rfl, by decide +kernel, by decide +kernel⟩
abbrev s_between : Stmt := topS 41
theorem sc_between : FnScope ["one", "other", "share", "start", "way"] ["one", "other", "share"] (defScope s_between) := ⟨rfl, rfl, rfl, by decide +kernel, rfl, by decide +kernel, by decide +kernel⟩
abbrev s__law_vase : Stmt := topS 43
theorem sc__law_vase : FnScope ["script", "cell"] ["script"] (defScope s__law_vase) := ⟨rfl, rfl, rfl, by decide +kernel, rfl, by decide +kernel, by decide +kernel⟩
abbrev s__law_fill : Stmt := topS 44
theorem sc__law_fill : FnScope ["vase", "many", "rest", "at", "cell", "mixed"] ["vase", "many"] (defScope s__law_fill) := ⟨rfl, rfl, rfl, by decide +kernel, rfl, by decide +kernel, by decide +kernel⟩
abbrev s__law_one_of : Stmt := topS 45
theorem sc__law_one_of : FnScope ["vase", "some"] ["vase", "some"] (defScope s__law_one_of) := ⟨rfl, rfl, rfl, by decide +kernel, rfl, by decide +kernel, by decide +kernel⟩
abbrev s__law_shared : Stmt := topS 46
theorem sc__law_shared : FnScope ["one", "other", "a", "b", "turn"] ["one", "other"] (defScope s__law_shared) := ⟨rfl, rfl, rfl, by decide +kernel, rfl, by decide +kernel, by decide +kernel⟩
abbrev s__law_low : Stmt := topS 47
theorem sc__law_low : FnScope ["top", "under", "shared"] ["top", "under"] (defScope s__law_low) := ⟨rfl, rfl, rfl, by decide +kernel, rfl, by decide +kernel, by decide +kernel⟩
abbrev s__law_sum : Stmt := topS 48
theorem sc__law_sum : FnScope ["one", "other"] ["one", "other"] (defScope s__law_sum) := ⟨rfl, rfl, rfl, by decide +kernel, rfl, by decide +kernel, by decide +kernel⟩
abbrev s__law_product : Stmt := topS 49
theorem sc__law_product : FnScope ["one", "other"] ["one", "other"] (defScope s__law_product) := ⟨rfl, rfl, rfl, by decide +kernel, rfl, by decide +kernel, by decide +kernel⟩
abbrev s__law_less : Stmt := topS 50
theorem sc__law_less : FnScope ["one", "other"] ["one", "other"] (defScope s__law_less) := ⟨rfl, rfl, rfl, by decide +kernel, rfl, by decide +kernel, by decide +kernel⟩
abbrev s__law_drawn : Stmt := topS 51
theorem sc__law_drawn : FnScope ["vase", "top", "under"] ["vase"] (defScope s__law_drawn) := ⟨rfl, rfl, rfl, by decide +kernel, rfl, by decide +kernel, by decide +kernel⟩
abbrev s__law_spot : Stmt := topS 52
theorem sc__law_spot : FnScope ["vase"] ["vase"] (defScope s__law_spot) := ⟨rfl, rfl, rfl, by decide +kernel, rfl, by decide +kernel, by decide +kernel⟩
abbrev s__law_passed : Stmt := topS 53
theorem sc__law_passed : FnScope ["vase", "spot", "parts", "pair"] ["vase", "spot"] (defScope s__law_passed) := ⟨rfl, rfl, rfl, by decide +kernel, rfl, by decide +kernel, by decide +kernel⟩
abbrev s__law_done : Stmt := topS 54
theorem sc__law_done : FnScope ["way", "one", "other"] ["way", "one", "other"] (defScope s__law_done) := ⟨rfl, rfl, rfl, by decide +kernel, rfl, by decide +kernel, by decide +kernel⟩
abbrev s__law_part : Stmt := topS 55
theorem sc__law_part : FnScope ["way", "one", "other", "part", "error"] ["way", "one", "other"] (defScope s__law_part) := ⟨rfl, rfl, rfl, by decide +kernel, rfl, by decide +kernel, by decide +kernel⟩
abbrev s__law_other_part : Stmt := topS 56
theorem sc__law_other_part : FnScope ["way", "one", "other", "told", "error"] ["way", "one", "other"] (defScope s__law_other_part) := ⟨rfl, rfl, rfl, by decide +kernel, rfl, by decide +kernel, by decide +kernel⟩
abbrev s__law_sums_right : Stmt := topS 57
theorem sc__law_sums_right : FnScope ["vase", "a", "b", "c", "d", "share", "one", "other", "x", "y", "due"] ["vase"] (defScope s__law_sums_right) := ⟨rfl, rfl, rfl, by decide +kernel, rfl, by decide +kernel, by decide +kernel⟩
abbrev s_law : Stmt := topS 58
theorem sc_law : FnScope ["script", "vase", "turn", "good", "number", "bad", "way", "odd", "some", "row", "at"] ["script"] (defScope s_law) := ⟨rfl, rfl, rfl, by decide +kernel, rfl, by decide +kernel, by decide +kernel⟩
structure Ads where
  (f_lowest : Addr) (d_lowest : FuncData)
  (f_pair_of : Addr) (d_pair_of : FuncData)
  (f_negative : Addr) (d_negative : FuncData)
  (f_sum_of : Addr) (d_sum_of : FuncData)
  (f_difference : Addr) (d_difference : FuncData)
  (f_product_of : Addr) (d_product_of : FuncData)
  (f_is_integer : Addr) (d_is_integer : FuncData)
  (f_is_within : Addr) (d_is_within : FuncData)
  (f_is_row : Addr) (d_is_row : FuncData)
  (f_is_pair : Addr) (d_is_pair : FuncData)
  (f_is_number : Addr) (d_is_number : FuncData)
  (f_is_point : Addr) (d_is_point : FuncData)
  (f_are_points : Addr) (d_are_points : FuncData)
  (f_point_of : Addr) (d_point_of : FuncData)
  (f_joined : Addr) (d_joined : FuncData)
  (f_way_between : Addr) (d_way_between : FuncData)
  (f_stretched : Addr) (d_stretched : FuncData)
  (f_turned : Addr) (d_turned : FuncData)
  (f_cross_of : Addr) (d_cross_of : FuncData)
  (f_dot_of : Addr) (d_dot_of : FuncData)
  (f_moved : Addr) (d_moved : FuncData)
  (f_number_in : Addr) (d_number_in : FuncData)
  (f_point_in : Addr) (d_point_in : FuncData)
  (f_point : Addr) (d_point : FuncData)
  (f_added : Addr) (d_added : FuncData)
  (f_taken : Addr) (d_taken : FuncData)
  (f_scaled : Addr) (d_scaled : FuncData)
  (f_quarter : Addr) (d_quarter : FuncData)
  (f_cross : Addr) (d_cross : FuncData)
  (f_dot : Addr) (d_dot : FuncData)
  (f_squared : Addr) (d_squared : FuncData)
  (f_between : Addr) (d_between : FuncData)
  (f__law_vase : Addr) (d__law_vase : FuncData)
  (f__law_fill : Addr) (d__law_fill : FuncData)
  (f__law_one_of : Addr) (d__law_one_of : FuncData)
  (f__law_shared : Addr) (d__law_shared : FuncData)
  (f__law_low : Addr) (d__law_low : FuncData)
  (f__law_sum : Addr) (d__law_sum : FuncData)
  (f__law_product : Addr) (d__law_product : FuncData)
  (f__law_less : Addr) (d__law_less : FuncData)
  (f__law_drawn : Addr) (d__law_drawn : FuncData)
  (f__law_spot : Addr) (d__law_spot : FuncData)
  (f__law_passed : Addr) (d__law_passed : FuncData)
  (f__law_done : Addr) (d__law_done : FuncData)
  (f__law_part : Addr) (d__law_part : FuncData)
  (f__law_other_part : Addr) (d__law_other_part : FuncData)
  (f__law_sums_right : Addr) (d__law_sums_right : FuncData)
  (f_law : Addr) (d_law : FuncData)
  (c_BadNumber i_BadNumber : Addr)
  (c_BadPoint i_BadPoint : Addr)
structure DefOk (K : PySem.W.Frag) (mg : Str → Option Value) (x : Str) (st : Stmt) (f : Addr) (fd : FuncData) (ps : List Str) : Prop where
  g : mg x = some (.ref f)
  F : Fun K x x st f fd
  b : Binds K fd ps []
structure Txt (K : PySem.W.Frag) (mg : Str → Option Value) (A : Ads) : Prop where
  lowest : DefOk K mg "lowest" s_lowest A.f_lowest A.d_lowest ["top", "under"]
  pair_of : DefOk K mg "pair_of" s_pair_of A.f_pair_of A.d_pair_of ["value"]
  negative : DefOk K mg "negative" s_negative A.f_negative A.d_negative ["value"]
  sum_of : DefOk K mg "sum_of" s_sum_of A.f_sum_of A.d_sum_of ["one", "other"]
  difference : DefOk K mg "difference" s_difference A.f_difference A.d_difference ["one", "other"]
  product_of : DefOk K mg "product_of" s_product_of A.f_product_of A.d_product_of ["one", "other"]
  is_integer : DefOk K mg "is_integer" s_is_integer A.f_is_integer A.d_is_integer ["value"]
  is_within : DefOk K mg "is_within" s_is_within A.f_is_within A.d_is_within ["value", "least", "most"]
  is_row : DefOk K mg "is_row" s_is_row A.f_is_row A.d_is_row ["value"]
  is_pair : DefOk K mg "is_pair" s_is_pair A.f_is_pair A.d_is_pair ["value"]
  is_number : DefOk K mg "is_number" s_is_number A.f_is_number A.d_is_number ["value"]
  is_point : DefOk K mg "is_point" s_is_point A.f_is_point A.d_is_point ["value"]
  are_points : DefOk K mg "are_points" s_are_points A.f_are_points A.d_are_points ["value", "least", "most"]
  point_of : DefOk K mg "point_of" s_point_of A.f_point_of A.d_point_of ["value"]
  joined : DefOk K mg "joined" s_joined A.f_joined A.d_joined ["one", "other"]
  way_between : DefOk K mg "way_between" s_way_between A.f_way_between A.d_way_between ["start", "end"]
  stretched : DefOk K mg "stretched" s_stretched A.f_stretched A.d_stretched ["way", "factor"]
  turned : DefOk K mg "turned" s_turned A.f_turned A.d_turned ["way"]
  cross_of : DefOk K mg "cross_of" s_cross_of A.f_cross_of A.d_cross_of ["one", "other"]
  dot_of : DefOk K mg "dot_of" s_dot_of A.f_dot_of A.d_dot_of ["one", "other"]
  moved : DefOk K mg "moved" s_moved A.f_moved A.d_moved ["start", "way", "share"]
  number_in : DefOk K mg "number_in" s_number_in A.f_number_in A.d_number_in ["value", "part"]
  point_in : DefOk K mg "point_in" s_point_in A.f_point_in A.d_point_in ["value", "part"]
  point : DefOk K mg "point" s_point A.f_point A.d_point ["x", "y"]
  added : DefOk K mg "added" s_added A.f_added A.d_added ["one", "other"]
  taken : DefOk K mg "taken" s_taken A.f_taken A.d_taken ["one", "other"]
  scaled : DefOk K mg "scaled" s_scaled A.f_scaled A.d_scaled ["vector", "factor"]
  quarter : DefOk K mg "quarter" s_quarter A.f_quarter A.d_quarter ["vector"]
  cross : DefOk K mg "cross" s_cross A.f_cross A.d_cross ["one", "other"]
  dot : DefOk K mg "dot" s_dot A.f_dot A.d_dot ["one", "other"]
  squared : DefOk K mg "squared" s_squared A.f_squared A.d_squared ["one", "other"]
  between : DefOk K mg "between" s_between A.f_between A.d_between ["one", "other", "share"]
  _law_vase : DefOk K mg "_law_vase" s__law_vase A.f__law_vase A.d__law_vase ["script"]
  _law_fill : DefOk K mg "_law_fill" s__law_fill A.f__law_fill A.d__law_fill ["vase", "many"]
  _law_one_of : DefOk K mg "_law_one_of" s__law_one_of A.f__law_one_of A.d__law_one_of ["vase", "some"]
  _law_shared : DefOk K mg "_law_shared" s__law_shared A.f__law_shared A.d__law_shared ["one", "other"]
  _law_low : DefOk K mg "_law_low" s__law_low A.f__law_low A.d__law_low ["top", "under"]
  _law_sum : DefOk K mg "_law_sum" s__law_sum A.f__law_sum A.d__law_sum ["one", "other"]
  _law_product : DefOk K mg "_law_product" s__law_product A.f__law_product A.d__law_product ["one", "other"]
  _law_less : DefOk K mg "_law_less" s__law_less A.f__law_less A.d__law_less ["one", "other"]
  _law_drawn : DefOk K mg "_law_drawn" s__law_drawn A.f__law_drawn A.d__law_drawn ["vase"]
  _law_spot : DefOk K mg "_law_spot" s__law_spot A.f__law_spot A.d__law_spot ["vase"]
  _law_passed : DefOk K mg "_law_passed" s__law_passed A.f__law_passed A.d__law_passed ["vase", "spot"]
  _law_done : DefOk K mg "_law_done" s__law_done A.f__law_done A.d__law_done ["way", "one", "other"]
  _law_part : DefOk K mg "_law_part" s__law_part A.f__law_part A.d__law_part ["way", "one", "other"]
  _law_other_part : DefOk K mg "_law_other_part" s__law_other_part A.f__law_other_part A.d__law_other_part ["way", "one", "other"]
  _law_sums_right : DefOk K mg "_law_sums_right" s__law_sums_right A.f__law_sums_right A.d__law_sums_right ["vase"]
  law : DefOk K mg "law" s_law A.f_law A.d_law ["script"]
  low_BadNumber : PySem.LowX.LowTxt "BadNumber" "BadNumber.__init__" K mg A.c_BadNumber A.i_BadNumber
  low_BadPoint : PySem.LowX.LowTxt "BadPoint" "BadPoint.__init__" K mg A.c_BadPoint A.i_BadPoint
  n_len : mg "len" = none
  n_abs : mg "abs" = none
  n_repr : mg "repr" = none
  n_isinstance : mg "isinstance" = none
  n_int : mg "int" = none
  n_bool : mg "bool" = none
  n_list : mg "list" = none
  n_tuple : mg "tuple" = none
  n_range : mg "range" = none
  n_all : mg "all" = none
  g_gcd : mg "gcd" = some (.builtin "math.gcd")
  te_NP : PySem.W.exmOne K (.ref A.c_BadNumber) (.ref A.c_BadPoint) = some false
end Odd
/-! several clauses 'except x as n' that share the name n -/
namespace L2
open PySem PySem.Spec PyProof.Rows
abbrev OddCl := Value × (Addr → Value → Option Addr → TS)
def oddEnds (i : Nat) (D : Ends) : Ends := { nx := fun τ G => D.nx (τ.set i none) G, rt := D.rt, bk := fun τ G => D.bk (τ.set i none) G, ct := fun τ G => D.ct (τ.set i none) G }
/-- what such clauses wish of an exception: the first that fits takes it -/
def oddWish (K : PySem.W.Frag) (i : Nat) (W : WX) (D : Ends) : List OddCl → WX
  | [] => W
  | cl :: more => fun cls d τ G => ∃ fits : Bool, PySem.W.exmOne K cls cl.1 = some fits ∧ (fits = true → ∀ a, G a = none → cl.2 a cls d (oddEnds i D) (τ.set i (some (.ref a))) G) ∧ (fits = false → oddWish K i W D more cls d τ G)
inductive OddCls (X : Cx) (n : Str) : List ExceptHandler → List OddCl → Prop
  | nil : OddCls X n [] []
  | cons {x : Str} {cl : OddCl} {first : Stmt} {suite : List Stmt} {p p' : Pos} {hds : List ExceptHandler} {l : List OddCl} (known : Names X x cl.1)
      (run : ∀ (a : Addr) (oe : Obj) (cls : Value) (d : Option Addr) (pn : List (Addr × Obj)), Zc cls d oe → (∃ vs, oe.data = .fields vs) → PSs (X.suite a ((a, oe) :: pn)) (first :: suite) (cl.2 a cls d)) (more : OddCls X n hds l) :
      OddCls X n (.ExceptHandler (some (.Name x p)) (some n) (first :: suite) p' :: hds) (cl :: l)
theorem OddCls.one {X : Cx} {n : Str} {c : Value} {ts : Addr → Value → Option Addr → TS} {x : Str} {first : Stmt} {suite : List Stmt} {p p' : Pos} {hds : List ExceptHandler} {l : List OddCl} (known : Names X x c)
    (run : ∀ (a : Addr) (oe : Obj) (cls : Value) (d : Option Addr) (pn : List (Addr × Obj)), Zc cls d oe → (∃ vs, oe.data = .fields vs) → PSs (X.suite a ((a, oe) :: pn)) (first :: suite) (ts a cls d)) (more : OddCls X n hds l) :
    OddCls X n (.ExceptHandler (some (.Name x p)) (some n) (first :: suite) p' :: hds) ((c, ts) :: l) := .cons (cl := (c, ts)) known run more
theorem oddTry {X : Cx} {n : Str} {i : Nat} {body : List Stmt} {h₀ : ExceptHandler} {hds : List ExceptHandler} {l : List OddCl} {pos : Pos} {tb : WX → TS} {Wout : WX}
    (hs : X.stack = X.env :: X.outer) (hf : X.env.frame = some X.env.locals) (hN : X.N.Nodup) (hi : X.N[i]? = some n) (hln : X.env.kindOf n = some .local) (tk : Takes X Wout)
    (hb : ∀ (W : WX) (pn : List (Addr × Obj)) (xe : Value → Shared → Prop), Takes (X.tr pn xe) W → PassesOwn (model X.prog X.w) X.A X.env xe → PSs (X.tr pn xe) body (tb W))
    (hh : OddCls X n (h₀ :: hds) l) : PS X (.Try body (h₀ :: hds) [] [] pos) (fun D σ H => tb (oddWish X.K i Wout D l) D σ H) := by
  refine ⟨fun held s σ H D I h => ?_⟩
  have good := I.ok
  have onTop : X.A.frames = some (X.env :: X.outer) := by rw [good.frames, hs]
  have isLoc : Loc X.env.scope n := .inl hln
  refine wpAny_Try_except ?_
  refine wpAny_mono ((hb (oddWish X.K i Wout D l) (X.pn ++ held) (fun e s₁ => wpAny (model X.prog X.w) X.A (noteFrame e X.env) (fun _ s₂ => wpAny (model X.prog X.w) X.A (setFlight e none) (fun _ s₃ =>
    wpAny (model X.prog X.w) X.A (handleBy e X.env (h₀ :: hds)) (SP X held D) X.xe s₃) X.xe s₂) X.xe s₁) (fun u s' got => ?_) PassesOwn.looking).run [] s σ H D (I.toTry _) h) (fun f s1 fin0 => ?_) (fun e s1 he => he)
  · obtain ⟨a, B, sIn, held2, τ, G, cls, d, rfl, invT, bare, rise, sk, off0, osq, gen, wish⟩ := got
    have inv : Inv X held τ G sIn := invT.ofTry good
    have air : Sky B (X.env :: X.outer) a (Zc cls d) X.env.locals s'.heap := by rw [← hs]; exact sk
    show wpAny (model X.prog X.w) X.A (noteFrame (.ref a) X.env) _ _ _
    refine Sky.land Zc.steady onTop hf air fun k3 lnd3 rise3 => ?_
    have inv3 : Inv X held τ G { s' with heap := k3 } := inv.landed bare lnd3.1 (rise.trans rise3) osq gen
    obtain ⟨ob3, fs3, at3, zc3, fd3⟩ := lnd3.there
    have off : a ∉ frs (X.env :: X.outer) := fun hm => by
      obtain ⟨_, o', e', hnf⟩ := lnd3.2.2.1.mem hm
      rw [at3] at e'; cases e'
      exact hnf _ fd3
    have notL : a ≠ X.env.locals := fun z => off (List.mem_filterMap.mpr ⟨X.env, List.mem_cons_self, by rw [hf, z]⟩)
    have notF : a ∉ X.fs := fun hm => by
      obtain ⟨e, he, q⟩ := List.mem_filterMap.mp hm
      exact off (List.mem_filterMap.mpr ⟨e, List.mem_cons_of_mem _ he, q⟩)
    have sui3 := inv3.suite at3 fd3 off0 notL notF
    have lkT : PySem.W.Looks (model X.prog X.w) k3 (typeOf (.ref a)) cls := fun A Q E s k q => wpAny_typeOf_ref (k _ _ at3) (by rw [zc3.1]; exact q)
    have go : ∀ {hds' : List ExceptHandler} {l' : List OddCl}, OddCls X n hds' l' → oddWish X.K i Wout D l' cls d τ G → wpAny (model X.prog X.w) X.A (handleBy (.ref a) X.env hds') (SP X held D) X.xe { s' with heap := k3 } := by
      intro hds' l' hk
      induction hk with
      | nil =>
        intro wish
        refine wpAny_handleBy_nil ?_
        obtain ⟨j1, j2, j3, oe, vs, tb0, tbo, tbs, he, hz, hd, h1, hr⟩ := id lnd3
        unfold PySem.passOn
        refine wpAny_bind (wpAny_field he hd h1 ?_)
        rw [if_neg (show ¬ ((Value.ref tb0 == Value.none) = true) from by simp)]
        have fin : wpAny (model X.prog X.w) X.A (setFlight (.ref a) X.env.frame) (fun _ s4 => wpAny (model X.prog X.w) X.A (throw (.ref a) : Sem Flow) (SP X held D) X.xe s4) X.xe { s' with heap := k3 } := by
          rw [hf]
          exact HandSPX.setFlight_upZ lnd3 fun k4 low4 rise4 => wpAny_throw (tk _ _ ⟨a, B, sIn, held, τ, G, cls, d, rfl, inv, bare, (rise.trans rise3).trans rise4, .inr (.inr (by rw [hs]; exact low4)), off0, osq, gen, wish⟩)
        first
          | exact wpAny_bind (wpAny_pure (wpAny_bind fin))
          | exact wpAny_bind fin
      | @cons x cl first suite p p' hds2 l2 known run more ih =>
        intro wish
        obtain ⟨fits, hb1, hyes, hno⟩ := wish
        refine wpAny_handleBy_cons (codeAny_handlers_test ?_) (by intro q; cases q)
        have lkM := PySem.W.exm_one (M := model X.prog X.w) (inv3.kIn) lkT hb1
        have test : ∀ {Q : Value → Shared → Prop} {E : Value → Shared → Prop}, Q cl.1 { s' with heap := k3 } → wpAny (model X.prog X.w) (X.A.mark (some (.ref a))) (eval (.Name x p) X.env) Q E { s' with heap := k3 } := fun {Q E} q => by
          obtain ⟨hg, hdbg, hm | ⟨hm, hv, hnn⟩⟩ := known
          · exact ld_glob (X := X.suite a ((a, ob3) :: (X.pn ++ held))) sui3 hg hm q hdbg
          · exact ld_blt (X := X.suite a ((a, ob3) :: (X.pn ++ held))) sui3 hg hm hv q hnn hdbg
        refine test (lkM.here ?_)
        cases fits with
        | false => exact ih (hno rfl)
        | true =>
          refine codeAny_handlers_suite_as ?_
          refine HandSPX.lands_againZ lnd3 fun k4 lnd4 rise4 => ?_
          have inv4 : Inv X held τ G { s' with heap := k4 } := inv.landed bare lnd4.1 ((rise.trans rise3).trans rise4) osq gen
          obtain ⟨ob4, fs4, at4, zc4, fd4⟩ := lnd4.there
          have sui4 := inv4.suite at4 fd4 off0 notL notF
          refine store_ok (X := X.suite a ((a, ob4) :: (X.pn ++ held))) (v := .ref a) sui4 hN hi isLoc rfl (fun t5 sui5 => ?_) (.inr hln)
          refine wpAny_mono ((run a ob4 cls d (X.pn ++ held) zc4 ⟨_, fd4⟩).run [] t5 _ G _ sui5 (hyes rfl a off0)) (fun f s6 fin0 => ?_) (fun _ _ z => False.elim z)
          have gone : ∀ {τ6 : St} {G6 : Hp} {Q : Shared → Prop}, Inv (X.suite a ((a, ob4) :: (X.pn ++ held))) [] τ6 G6 s6 → (∀ s7, Inv X held (τ6.set i none) G6 s7 → Q s7) →
              wpAny (model X.prog X.w) X.A (do bindName X.env n .none; unbindBehindTheSuite X.env n p') (fun _ s7 => Q s7) X.xe s6 := fun {τ6 G6 Q} sui6 hq => gone_ok (sui6.unsuite good) hN hi hln hq
          cases f with
          | next => obtain ⟨τ6, G6, sui6, q6⟩ := fin0; exact gone sui6 fun s7 inv7 => ⟨_, _, inv7, q6⟩
          | brk => obtain ⟨τ6, G6, sui6, q6⟩ := fin0; exact gone sui6 fun s7 inv7 => ⟨_, _, inv7, q6⟩
          | cont => obtain ⟨τ6, G6, sui6, q6⟩ := fin0; exact gone sui6 fun s7 inv7 => ⟨_, _, inv7, q6⟩
          | ret u => obtain ⟨v6, τ6, G6, sui6, r6, q6⟩ := fin0; exact gone sui6 fun s7 inv7 => ⟨_, _, _, inv7, r6, q6⟩
    exact go hh wish
  · cases f with
    | next => obtain ⟨τ, G, invT, q⟩ := fin0; exact wpAny_execs_nil ⟨τ, G, invT.ofTry good, q⟩
    | brk => obtain ⟨τ, G, invT, q⟩ := fin0; exact ⟨τ, G, invT.ofTry good, q⟩
    | cont => obtain ⟨τ, G, invT, q⟩ := fin0; exact ⟨τ, G, invT.ofTry good, q⟩
    | ret u => obtain ⟨v, τ, G, invT, r, q⟩ := fin0; exact ⟨v, τ, G, invT.ofTry good, r, q⟩
end L2
namespace PySem.SeqAt
open PySem
theorem odd_tuple_dict (l b : Addr) (items : Array Value) (n : Nat) (dd dd2 : Option Addr) (sl sl2 : Array (Option Value)) (d2 : Data) :
    Meets (Builtin.«tuple.__eq__» ⟨[.ref l, .ref b], []⟩) (fun _ R s => s.heap.get? l = some { cls := .type "tuple", dict := dd, data := .seq items n, slots := sl } ∧ s.heap.get? b = some { cls := .type "dict", dict := dd2, data := d2, slots := sl2 } ∧ R (.ok (.ret .notImplemented)) s) :=
  .of_wp fun prog w A R s h => by obtain ⟨hp, g, d, tk, os⟩ := s; obtain ⟨hl, hb, h⟩ := h; have f1 := F.sub_dict_tuple; wp_walk using wpAny_loadPart' hl, wpAny_loadPart' hb; exact ⟨_, rfl, h⟩
end PySem.SeqAt
namespace Odd
open PySem PySem.Spec PyProof.Rows L2
def rEqB (K : PySem.W.Frag) : R2 := fun x y H Q => rEqD K x y H Q ∨ (∃ a b kvs zs, x = .ref a ∧ y = .ref b ∧ H a = some (.dK kvs) ∧ SqT K H b zs ∧ Q (.bl false) H)
theorem op_eqB {X : Cx} (hu : X.A.units + 64 < cLine) : OpR X (compareOp .Eq) (rEqB X.K) := by
  intro pins s σ H x y v u Q I rx ry h
  rcases h with h | ⟨a, b, kvs, zs, rfl, rfl, ea, hb, q⟩
  · exact op_eqD hu pins s σ H x y v u Q I rx ry h
  · obtain rfl : v = Value.ref a := rx
    obtain rfl : u = Value.ref b := ry
    obtain ⟨_, ya, va, ra, da⟩ := (show ObjOk X.prog X.w H s.heap a (.dK kvs) from I.hok a _ ea)
    obtain ⟨its, r, ⟨⟨cls2, dd2, data2, sl2⟩, ho2, hc2, n2, hd2⟩, hz⟩ := I.tuple hb
    simp only at hc2 hd2
    subst hc2 hd2
    obtain ⟨⟨cls, dd, data, sl⟩, ho, hc⟩ := id da.typeIs
    simp only at hc
    have hne : a ≠ b := by
      rintro rfl
      rw [ho] at ho2
      cases ho2
      exact absurd hc (by simp)
    subst hc
    refine PySem.SeqAt.rc_eq_decline_or (k := false) da.typeIs ⟨_, ho2, rfl⟩ (by decide) F.sub_tuple_dict F.slot_dict_eq F.slot_tuple_eq_refl (fun Q' hq => ?_)
      (fun _ hq => call_meets F.slot_tuple_eq_refl ⟨_, ho2, rfl⟩ F.entry_tuple_eq (F.args_tuple_eq_2 _ _) (PySem.SeqAt.odd_tuple_dict b a its.toArray n2 dd2 dd sl2 sl data) ⟨ho2, ho, hq⟩)
      (fun _ hq => wpAny_isSame_ref_other hne ho ho2 (by simp) hq) (.inr (by omega)) ⟨.bl false, H, I, rfl, q⟩
    refine PySem.wpAny_call_entry PySem.F.slot_dict_eq da.typeIs PySem.F.entry_dict_eq ?_ (PySem.F.args_dict_eq_2 _ _)
    show wpAny _ _ (Builtin.Dict.dictSlotArgs "__eq__" ⟨[.ref a, .ref b], []⟩ >>= _) _ _ s
    refine wpAny_bind ?_
    unfold Builtin.Dict.dictSlotArgs
    refine wpAny_bind (wpAny_notOrdered_dict da.typeIs ?_)
    show wpAny _ _ (pure (Value.ref a, Value.ref b)) _ _ s
    refine wpAny_pure ?_
    refine wpAny_bind (wpAny_isInstance (T := "tuple") (U := "dict") ⟨_, ho2, rfl⟩ PySem.F.sub_tuple_dict ?_)
    simp only [Bool.not_false, if_true]
    exact wpAny_bind (wpAny_rule (wpAny_pure ⟨_, rfl, hq⟩))
end Odd
namespace Odd
open PySem PySem.Spec PyProof.Rows L2
local macro_rules | `(tactic| walk_at "vc") => `(tactic| simp only [tSeq, tAsg, gName, tCB, tCons, tNil, tVar, tC, tOp, tUn, rI0, rI, rU, tTup, tLst, tIfS, tTest, tB, tRet, tNext, rGcd, L2.start, List.map, List.set, List.replicate, List.cons_append, List.nil_append, List.length_cons, List.length_nil, List.getElem?_cons_succ, List.getElem?_cons_zero, Option.some.injEq, exists_eq_left', exists_eq_left, List.append_nil, List.cons.injEq, V.int.injEq, exists_and_left, and_true, true_and, and_assoc, exists_const, V.bl.injEq, V.ref.injEq, Nat.sub_self, Nat.reduceAdd, Nat.reduceSub, List.replicate_succ, List.replicate_zero, tAnd, tOr, tNot, tAndV, tOrV, tNotV, tIf, tCall, tCallK, tDrop, rEq, rNe, decide_eq_true_eq, Bool.not_eq_true', decide_eq_false_iff_not, Bool.false_eq_true, if_true, if_false, reduceIte, reduceCtorEq, tMkLow, tRaiseLow, rIsB, rNotB, tBreak, tPar, gSub, rSetL, tChain, gTup, gCons, gNil, gSeq, cx_K, cx_Kn, optV, V.str.injEq, Bool.not_true, Bool.not_false, false_and, and_false, or_false, false_or, exists_false, tCallN, tCallS, tPairs])
section
variable {P : Program} {w : World} {K : PySem.W.Frag} {mg : Str → Option Value} {base : Heap} {A : Ads}

theorem iteN {A B : Prop} (h : A) : if false = false then A else B := by
  rw [if_pos rfl]
  exact h
theorem iteF' {A B : Prop} {b : Bool} (hb : b = true) (h : B) : if b = false then A else B := by
  subst hb
  rw [if_neg (by decide)]
  exact h
def spLowest (K : PySem.W.Frag) : Sp := fun vs H Q _ => ∃ t u : Int, vs = [.int t, .int u] ∧ u ≠ 0 ∧ u.natAbs < 2 ^ 8000 ∧ RetP K H (low t u) Q
theorem ok_lowest (T : Txt K mg A) : FnOk P w K mg base CX0 1 A.f_lowest A.d_lowest ["top", "under"] (spLowest K) := by
  refine T.lowest.F.ok sc_lowest (fun vs H Q E h => ?_) (fun cdv A' outer s H vs Q E hr h => ?_)
  · obtain ⟨t, u, rfl, _⟩ := h; rfl
  · obtain ⟨t, u, rfl, hu, hb, q⟩ := h
    refine ⟨_, (pss_cons (ps_set (i := 2) sc_lowest.nd rfl (.inl rfl) (pe_callBfun cr_gcd (by rfl) T.g_gcd (pa_cons (pv 0) (pa_cons (pv 1) pa_nil))))
      (pss_cons (ps_if (pt_cmpR op_lt (pv 1) pe_int (nomark _)) (pss_one (ps_set (i := 2) sc_lowest.nd rfl (.inl rfl) (pe_un un_neg (pv 2)))) pss_nil)
      (pss_one (ps_ret (pe_tup (pa_cons (pe_op op_fdivX (pv 0) (pv 2)) (pa_cons (pe_op op_fdivX (pv 1) (pv 2)) pa_nil))))))), ?_⟩
    walk_at "vc"
    have hg : 0 < Nat.gcd t.natAbs u.natAbs := Nat.gcd_pos_of_pos_right _ (by omega)
    have hl : Nat.gcd t.natAbs u.natAbs ≤ u.natAbs := Nat.le_of_dvd (by omega) (Nat.gcd_dvd_right _ _)
    have hd : Nat.gcd t.natAbs u.natAbs < 2 ^ 8000 := Nat.lt_of_le_of_lt hl hb
    split
    · rename_i hn
      have d : ∀ x, CDivX x (-((Nat.gcd t.natAbs u.natAbs : Nat) : Int)) := fun x => divx (by omega) (b := 8000) (by rw [Int.natAbs_neg]; exact hd) (by decide) (by decide)
      refine ⟨d _, d _, by decide, fun p hp => q _ p (same_upd hp) (st_of ?_)⟩
      unfold low
      rw [if_pos hn, upd_same]
    · rename_i hn
      have d : ∀ x, CDivX x ((Nat.gcd t.natAbs u.natAbs : Nat) : Int) := fun x => divx (by omega) (b := 8000) hd (by decide) (by decide)
      refine ⟨d _, d _, by decide, fun p hp => q _ p (same_upd hp) (st_of ?_)⟩
      unfold low
      rw [if_neg hn, upd_same]
def spPairOf (K : PySem.W.Frag) : Sp := fun vs H Q _ => ∃ v a, vs = [v] ∧ Num K H v a ∧ RetP K H a Q
theorem ok_pair_of (T : Txt K mg A) : FnOk P w K mg base CX0 1 A.f_pair_of A.d_pair_of ["value"] (spPairOf K) := by
  refine T.pair_of.F.ok sc_pair_of (fun vs H Q E h => ?_) (fun cdv A' outer s H vs Q E hr h => ?_)
  · obtain ⟨t, u, rfl, _⟩ := h; rfl
  · obtain ⟨v, a, rfl, hn, q⟩ := h
    refine ⟨_, (pss_cons (ps_if (pt_val (pe_callB call_isiT (by rfl) T.n_isinstance bt_isinstance (pa_cons (pv 0) (pa_cons (pe_tup (pa_cons (pe_bltn (v := .ty "list") (by rfl) T.n_list bt_list rfl) (pa_cons (pe_bltn (v := .ty "tuple") (by rfl) T.n_tuple bt_tuple rfl) pa_nil))) pa_nil)))) (pss_one (ps_ret (pe_callTy call_tuple_of (by rfl) T.n_tuple bt_tuple (pa_cons (pv 0) pa_nil)))) pss_nil)
      (pss_one (ps_ret (pe_tup (pa_cons (pv 0) (pa_cons pe_int pa_nil)))))), ?_⟩
    walk_at "vc"
    refine ⟨by decide, fun p hp => ?_⟩
    have sp := same_upd (o := .tup [.ty "list", .ty "tuple"]) hp
    cases hn with
    | int n =>
      refine ty_row (.int n) upd_same ⟨_, rfl, iteF ⟨by decide, fun p2 hp2 => q _ _ (sp.trans (same_upd hp2)) (st_of upd_same)⟩⟩
    | sq h c =>
      obtain ⟨U, hU, e⟩ := (h.same sp).ty
      refine ty_row hU upd_same ⟨_, rfl, ?_⟩
      rw [e]
      refine iteT ⟨_, rfl, ?_⟩
      rcases h with h | h
      · exact ⟨_, .inl ⟨sp.seq h, fun l hl => q _ _ (sp.trans (same_upd hl)) (st_of upd_same)⟩⟩
      · exact ⟨_, .inr ⟨same_tup sp h, q _ _ sp (same_tup sp h)⟩⟩
def spPP (K : PySem.W.Frag) (f : Int × Int → Int × Int → Int × Int) (ok : Int × Int → Int × Int → Prop) : Sp := fun vs H Q _ => ∃ v u a b, vs = [v, u] ∧ Pr K H v a ∧ Pr K H u b ∧ Sm 4000 a ∧ Sm 4000 b ∧ ok a b ∧ RetP K H (f a b) Q
def fAdd (a b : Int × Int) : Int × Int := low (a.1 * b.2 + b.1 * a.2) (a.2 * b.2)
def fSub (a b : Int × Int) : Int × Int := low (a.1 * b.2 - b.1 * a.2) (a.2 * b.2)
def fMul (a b : Int × Int) : Int × Int := low (a.1 * b.1) (a.2 * b.2)
def fDiv (a b : Int × Int) : Int × Int := low (a.1 * b.2) (a.2 * b.1)
def okU (a b : Int × Int) : Prop := a.2 ≠ 0 ∧ b.2 ≠ 0
def okD (a b : Int × Int) : Prop := a.2 ≠ 0 ∧ b.1 ≠ 0
theorem mul4 {i j : Int} (ha : i.natAbs < 2 ^ 4000) (hb : j.natAbs < 2 ^ 4000) : CMulW i j := wide_mul ha hb (by decide) (by decide) (by decide)
theorem mul8 {i j : Int} (ha : i.natAbs < 2 ^ 4000) (hb : j.natAbs < 2 ^ 4000) : (i * j).natAbs < 2 ^ 8000 := wide_lt ha hb
theorem ok_sum_of (T : Txt K mg A) : FnOk P w K mg base CX0 2 A.f_sum_of A.d_sum_of ["one", "other"] (spPP K fAdd okU) := by
  refine T.sum_of.F.ok sc_sum_of (fun vs H Q E h => ?_) (fun cdv A' outer s H vs Q E hr h => ?_)
  · obtain ⟨t, u, _, _, rfl, _⟩ := h; rfl
  · obtain ⟨v, u, a, b, rfl, ⟨p, rfl, hp⟩, ⟨r, rfl, hq⟩, ⟨a1, a2⟩, ⟨b1, b2⟩, ⟨h3, h4⟩, q⟩ := h
    refine ⟨_, (pss_one (ps_ret (pe_call (ok_lowest T) (hr.mono (by decide)) (by rfl) T.lowest.g T.lowest.F.kp T.lowest.b .nil pass0 (pa_cons (pe_op op_add (pe_op op_mulW (pe_ix ix_tup (pv 0) pe_int (fun _ _ => rfl)) (pe_ix ix_tup (pv 1) pe_int (fun _ _ => rfl))) (pe_op op_mulW (pe_ix ix_tup (pv 1) pe_int (fun _ _ => rfl)) (pe_ix ix_tup (pv 0) pe_int (fun _ _ => rfl)))) (pa_cons (pe_op op_mulW (pe_ix ix_tup (pv 0) pe_int (fun _ _ => rfl)) (pe_ix ix_tup (pv 1) pe_int (fun _ _ => rfl))) pa_nil))))), ?_⟩
    walk_at "vc"
    refine ixT hp rfl (ixT hq rfl ⟨_, rfl, _, rfl, mul4 a1 b2, ixT hq rfl (ixT hp rfl ⟨_, rfl, _, rfl, mul4 b1 a2, ixT hp rfl (ixT hq rfl ⟨_, rfl, _, rfl, mul4 a2 b2, ?_⟩)⟩)⟩)
    exact ⟨_, _, rfl, Int.mul_ne_zero h3 h4, mul8 a2 b2, q⟩
theorem ok_difference (T : Txt K mg A) : FnOk P w K mg base CX0 2 A.f_difference A.d_difference ["one", "other"] (spPP K fSub okU) := by
  refine T.difference.F.ok sc_difference (fun vs H Q E h => ?_) (fun cdv A' outer s H vs Q E hr h => ?_)
  · obtain ⟨t, u, _, _, rfl, _⟩ := h; rfl
  · obtain ⟨v, u, a, b, rfl, ⟨p, rfl, hp⟩, ⟨r, rfl, hq⟩, ⟨a1, a2⟩, ⟨b1, b2⟩, ⟨h3, h4⟩, q⟩ := h
    refine ⟨_, (pss_one (ps_ret (pe_call (ok_lowest T) (hr.mono (by decide)) (by rfl) T.lowest.g T.lowest.F.kp T.lowest.b .nil pass0 (pa_cons (pe_op op_sub (pe_op op_mulW (pe_ix ix_tup (pv 0) pe_int (fun _ _ => rfl)) (pe_ix ix_tup (pv 1) pe_int (fun _ _ => rfl))) (pe_op op_mulW (pe_ix ix_tup (pv 1) pe_int (fun _ _ => rfl)) (pe_ix ix_tup (pv 0) pe_int (fun _ _ => rfl)))) (pa_cons (pe_op op_mulW (pe_ix ix_tup (pv 0) pe_int (fun _ _ => rfl)) (pe_ix ix_tup (pv 1) pe_int (fun _ _ => rfl))) pa_nil))))), ?_⟩
    walk_at "vc"
    refine ixT hp rfl (ixT hq rfl ⟨_, rfl, _, rfl, mul4 a1 b2, ixT hq rfl (ixT hp rfl ⟨_, rfl, _, rfl, mul4 b1 a2, ixT hp rfl (ixT hq rfl ⟨_, rfl, _, rfl, mul4 a2 b2, ?_⟩)⟩)⟩)
    exact ⟨_, _, rfl, Int.mul_ne_zero h3 h4, mul8 a2 b2, q⟩
theorem ok_product_of (T : Txt K mg A) : FnOk P w K mg base CX0 2 A.f_product_of A.d_product_of ["one", "other"] (spPP K fMul okU) := by
  refine T.product_of.F.ok sc_product_of (fun vs H Q E h => ?_) (fun cdv A' outer s H vs Q E hr h => ?_)
  · obtain ⟨t, u, _, _, rfl, _⟩ := h; rfl
  · obtain ⟨v, u, a, b, rfl, ⟨p, rfl, hp⟩, ⟨r, rfl, hq⟩, ⟨a1, a2⟩, ⟨b1, b2⟩, ⟨h3, h4⟩, q⟩ := h
    refine ⟨_, (pss_one (ps_ret (pe_call (ok_lowest T) (hr.mono (by decide)) (by rfl) T.lowest.g T.lowest.F.kp T.lowest.b .nil pass0 (pa_cons (pe_op op_mulW (pe_ix ix_tup (pv 0) pe_int (fun _ _ => rfl)) (pe_ix ix_tup (pv 1) pe_int (fun _ _ => rfl))) (pa_cons (pe_op op_mulW (pe_ix ix_tup (pv 0) pe_int (fun _ _ => rfl)) (pe_ix ix_tup (pv 1) pe_int (fun _ _ => rfl))) pa_nil))))), ?_⟩
    walk_at "vc"
    refine ixT hp rfl (ixT hq rfl ⟨_, rfl, _, rfl, mul4 a1 b1, ixT hp rfl (ixT hq rfl ⟨_, rfl, _, rfl, mul4 a2 b2, ?_⟩)⟩)
    exact ⟨_, _, rfl, Int.mul_ne_zero h3 h4, mul8 a2 b2, q⟩
def spIsInteger (K : PySem.W.Frag) : Sp := fun vs H Q _ => ∃ v U, vs = [v] ∧ TyN K H v U ∧ RetV H (.bl (U == "int")) Q
theorem ok_is_integer (T : Txt K mg A) : FnOk P w K mg base CX0 1 A.f_is_integer A.d_is_integer ["value"] (spIsInteger K) := by
  refine T.is_integer.F.ok sc_is_integer (fun vs H Q E h => ?_) (fun cdv A' outer s H vs Q E hr h => ?_)
  · obtain ⟨_, _, rfl, _⟩ := h; rfl
  · obtain ⟨v, U, rfl, hv, q⟩ := h
    refine ⟨_, (pss_one (ps_ret (pe_and (pe_callB call_isi (by rfl) T.n_isinstance bt_isinstance (pa_cons (pv 0) (pa_cons (pe_bltn (v := .ty "int") (by rfl) T.n_int bt_int rfl) pa_nil))) (pe_one (pe_not (pe_callB call_isi (by rfl) T.n_isinstance bt_isinstance (pa_cons (pv 0) (pa_cons (pe_bltn (v := .ty "bool") (by rfl) T.n_bool bt_bool rfl) pa_nil)))))))), ?_⟩
    walk_at "vc"
    have q := q H (Same.refl H)
    refine ty_int hv ⟨_, rfl, ?_⟩
    cases e : (U == "int" || U == "bool") with
    | true =>
      refine iteT (ty_bool hv ⟨_, rfl, ?_⟩)
      rw [← is_int U hv, e] at q
      exact q
    | false =>
      refine iteF ?_
      rw [← is_int U hv, e] at q
      exact q
def spWithin (K : PySem.W.Frag) : Sp := fun vs H Q _ => ∃ v lo hi, vs = [v, optV lo, optV hi] ∧ ((∃ U, TyN K H v U ∧ U ≠ "int" ∧ RetV H (.bl false) Q) ∨ ∃ n, v = .int n ∧ RetV H (.bl (lo.all (fun l => decide (l ≤ n)) && hi.all (fun m => decide (n ≤ m)))) Q)
theorem ok_is_within (T : Txt K mg A) : FnOk P w K mg base CX0 2 A.f_is_within A.d_is_within ["value", "least", "most"] (spWithin K) := by
  refine T.is_within.F.ok sc_is_within (fun vs H Q E h => ?_) (fun cdv A' outer s H vs Q E hr h => ?_)
  · obtain ⟨_, _, _, rfl, _⟩ := h; rfl
  · obtain ⟨v, lo, hi, rfl, h⟩ := h
    refine ⟨_, (pss_cons (ps_if (pt_not (pt_val (pe_call (ok_is_integer T) (hr.mono (by decide)) (by rfl) T.is_integer.g T.is_integer.F.kp T.is_integer.b .nil pass0 (pa_cons (pv 0) pa_nil)))) (pss_one (ps_ret pe_bl)) pss_nil)
      (pss_cons (ps_if (PW.pt (pw_and (pt_cmpR op_notN (pv 1) pe_non (nomark _)) (pw_and1 (pt_cmpR op_lt (pv 0) (pv 1) (nomark _))))) (pss_one (ps_ret pe_bl)) pss_nil)
      (pss_one (ps_ret (pe_or (pe_cmpR op_isN (pv 2) pe_non (nomark _)) (pe_one (pe_cmpR op_le (pv 0) (pv 2) (nomark _)))))))), ?_⟩
    walk_at "vc"
    rcases h with ⟨U, hv, hU, q⟩ | ⟨n, rfl, q⟩
    · refine ⟨v, U, rfl, hv, fun H' sH => ⟨_, rfl, ?_⟩⟩
      rw [beq_false_of_ne hU]
      exact q H' sH
    · refine ⟨_, _, rfl, .int n, fun H' sH => ⟨_, rfl, ?_⟩⟩
      have q := q H' sH
      rw [if_neg (by decide)]
      cases lo with
      | none =>
        cases hi with
        | none => walk_at "vc"; exact q
        | some m => walk_at "vc"; simpa using q
      | some l =>
        by_cases hl : l ≤ n
        · cases hi with
          | none =>
            have hl' : ¬ n < l := by omega
            simp [hl, hl'] at q ⊢
            exact q
          | some m =>
            have hl' : ¬ n < l := by omega
            simp [hl, hl'] at q ⊢
            exact q
        · have hl' : n < l := by omega
          cases hi with
          | none =>
            simp [hl, hl'] at q ⊢
            exact q
          | some m =>
            simp [hl, hl'] at q ⊢
            exact q
def spIsRow (K : PySem.W.Frag) : Sp := fun vs H Q _ => ∃ v U, vs = [v] ∧ TyN K H v U ∧ RetV H (.bl (U == "list" || U == "tuple")) Q
theorem ok_is_row (T : Txt K mg A) : FnOk P w K mg base CX0 1 A.f_is_row A.d_is_row ["value"] (spIsRow K) := by
  refine T.is_row.F.ok sc_is_row (fun vs H Q E h => ?_) (fun cdv A' outer s H vs Q E hr h => ?_)
  · obtain ⟨_, _, rfl, _⟩ := h; rfl
  · obtain ⟨v, U, rfl, hv, q⟩ := h
    refine ⟨_, (pss_one (ps_ret (pe_callB call_isiT (by rfl) T.n_isinstance bt_isinstance (pa_cons (pv 0) (pa_cons (pe_tup (pa_cons (pe_bltn (v := .ty "list") (by rfl) T.n_list bt_list rfl) (pa_cons (pe_bltn (v := .ty "tuple") (by rfl) T.n_tuple bt_tuple rfl) pa_nil))) pa_nil))))), ?_⟩
    walk_at "vc"
    refine ⟨by decide, fun p hp => ?_⟩
    have sp := same_upd (o := .tup [.ty "list", .ty "tuple"]) hp
    exact ty_row (hv.same sp) upd_same (q _ sp)
/-- is_pair: a list or tuple of two | no list, no tuple | one of another length -/
def spIsPair (K : PySem.W.Frag) : Sp := fun vs H Q _ => ∃ v, vs = [v] ∧ ((∃ U, TyN K H v U ∧ U ≠ "list" ∧ U ≠ "tuple" ∧ RetV H (.bl false) Q) ∨ (∃ p xs, v = .ref p ∧ Sq K H p xs ∧ RetV H (.bl (decide (xs.length = 2))) Q))
theorem ok_is_pair (T : Txt K mg A) : FnOk P w K mg base CX0 2 A.f_is_pair A.d_is_pair ["value"] (spIsPair K) := by
  refine T.is_pair.F.ok sc_is_pair (fun vs H Q E h => ?_) (fun cdv A' outer s H vs Q E hr h => ?_)
  · obtain ⟨_, rfl, _⟩ := h; rfl
  · obtain ⟨v, rfl, h⟩ := h
    refine ⟨_, (pss_one (ps_ret (pe_and (pe_call (ok_is_row T) (hr.mono (by decide)) (by rfl) T.is_row.g T.is_row.F.kp T.is_row.b .nil pass0 (pa_cons (pv 0) pa_nil)) (pe_one (pe_cmpR op_eq (pe_callB call_len_seq (by rfl) T.n_len bt_len (pa_cons (pv 0) pa_nil)) pe_int (nomark _)))))), ?_⟩
    walk_at "vc"
    rcases h with ⟨U, hv, h1, h2, q⟩ | ⟨p, xs, rfl, hx, q⟩
    · refine ⟨v, U, rfl, hv, fun H' sH => ⟨_, rfl, ?_⟩⟩
      rw [beq_false_of_ne h1, beq_false_of_ne h2]
      exact iteF (q H' sH)
    · obtain ⟨U, hU, e⟩ := hx.ty
      refine ⟨_, U, rfl, hU, fun H' sH => ⟨_, rfl, ?_⟩⟩
      rw [e]
      refine iteT ?_
      walk_at "vc"
      have q := q H' sH
      have e2 : decide ((xs.length : Int) = 2) = decide (xs.length = 2) := by
        by_cases z : xs.length = 2
        · rw [decide_eq_true z, decide_eq_true (by omega)]
        · rw [decide_eq_false z, decide_eq_false (by omega)]
      refine ⟨xs, hx.same sH, rfl, ?_⟩
      rw [e2]
      exact q
def spIsNumber (K : PySem.W.Frag) : Sp := fun vs H Q _ => ∃ v, vs = [v] ∧ ((∃ q, Num K H v q ∧ RetV H (.bl true) Q) ∨ (Bad K H v ∧ RetV H (.bl false) Q))
theorem ok_is_number (T : Txt K mg A) : FnOk P w K mg base CX0 3 A.f_is_number A.d_is_number ["value"] (spIsNumber K) := by
  refine T.is_number.F.ok sc_is_number (fun vs H Q E h => ?_) (fun cdv A' outer s H vs Q E hr h => ?_)
  · obtain ⟨_, rfl, _⟩ := h; rfl
  · obtain ⟨v, rfl, h⟩ := h
    refine ⟨_, (pss_cons (ps_if (pt_not (pt_val (pe_call (ok_is_pair T) (hr.mono (by decide)) (by rfl) T.is_pair.g T.is_pair.F.kp T.is_pair.b .nil pass0 (pa_cons (pv 0) pa_nil)))) (pss_one (ps_ret (pe_call (ok_is_integer T) (hr.mono (by decide)) (by rfl) T.is_integer.g T.is_integer.F.kp T.is_integer.b .nil pass0 (pa_cons (pv 0) pa_nil)))) pss_nil)
      (pss_cons (ps_asg (pv 0) (pg_seq2 rfl (pgs_cons (pg_name (i := 1) sc_is_number.nd rfl (.inl rfl)) (pgs_cons (pg_name (i := 2) sc_is_number.nd rfl (.inl rfl)) pgs_nil))))
      (pss_one (ps_ret (pe_and (pe_call (ok_is_integer T) (hr.mono (by decide)) (by rfl) T.is_integer.g T.is_integer.F.kp T.is_integer.b .nil pass0 (pa_cons (pv 1) pa_nil)) (pe_and (pe_call (ok_is_within T) (hr.mono (by decide)) (by rfl) T.is_within.g T.is_within.F.kp T.is_within.b .nil pass0 (pa_cons (pv 2) (pa_cons pe_int (pa_cons pe_non pa_nil)))) (pe_one (pe_cmpR op_eq (pe_callBfun cr_gcd (by rfl) T.g_gcd (pa_cons (pv 1) (pa_cons (pv 2) pa_nil))) pe_int (nomark _))))))))), ?_⟩
    walk_at "vc"
    have ok : ∀ (p : Addr) (a b : Int) (c : Bool), (c = true ↔ Canon (a, b)) → RetV H (.bl c) Q → ∀ a' b' : Int, V.int a = .int a' → V.int b = .int b' → RetV H (.bl (decide (1 ≤ b') && decide (((Nat.gcd a'.natAbs b'.natAbs : Nat) : Int) = 1))) Q := fun p a b c hc q a' b' e1 e2 => by
      cases e1
      cases e2
      have : (decide (1 ≤ b) && decide (((Nat.gcd a.natAbs b.natAbs : Nat) : Int) = 1)) = c := by
        rw [Bool.eq_iff_iff, hc, Bool.and_eq_true, decide_eq_true_eq, decide_eq_true_eq]
        constructor
        · rintro ⟨z1, z2⟩; exact ⟨z1, by exact_mod_cast z2⟩
        · rintro ⟨z1, z2⟩; exact ⟨z1, by exact_mod_cast z2⟩
      rw [this]
      exact q
    have all : (∃ U : String, TyN K H v U ∧ U ≠ "list" ∧ U ≠ "tuple" ∧ RetV H (.bl (U == "int")) Q) ∨ (∃ p xs, v = .ref p ∧ Sq K H p xs ∧ xs.length ≠ 2 ∧ RetV H (.bl false) Q) ∨
        (∃ (p : Addr) (x y : V) (U W : String), v = .ref p ∧ Sq K H p [x, y] ∧ TyN K H x U ∧ TyN K H y W ∧
        (U ≠ "int" → RetV H (.bl false) Q) ∧ (∀ a : Int, x = .int a → W ≠ "int" → RetV H (.bl false) Q) ∧
        (∀ a b : Int, x = .int a → y = .int b → RetV H (.bl (decide (1 ≤ b) && decide (((Nat.gcd a.natAbs b.natAbs : Nat) : Int) = 1))) Q)) := by
      rcases h with ⟨q, hn, hq⟩ | ⟨hb, hq⟩
      · cases hn with
        | int n => exact .inl ⟨_, .int n, by decide, by decide, hq⟩
        | sq h c => exact .inr (.inr ⟨_, _, _, _, _, rfl, h, .int _, .int _, fun z => absurd rfl z, fun _ _ z => absurd rfl z, ok 0 _ _ true ⟨fun _ => c, fun _ => rfl⟩ hq⟩)
      · cases hb with
        | scal h h1 h2 h3 => exact .inl ⟨_, h, h2, h3, by rw [beq_false_of_ne h1]; exact hq⟩
        | len h l => exact .inr (.inl ⟨_, _, rfl, h, l, hq⟩)
        | top h hx hT hy => exact .inr (.inr ⟨_, _, _, _, _, rfl, h, hx, hy, fun _ => hq, fun a e _ => by subst e; cases hx; exact absurd rfl hT, fun a b e _ => by subst e; cases hx; exact absurd rfl hT⟩)
        | und h hy hU => exact .inr (.inr ⟨_, _, _, _, _, rfl, h, .int _, hy, fun z => absurd rfl z, fun _ _ _ => hq, fun a b _ e => by subst e; cases hy; exact absurd rfl hU⟩)
        | low h c => exact .inr (.inr ⟨_, _, _, _, _, rfl, h, .int _, .int _, fun z => absurd rfl z, fun _ _ z => absurd rfl z, ok 0 _ _ false ⟨fun z => Bool.noConfusion z, fun z => absurd z c⟩ hq⟩)
    rcases all with ⟨U, hU, h1, h2, q⟩ | ⟨p, xs, rfl, hx, l, q⟩ | ⟨p, x, y, U, W, rfl, hs, hx, hy, q1, q2, q3⟩
    · refine ⟨v, rfl, .inl ⟨U, hU, h1, h2, fun H1 s1 => ⟨_, rfl, ?_⟩⟩⟩
      exact iteN ⟨v, U, rfl, hU.same s1, q.same s1⟩
    · obtain ⟨U, hU, e⟩ := hx.ty
      have hi : (U == "int") = false := by cases hU <;> decide
      refine ⟨_, rfl, .inr ⟨p, xs, rfl, hx, fun H1 s1 => ⟨_, rfl, ?_⟩⟩⟩
      rw [decide_eq_false l]
      refine iteN ⟨_, U, rfl, hU.same s1, ?_⟩
      rw [hi]
      exact q.same s1
    · refine ⟨_, rfl, .inr ⟨p, [x, y], rfl, hs, fun H1 s1 => ⟨_, rfl, ?_⟩⟩⟩
      refine iteF' rfl ⟨p, rfl, _, hs.same s1, rfl, _, _, rfl, _, _, rfl, rfl, x, U, rfl, hx.same s1, fun H2 s2 => ⟨_, rfl, ?_⟩⟩
      by_cases hU : U = "int"
      · obtain ⟨a, rfl⟩ := hx.intI hU
        subst hU
        refine iteT ?_
        by_cases hW : W = "int"
        · obtain ⟨b, rfl⟩ := hy.intI hW
          subst hW
          refine ⟨_, some 1, none, rfl, .inr ⟨b, rfl, fun H3 s3 => ⟨_, rfl, ?_⟩⟩⟩
          have q := q3 a b rfl rfl H3 ((s1.trans s2).trans s3)
          by_cases hb : 1 ≤ b
          · simp only [Option.all_some, Option.all_none, hb, decide_true, Bool.and_true, Bool.true_and, if_true] at q ⊢
            exact ⟨a, rfl, b, rfl, rfl, q⟩
          · simp only [Option.all_some, Option.all_none, hb, decide_false, Bool.and_true, Bool.false_and, Bool.false_eq_true, if_false] at q ⊢
            exact q
        · exact ⟨_, some 1, none, rfl, .inl ⟨W, (hy.same s1).same s2, hW, fun H3 s3 => ⟨_, rfl, by rw [if_neg Bool.false_ne_true]; exact q2 a rfl hW H3 ((s1.trans s2).trans s3)⟩⟩⟩
      · rw [beq_false_of_ne hU]
        exact iteF (q1 hU H2 (s1.trans s2))

def spNumberIn (K : PySem.W.Frag) (C : Addr) : Sp := fun vs H Q E => ∃ v part, vs = [v, part] ∧ ((∃ q, Num K H v q ∧ RetP K H q Q) ∨ (Bad K H v ∧ RaiseP H C part E))
theorem ok_number_in (T : Txt K mg A) : FnOk P w K mg base (L2.CX P w) 4 A.f_number_in A.d_number_in ["value", "part"] (spNumberIn K A.c_BadNumber) := by
  refine T.number_in.F.okX sc_number_in (fun vs H Q E h => ?_) (fun cdv A' outer s H vs Q E hr h => ?_)
  · obtain ⟨_, _, rfl, _⟩ := h; rfl
  · obtain ⟨v, part, rfl, h⟩ := h
    refine ⟨_, (pss_cons (ps_if (pt_not (pt_val (pe_call (ok_is_number T) (hr.mono (by decide)) (by rfl) T.is_number.g T.is_number.F.kp T.is_number.b .nil pass0 (pa_cons (pv 0) pa_nil)))) (pss_one (ps_raiseLow rfl T.low_BadNumber hr (takes_of rfl rfl rfl rfl) (by exact (pa_cons (pv 1) pa_nil)))) pss_nil)
      (pss_one (ps_ret (pe_call (ok_pair_of T) (hr.mono (by decide)) (by rfl) T.pair_of.g T.pair_of.F.kp T.pair_of.b .nil pass0 (pa_cons (pv 0) pa_nil))))), ?_⟩
    walk_at "vc"
    rcases h with ⟨q, hn, hq⟩ | ⟨hb, hq⟩
    · refine ⟨v, rfl, .inl ⟨q, hn, fun H1 s1 => ⟨_, rfl, ?_⟩⟩⟩
      exact iteF' rfl ⟨v, q, rfl, hn.same s1, hq.same s1⟩
    · refine ⟨v, rfl, .inr ⟨hb, fun H1 s1 => ⟨_, rfl, ?_⟩⟩⟩
      exact iteN (fun d hd => hq _ d (s1.trans (same_upd hd)) upd_same)
theorem canon_ne {a : Int × Int} (h : Canon a) : a.2 ≠ 0 := by have := h.1; omega
end
end Odd
namespace Odd
open PySem PySem.Spec PyProof.Rows L2
local macro_rules | `(tactic| walk_at "vc") => `(tactic| simp only [tSeq, tAsg, gName, tCB, tCons, tNil, tVar, tC, tOp, tUn, rI0, rI, rU, tTup, tLst, tIfS, tTest, tB, tRet, tNext, rGcd, L2.start, List.map, List.set, List.replicate, List.cons_append, List.nil_append, List.length_cons, List.length_nil, List.getElem?_cons_succ, List.getElem?_cons_zero, Option.some.injEq, exists_eq_left', exists_eq_left, List.append_nil, List.cons.injEq, V.int.injEq, exists_and_left, and_true, true_and, and_assoc, exists_const, V.bl.injEq, V.ref.injEq, Nat.sub_self, Nat.reduceAdd, Nat.reduceSub, List.replicate_succ, List.replicate_zero, tAnd, tOr, tNot, tAndV, tOrV, tNotV, tIf, tCall, tCallK, tDrop, rEq, rNe, decide_eq_true_eq, Bool.not_eq_true', decide_eq_false_iff_not, Bool.false_eq_true, if_true, if_false, reduceIte, reduceCtorEq, tMkLow, tRaiseLow, rIsB, rNotB, tBreak, tPar, gSub, rSetL, tChain, gTup, gCons, gNil, gSeq, cx_K, cx_Kn, optV, V.str.injEq, Bool.not_true, Bool.not_false, false_and, and_false, or_false, false_or, exists_false, tCallN, tCallS, tPairs])
/-! ### points -/
abbrev P2 := (Int × Int) × (Int × Int)
/-- a value passed for a point -/
def Pt (K : PySem.W.Frag) (H : Hp) (v : V) (p : P2) : Prop := ∃ a x y, v = .ref a ∧ Sq K H a [x, y] ∧ Num K H x p.1 ∧ Num K H y p.2
/-- a point as it is returned -/
def PP (K : PySem.W.Frag) (H : Hp) (v : V) (p : P2) : Prop := ∃ a x y, v = .ref a ∧ SqT K H a [x, y] ∧ Pr K H x p.1 ∧ Pr K H y p.2
theorem Pt.same {K : PySem.W.Frag} {H H' : Hp} {v : V} {p : P2} (s : Same H H') (h : Pt K H v p) : Pt K H' v p := by
  obtain ⟨a, x, y, e, h, hx, hy⟩ := h
  exact ⟨a, x, y, e, h.same s, hx.same s, hy.same s⟩
theorem PP.same {K : PySem.W.Frag} {H H' : Hp} {v : V} {p : P2} (s : Same H H') (h : PP K H v p) : PP K H' v p := by
  obtain ⟨a, x, y, e, h, hx, hy⟩ := h
  exact ⟨a, x, y, e, same_tup s h, hx.same s, hy.same s⟩
/-- what is no point -/
inductive BadP (K : PySem.W.Frag) (H : Hp) : V → Prop
  | scal {v : V} {T : String} (h : TyN K H v T) (h2 : T ≠ "list") (h3 : T ≠ "tuple") : BadP K H v
  | len {p : Addr} {xs : List V} (h : Sq K H p xs) (l : xs.length ≠ 2) : BadP K H (.ref p)
  | fst {p : Addr} {x y : V} (h : Sq K H p [x, y]) (hx : Bad K H x) : BadP K H (.ref p)
  | snd {p : Addr} {x y : V} {a : Int × Int} (h : Sq K H p [x, y]) (hx : Num K H x a) (hy : Bad K H y) : BadP K H (.ref p)
theorem BadP.same {K : PySem.W.Frag} {H H' : Hp} {v : V} (s : Same H H') (h : BadP K H v) : BadP K H' v := by
  cases h with
  | scal h h2 h3 => exact .scal (h.same s) h2 h3
  | len h l => exact .len (h.same s) l
  | fst h hx => exact .fst (h.same s) (hx.same s)
  | snd h hx hy => exact .snd (h.same s) (hx.same s) (hy.same s)
def RetPP (K : PySem.W.Frag) (H : Hp) (p : P2) (Q : VK) : Prop := ∀ H' v, Same H H' → PP K H' v p → Q v H'
theorem RetPP.same {K : PySem.W.Frag} {H H' : Hp} {p : P2} {Q : VK} (s : Same H H') (h : RetPP K H p Q) : RetPP K H' p Q := fun H2 v s2 e => h H2 v (s.trans s2) e
/-- an item of a list or of a tuple -/
def rIxA (K : PySem.W.Frag) : R2 := fun x y H Q => ∃ p xs i v, x = .ref p ∧ y = .int i ∧ Sq K H p xs ∧ atI xs i = some v ∧ Q v H
theorem ix_any {X : Cx} : IxR X (rIxA X.K) := by
  intro vl sl pins s σ H x y v u Q I rx ry h hs
  obtain ⟨p, xs, i, z, e1, e2, hq, ha, q⟩ := h
  rcases hq with hq | hq
  · exact ix_list vl sl pins s σ H x y v u Q I rx ry ⟨p, xs, i, z, e1, e2, hq, ha, q⟩ hs
  · exact ix_tup vl sl pins s σ H x y v u Q I rx ry ⟨p, xs, i, z, e1, e2, hq, ha, q⟩ hs
theorem ixA {K : PySem.W.Frag} {H : Hp} {Q : VK} {p : Addr} {xs : List V} {v : V} {i : Int} (h : Sq K H p xs) (e : atI xs i = some v) (q : Q v H) : rIxA K (.ref p) (.int i) H Q := ⟨p, xs, i, v, rfl, rfl, h, e, q⟩
def CanonP (p : P2) : Prop := Canon p.1 ∧ Canon p.2
def SmP (N : Nat) (p : P2) : Prop := Sm N p.1 ∧ Sm N p.2
theorem Pt.canon {K : PySem.W.Frag} {H : Hp} {v : V} {p : P2} (h : Pt K H v p) : CanonP p := by
  obtain ⟨a, x, y, e, h, hx, hy⟩ := h
  exact ⟨hx.canon, hy.canon⟩
def fNeg (a : Int × Int) : Int × Int := (-a.1, a.2)
def vAdd (p q : P2) : P2 := (fAdd p.1 q.1, fAdd p.2 q.2)
def vSub (p q : P2) : P2 := (fSub p.1 q.1, fSub p.2 q.2)
def vMul (p : P2) (s : Int × Int) : P2 := (fMul p.1 s, fMul p.2 s)
def vTurn (p : P2) : P2 := (fNeg p.2, p.1)
def vCross (p q : P2) : Int × Int := fSub (fMul p.1 q.2) (fMul p.2 q.1)
def vDot (p q : P2) : Int × Int := fAdd (fMul p.1 q.1) (fMul p.2 q.2)
section
variable {P : Program} {w : World} {K : PySem.W.Frag} {mg : Str → Option Value} {base : Heap} {A : Ads}
def spNeg (K : PySem.W.Frag) : Sp := fun vs H Q _ => ∃ v a, vs = [v] ∧ Pr K H v a ∧ RetP K H (fNeg a) Q
theorem ok_negative (T : Txt K mg A) : FnOk P w K mg base CX0 1 A.f_negative A.d_negative ["value"] (spNeg K) := by
  refine T.negative.F.ok sc_negative (fun vs H Q E h => ?_) (fun cdv A' outer s H vs Q E hr h => ?_)
  · obtain ⟨_, _, rfl, _⟩ := h; rfl
  · obtain ⟨v, a, rfl, ⟨p, rfl, hp⟩, q⟩ := h
    refine ⟨_, (pss_one (ps_ret (pe_tup (pa_cons (pe_un un_neg (pe_ix ix_tup (pv 0) pe_int (fun _ _ => rfl))) (pa_cons (pe_ix ix_tup (pv 0) pe_int (fun _ _ => rfl)) pa_nil))))), ?_⟩
    walk_at "vc"
    exact ixT hp rfl ⟨_, rfl, ixT hp rfl ⟨by decide, fun r hr => q _ r (same_upd hr) (st_of upd_same)⟩⟩
def spIsPoint (K : PySem.W.Frag) : Sp := fun vs H Q _ => ∃ v, vs = [v] ∧ ((∃ p, Pt K H v p ∧ RetV H (.bl true) Q) ∨ (BadP K H v ∧ RetV H (.bl false) Q))
theorem ok_is_point (T : Txt K mg A) : FnOk P w K mg base CX0 4 A.f_is_point A.d_is_point ["value"] (spIsPoint K) := by
  refine T.is_point.F.ok sc_is_point (fun vs H Q E h => ?_) (fun cdv A' outer s H vs Q E hr h => ?_)
  · obtain ⟨_, rfl, _⟩ := h; rfl
  · obtain ⟨v, rfl, h⟩ := h
    refine ⟨_, (pss_one (ps_ret (pe_and (pe_call (ok_is_pair T) (hr.mono (by decide)) (by rfl) T.is_pair.g T.is_pair.F.kp T.is_pair.b .nil pass0 (pa_cons (pv 0) pa_nil)) (pe_and (pe_call (ok_is_number T) (hr.mono (by decide)) (by rfl) T.is_number.g T.is_number.F.kp T.is_number.b .nil pass0 (pa_cons (pe_ix ix_any (pv 0) pe_int (fun _ _ => rfl)) pa_nil)) (pe_one (pe_call (ok_is_number T) (hr.mono (by decide)) (by rfl) T.is_number.g T.is_number.F.kp T.is_number.b .nil pass0 (pa_cons (pe_ix ix_any (pv 0) pe_int (fun _ _ => rfl)) pa_nil))))))), ?_⟩
    walk_at "vc"
    have all : (∃ U : String, TyN K H v U ∧ U ≠ "list" ∧ U ≠ "tuple" ∧ RetV H (.bl false) Q) ∨ (∃ p xs, v = .ref p ∧ Sq K H p xs ∧ xs.length ≠ 2 ∧ RetV H (.bl false) Q) ∨
        (∃ (p : Addr) (x y : V), v = .ref p ∧ Sq K H p [x, y] ∧ ((Bad K H x ∧ RetV H (.bl false) Q) ∨ (∃ a, Num K H x a ∧ ((Bad K H y ∧ RetV H (.bl false) Q) ∨ (∃ b, Num K H y b ∧ RetV H (.bl true) Q))))) := by
      rcases h with ⟨p, ⟨a, x, y, e, hs, hx, hy⟩, q⟩ | ⟨hb, q⟩
      · exact .inr (.inr ⟨a, x, y, e, hs, .inr ⟨_, hx, .inr ⟨_, hy, q⟩⟩⟩)
      · cases hb with
        | scal h h2 h3 => exact .inl ⟨_, h, h2, h3, q⟩
        | len h l => exact .inr (.inl ⟨_, _, rfl, h, l, q⟩)
        | fst h hx => exact .inr (.inr ⟨_, _, _, rfl, h, .inl ⟨hx, q⟩⟩)
        | snd h hx hy => exact .inr (.inr ⟨_, _, _, rfl, h, .inr ⟨_, hx, .inl ⟨hy, q⟩⟩⟩)
    rcases all with ⟨U, hU, h1, h2, q⟩ | ⟨p, xs, rfl, hx, l, q⟩ | ⟨p, x, y, rfl, hs, h⟩
    · refine ⟨v, rfl, .inl ⟨U, hU, h1, h2, fun H1 s1 => ⟨_, rfl, ?_⟩⟩⟩
      exact iteF (q H1 s1)
    · refine ⟨_, rfl, .inr ⟨p, xs, rfl, hx, fun H1 s1 => ⟨_, rfl, ?_⟩⟩⟩
      rw [decide_eq_false l]
      exact iteF (q H1 s1)
    · refine ⟨_, rfl, .inr ⟨p, _, rfl, hs, fun H1 s1 => ⟨_, rfl, ?_⟩⟩⟩
      refine iteT (ixA (hs.same s1) rfl ?_)
      rcases h with ⟨hx, q⟩ | ⟨a, hx, h⟩
      · exact ⟨x, rfl, .inr ⟨hx.same s1, fun H2 s2 => ⟨_, rfl, iteF (q H2 (s1.trans s2))⟩⟩⟩
      · refine ⟨x, rfl, .inl ⟨a, hx.same s1, fun H2 s2 => ⟨_, rfl, iteT (ixA (hs.same (s1.trans s2)) rfl ?_)⟩⟩⟩
        rcases h with ⟨hy, q⟩ | ⟨b, hy, q⟩
        · exact ⟨y, rfl, .inr ⟨hy.same (s1.trans s2), q.same (s1.trans s2)⟩⟩
        · exact ⟨y, rfl, .inl ⟨b, hy.same (s1.trans s2), q.same (s1.trans s2)⟩⟩
def spPointOf (K : PySem.W.Frag) : Sp := fun vs H Q _ => ∃ v p, vs = [v] ∧ Pt K H v p ∧ RetPP K H p Q
theorem ok_point_of (T : Txt K mg A) : FnOk P w K mg base CX0 2 A.f_point_of A.d_point_of ["value"] (spPointOf K) := by
  refine T.point_of.F.ok sc_point_of (fun vs H Q E h => ?_) (fun cdv A' outer s H vs Q E hr h => ?_)
  · obtain ⟨_, _, rfl, _⟩ := h; rfl
  · obtain ⟨v, ⟨a, b⟩, rfl, ⟨p, x, y, rfl, hs, hx, hy⟩, q⟩ := h
    refine ⟨_, (pss_one (ps_ret (pe_tup (pa_cons (pe_call (ok_pair_of T) (hr.mono (by decide)) (by rfl) T.pair_of.g T.pair_of.F.kp T.pair_of.b .nil pass0 (pa_cons (pe_ix ix_any (pv 0) pe_int (fun _ _ => rfl)) pa_nil)) (pa_cons (pe_call (ok_pair_of T) (hr.mono (by decide)) (by rfl) T.pair_of.g T.pair_of.F.kp T.pair_of.b .nil pass0 (pa_cons (pe_ix ix_any (pv 0) pe_int (fun _ _ => rfl)) pa_nil)) pa_nil))))), ?_⟩
    walk_at "vc"
    refine ixA hs rfl ⟨x, a, rfl, hx, fun H1 r1 s1 t1 => ?_⟩
    refine ixA (hs.same s1) rfl ⟨y, b, rfl, hy.same s1, fun H2 r2 s2 t2 => ⟨by decide, fun r hr => ?_⟩⟩
    have s3 := same_upd (o := .tup [.ref r1, .ref r2]) hr
    exact q _ _ ((s1.trans s2).trans s3) ⟨r, _, _, rfl, st_of upd_same, ⟨r1, rfl, same_tup (s2.trans s3) t1⟩, ⟨r2, rfl, same_tup s3 t2⟩⟩
end
end Odd
namespace Odd
open PySem PySem.Spec PyProof.Rows L2
local macro_rules | `(tactic| walk_at "vc") => `(tactic| simp only [tSeq, tAsg, gName, tCB, tCons, tNil, tVar, tC, tOp, tUn, rI0, rI, rU, tTup, tLst, tIfS, tTest, tB, tRet, tNext, rGcd, L2.start, List.map, List.set, List.replicate, List.cons_append, List.nil_append, List.length_cons, List.length_nil, List.getElem?_cons_succ, List.getElem?_cons_zero, Option.some.injEq, exists_eq_left', exists_eq_left, List.append_nil, List.cons.injEq, V.int.injEq, exists_and_left, and_true, true_and, and_assoc, exists_const, V.bl.injEq, V.ref.injEq, Nat.sub_self, Nat.reduceAdd, Nat.reduceSub, List.replicate_succ, List.replicate_zero, tAnd, tOr, tNot, tAndV, tOrV, tNotV, tIf, tCall, tCallK, tDrop, rEq, rNe, decide_eq_true_eq, Bool.not_eq_true', decide_eq_false_iff_not, Bool.false_eq_true, if_true, if_false, reduceIte, reduceCtorEq, tMkLow, tRaiseLow, rIsB, rNotB, tBreak, tPar, gSub, rSetL, tChain, gTup, gCons, gNil, gSeq, cx_K, cx_Kn, optV, V.str.injEq, Bool.not_true, Bool.not_false, false_and, and_false, or_false, false_or, exists_false, tCallN, tCallS, tPairs])
theorem fSub_canon {a b : Int × Int} (ca : Canon a) (cb : Canon b) : Canon (fSub a b) := (low_is (Int.mul_ne_zero (canon_ne ca) (canon_ne cb))).1.1
theorem fAdd_canon {a b : Int × Int} (ca : Canon a) (cb : Canon b) : Canon (fAdd a b) := (low_is (Int.mul_ne_zero (canon_ne ca) (canon_ne cb))).1.1
theorem fMul_canon {a b : Int × Int} (ca : Canon a) (cb : Canon b) : Canon (fMul a b) := (low_is (Int.mul_ne_zero (canon_ne ca) (canon_ne cb))).1.1
theorem fNeg_canon {a : Int × Int} (ca : Canon a) : Canon (fNeg a) := ⟨ca.1, by show Nat.gcd (-a.1).natAbs a.2.natAbs = 1; rw [Int.natAbs_neg]; exact ca.2⟩
theorem pow_le {n m : Nat} (h : n ≤ m) : (2 : Nat) ^ n ≤ 2 ^ m := Nat.pow_le_pow_right (by decide) h
theorem Sm.up {n m : Nat} {q : Int × Int} (h : n ≤ m) (s : Sm n q) : Sm m q := ⟨Nat.lt_of_lt_of_le s.1 (pow_le h), Nat.lt_of_lt_of_le s.2 (pow_le h)⟩
theorem SmP.up {n m : Nat} {q : P2} (h : n ≤ m) (s : SmP n q) : SmP m q := ⟨s.1.up h, s.2.up h⟩
theorem two_pow (n : Nat) : (2 : Nat) ^ n + 2 ^ n = 2 ^ (n + 1) := by rw [Nat.pow_succ]; omega
theorem fMul_sm {n : Nat} {a b : Int × Int} (ca : Canon a) (cb : Canon b) (sa : Sm n a) (sb : Sm n b) : Sm (n + n) (fMul a b) := by
  obtain ⟨_, h2, h3⟩ := low_is (t := a.1 * b.1) (Int.mul_ne_zero (canon_ne ca) (canon_ne cb))
  exact ⟨Nat.lt_of_le_of_lt h2 (wide_lt sa.1 sb.1), Nat.lt_of_le_of_lt h3 (wide_lt sa.2 sb.2)⟩
theorem fSub_sm {n : Nat} {a b : Int × Int} (ca : Canon a) (cb : Canon b) (sa : Sm n a) (sb : Sm n b) : Sm (n + n + 1) (fSub a b) := by
  obtain ⟨_, h2, h3⟩ := low_is (t := a.1 * b.2 - b.1 * a.2) (Int.mul_ne_zero (canon_ne ca) (canon_ne cb))
  have m1 := wide_lt sa.1 sb.2
  have m2 := wide_lt sb.1 sa.2
  have e := two_pow (n + n)
  exact ⟨Nat.lt_of_le_of_lt h2 (by omega), Nat.lt_of_le_of_lt h3 (Nat.lt_of_lt_of_le (wide_lt sa.2 sb.2) (pow_le (by omega)))⟩
theorem fAdd_sm {n : Nat} {a b : Int × Int} (ca : Canon a) (cb : Canon b) (sa : Sm n a) (sb : Sm n b) : Sm (n + n + 1) (fAdd a b) := by
  obtain ⟨_, h2, h3⟩ := low_is (t := a.1 * b.2 + b.1 * a.2) (Int.mul_ne_zero (canon_ne ca) (canon_ne cb))
  have m1 := wide_lt sa.1 sb.2
  have m2 := wide_lt sb.1 sa.2
  have e := two_pow (n + n)
  exact ⟨Nat.lt_of_le_of_lt h2 (by omega), Nat.lt_of_le_of_lt h3 (Nat.lt_of_lt_of_le (wide_lt sa.2 sb.2) (pow_le (by omega)))⟩
theorem vSub_canon {p q : P2} (cp : CanonP p) (cq : CanonP q) : CanonP (vSub p q) := ⟨fSub_canon cp.1 cq.1, fSub_canon cp.2 cq.2⟩
theorem vMul_canon {p : P2} {s : Int × Int} (cp : CanonP p) (cs : Canon s) : CanonP (vMul p s) := ⟨fMul_canon cp.1 cs, fMul_canon cp.2 cs⟩
theorem vSub_sm {n : Nat} {p q : P2} (cp : CanonP p) (cq : CanonP q) (sp : SmP n p) (sq : SmP n q) : SmP (n + n + 1) (vSub p q) := ⟨fSub_sm cp.1 cq.1 sp.1 sq.1, fSub_sm cp.2 cq.2 sp.2 sq.2⟩
theorem vMul_sm {n : Nat} {p : P2} {s : Int × Int} (cp : CanonP p) (cs : Canon s) (sp : SmP n p) (ss : Sm n s) : SmP (n + n) (vMul p s) := ⟨fMul_sm cp.1 cs sp.1 ss, fMul_sm cp.2 cs sp.2 ss⟩
section
variable {P : Program} {w : World} {K : PySem.W.Frag} {mg : Str → Option Value} {base : Heap} {A : Ads}
/-- a new point of two numbers -/
theorem pp_new {H : Hp} {r : Addr} {x y : V} {p : P2} (hr : H r = none) (hx : Pr K H x p.1) (hy : Pr K H y p.2) : PP K (upd H r (.tup [x, y])) (.ref r) p :=
  ⟨r, x, y, rfl, st_of upd_same, hx.same (same_upd hr), hy.same (same_upd hr)⟩
def spVV (K : PySem.W.Frag) (f : P2 → P2 → P2) : Sp := fun vs H Q _ => ∃ v u p q, vs = [v, u] ∧ PP K H v p ∧ PP K H u q ∧ CanonP p ∧ CanonP q ∧ SmP 4000 p ∧ SmP 4000 q ∧ RetPP K H (f p q) Q
theorem ok_joined (T : Txt K mg A) : FnOk P w K mg base CX0 3 A.f_joined A.d_joined ["one", "other"] (spVV K vAdd) := by
  refine T.joined.F.ok sc_joined (fun vs H Q E h => ?_) (fun cdv A' outer s H vs Q E hr h => ?_)
  · obtain ⟨_, _, _, _, rfl, _⟩ := h; rfl
  · obtain ⟨v, u, p, q, rfl, ⟨a, x, y, rfl, ha, hx, hy⟩, ⟨b, z, t, rfl, hb, hz, ht⟩, cp, cq, sp, sq, ret⟩ := h
    refine ⟨_, (pss_one (ps_ret (pe_tup (pa_cons (pe_call (ok_sum_of T) (hr.mono (by decide)) (by rfl) T.sum_of.g T.sum_of.F.kp T.sum_of.b .nil pass0 (pa_cons (pe_ix ix_tup (pv 0) pe_int (fun _ _ => rfl)) (pa_cons (pe_ix ix_tup (pv 1) pe_int (fun _ _ => rfl)) pa_nil))) (pa_cons (pe_call (ok_sum_of T) (hr.mono (by decide)) (by rfl) T.sum_of.g T.sum_of.F.kp T.sum_of.b .nil pass0 (pa_cons (pe_ix ix_tup (pv 0) pe_int (fun _ _ => rfl)) (pa_cons (pe_ix ix_tup (pv 1) pe_int (fun _ _ => rfl)) pa_nil))) pa_nil))))), ?_⟩
    walk_at "vc"
    refine ixT ha rfl (ixT hb rfl ⟨x, z, _, _, rfl, hx, hz, sp.1, sq.1, ⟨canon_ne cp.1, canon_ne cq.1⟩, fun H1 r1 s1 t1 => ?_⟩)
    refine ixT (same_tup s1 ha) rfl (ixT (same_tup s1 hb) rfl ⟨y, t, _, _, rfl, hy.same s1, ht.same s1, sp.2, sq.2, ⟨canon_ne cp.2, canon_ne cq.2⟩, fun H2 r2 s2 t2 => ⟨by decide, fun r hr => ?_⟩⟩)
    exact ret _ _ ((s1.trans s2).trans (same_upd hr)) (pp_new hr ⟨r1, rfl, same_tup s2 t1⟩ ⟨r2, rfl, t2⟩)
/-- the end less the start -/
theorem ok_way_between (T : Txt K mg A) : FnOk P w K mg base CX0 3 A.f_way_between A.d_way_between ["start", "end"] (spVV K (fun p q => vSub q p)) := by
  refine T.way_between.F.ok sc_way_between (fun vs H Q E h => ?_) (fun cdv A' outer s H vs Q E hr h => ?_)
  · obtain ⟨_, _, _, _, rfl, _⟩ := h; rfl
  · obtain ⟨v, u, p, q, rfl, ⟨a, x, y, rfl, ha, hx, hy⟩, ⟨b, z, t, rfl, hb, hz, ht⟩, cp, cq, sp, sq, ret⟩ := h
    refine ⟨_, (pss_one (ps_ret (pe_tup (pa_cons (pe_call (ok_difference T) (hr.mono (by decide)) (by rfl) T.difference.g T.difference.F.kp T.difference.b .nil pass0 (pa_cons (pe_ix ix_tup (pv 1) pe_int (fun _ _ => rfl)) (pa_cons (pe_ix ix_tup (pv 0) pe_int (fun _ _ => rfl)) pa_nil))) (pa_cons (pe_call (ok_difference T) (hr.mono (by decide)) (by rfl) T.difference.g T.difference.F.kp T.difference.b .nil pass0 (pa_cons (pe_ix ix_tup (pv 1) pe_int (fun _ _ => rfl)) (pa_cons (pe_ix ix_tup (pv 0) pe_int (fun _ _ => rfl)) pa_nil))) pa_nil))))), ?_⟩
    walk_at "vc"
    refine ixT hb rfl (ixT ha rfl ⟨z, x, _, _, rfl, hz, hx, sq.1, sp.1, ⟨canon_ne cq.1, canon_ne cp.1⟩, fun H1 r1 s1 t1 => ?_⟩)
    refine ixT (same_tup s1 hb) rfl (ixT (same_tup s1 ha) rfl ⟨t, y, _, _, rfl, ht.same s1, hy.same s1, sq.2, sp.2, ⟨canon_ne cq.2, canon_ne cp.2⟩, fun H2 r2 s2 t2 => ⟨by decide, fun r hr => ?_⟩⟩)
    exact ret _ _ ((s1.trans s2).trans (same_upd hr)) (pp_new hr ⟨r1, rfl, same_tup s2 t1⟩ ⟨r2, rfl, t2⟩)
def spVS (K : PySem.W.Frag) : Sp := fun vs H Q _ => ∃ v u p f, vs = [v, u] ∧ PP K H v p ∧ Pr K H u f ∧ CanonP p ∧ Canon f ∧ SmP 4000 p ∧ Sm 4000 f ∧ RetPP K H (vMul p f) Q
theorem ok_stretched (T : Txt K mg A) : FnOk P w K mg base CX0 3 A.f_stretched A.d_stretched ["way", "factor"] (spVS K) := by
  refine T.stretched.F.ok sc_stretched (fun vs H Q E h => ?_) (fun cdv A' outer s H vs Q E hr h => ?_)
  · obtain ⟨_, _, _, _, rfl, _⟩ := h; rfl
  · obtain ⟨v, u, p, f, rfl, ⟨a, x, y, rfl, ha, hx, hy⟩, hf, cp, cf, sp, sf, ret⟩ := h
    refine ⟨_, (pss_one (ps_ret (pe_tup (pa_cons (pe_call (ok_product_of T) (hr.mono (by decide)) (by rfl) T.product_of.g T.product_of.F.kp T.product_of.b .nil pass0 (pa_cons (pe_ix ix_tup (pv 0) pe_int (fun _ _ => rfl)) (pa_cons (pv 1) pa_nil))) (pa_cons (pe_call (ok_product_of T) (hr.mono (by decide)) (by rfl) T.product_of.g T.product_of.F.kp T.product_of.b .nil pass0 (pa_cons (pe_ix ix_tup (pv 0) pe_int (fun _ _ => rfl)) (pa_cons (pv 1) pa_nil))) pa_nil))))), ?_⟩
    walk_at "vc"
    refine ixT ha rfl ⟨x, u, _, _, rfl, hx, hf, sp.1, sf, ⟨canon_ne cp.1, canon_ne cf⟩, fun H1 r1 s1 t1 => ?_⟩
    refine ixT (same_tup s1 ha) rfl ⟨y, u, _, _, rfl, hy.same s1, hf.same s1, sp.2, sf, ⟨canon_ne cp.2, canon_ne cf⟩, fun H2 r2 s2 t2 => ⟨by decide, fun r hr => ?_⟩⟩
    exact ret _ _ ((s1.trans s2).trans (same_upd hr)) (pp_new hr ⟨r1, rfl, same_tup s2 t1⟩ ⟨r2, rfl, t2⟩)
def spTurned (K : PySem.W.Frag) : Sp := fun vs H Q _ => ∃ v p, vs = [v] ∧ PP K H v p ∧ RetPP K H (vTurn p) Q
theorem ok_turned (T : Txt K mg A) : FnOk P w K mg base CX0 2 A.f_turned A.d_turned ["way"] (spTurned K) := by
  refine T.turned.F.ok sc_turned (fun vs H Q E h => ?_) (fun cdv A' outer s H vs Q E hr h => ?_)
  · obtain ⟨_, _, rfl, _⟩ := h; rfl
  · obtain ⟨v, p, rfl, ⟨a, x, y, rfl, ha, hx, hy⟩, ret⟩ := h
    refine ⟨_, (pss_one (ps_ret (pe_tup (pa_cons (pe_call (ok_negative T) (hr.mono (by decide)) (by rfl) T.negative.g T.negative.F.kp T.negative.b .nil pass0 (pa_cons (pe_ix ix_tup (pv 0) pe_int (fun _ _ => rfl)) pa_nil)) (pa_cons (pe_ix ix_tup (pv 0) pe_int (fun _ _ => rfl)) pa_nil))))), ?_⟩
    walk_at "vc"
    refine ixT ha rfl ⟨y, _, rfl, hy, fun H1 r1 s1 t1 => ixT (same_tup s1 ha) rfl ⟨by decide, fun r hr => ?_⟩⟩
    exact ret _ _ (s1.trans (same_upd hr)) (pp_new hr ⟨r1, rfl, t1⟩ (hx.same s1))
def spVN (K : PySem.W.Frag) (f : P2 → P2 → Int × Int) : Sp := fun vs H Q _ => ∃ v u p q, vs = [v, u] ∧ PP K H v p ∧ PP K H u q ∧ CanonP p ∧ CanonP q ∧ SmP 2000 p ∧ SmP 2000 q ∧ RetP K H (f p q) Q
theorem ok_cross_of (T : Txt K mg A) : FnOk P w K mg base CX0 3 A.f_cross_of A.d_cross_of ["one", "other"] (spVN K vCross) := by
  refine T.cross_of.F.ok sc_cross_of (fun vs H Q E h => ?_) (fun cdv A' outer s H vs Q E hr h => ?_)
  · obtain ⟨_, _, _, _, rfl, _⟩ := h; rfl
  · obtain ⟨v, u, p, q, rfl, ⟨a, x, y, rfl, ha, hx, hy⟩, ⟨b, z, t, rfl, hb, hz, ht⟩, cp, cq, sp, sq, ret⟩ := h
    have sp4 := sp.up (m := 4000) (by decide)
    have sq4 := sq.up (m := 4000) (by decide)
    refine ⟨_, (pss_one (ps_ret (pe_call (ok_difference T) (hr.mono (by decide)) (by rfl) T.difference.g T.difference.F.kp T.difference.b .nil pass0 (pa_cons (pe_call (ok_product_of T) (hr.mono (by decide)) (by rfl) T.product_of.g T.product_of.F.kp T.product_of.b .nil pass0 (pa_cons (pe_ix ix_tup (pv 0) pe_int (fun _ _ => rfl)) (pa_cons (pe_ix ix_tup (pv 1) pe_int (fun _ _ => rfl)) pa_nil))) (pa_cons (pe_call (ok_product_of T) (hr.mono (by decide)) (by rfl) T.product_of.g T.product_of.F.kp T.product_of.b .nil pass0 (pa_cons (pe_ix ix_tup (pv 0) pe_int (fun _ _ => rfl)) (pa_cons (pe_ix ix_tup (pv 1) pe_int (fun _ _ => rfl)) pa_nil))) pa_nil))))), ?_⟩
    walk_at "vc"
    refine ixT ha rfl (ixT hb rfl ⟨x, t, _, _, rfl, hx, ht, sp4.1, sq4.2, ⟨canon_ne cp.1, canon_ne cq.2⟩, fun H1 r1 s1 t1 => ?_⟩)
    refine ixT (same_tup s1 ha) rfl (ixT (same_tup s1 hb) rfl ⟨y, z, _, _, rfl, hy.same s1, hz.same s1, sp4.2, sq4.1, ⟨canon_ne cp.2, canon_ne cq.1⟩, fun H2 r2 s2 t2 => ?_⟩)
    exact ⟨_, _, _, _, rfl, ⟨r1, rfl, same_tup s2 t1⟩, ⟨r2, rfl, t2⟩, fMul_sm cp.1 cq.2 sp.1 sq.2, fMul_sm cp.2 cq.1 sp.2 sq.1, ⟨canon_ne (fMul_canon cp.1 cq.2), canon_ne (fMul_canon cp.2 cq.1)⟩, ret.same (s1.trans s2)⟩
theorem ok_dot_of (T : Txt K mg A) : FnOk P w K mg base CX0 3 A.f_dot_of A.d_dot_of ["one", "other"] (spVN K vDot) := by
  refine T.dot_of.F.ok sc_dot_of (fun vs H Q E h => ?_) (fun cdv A' outer s H vs Q E hr h => ?_)
  · obtain ⟨_, _, _, _, rfl, _⟩ := h; rfl
  · obtain ⟨v, u, p, q, rfl, ⟨a, x, y, rfl, ha, hx, hy⟩, ⟨b, z, t, rfl, hb, hz, ht⟩, cp, cq, sp, sq, ret⟩ := h
    have sp4 := sp.up (m := 4000) (by decide)
    have sq4 := sq.up (m := 4000) (by decide)
    refine ⟨_, (pss_one (ps_ret (pe_call (ok_sum_of T) (hr.mono (by decide)) (by rfl) T.sum_of.g T.sum_of.F.kp T.sum_of.b .nil pass0 (pa_cons (pe_call (ok_product_of T) (hr.mono (by decide)) (by rfl) T.product_of.g T.product_of.F.kp T.product_of.b .nil pass0 (pa_cons (pe_ix ix_tup (pv 0) pe_int (fun _ _ => rfl)) (pa_cons (pe_ix ix_tup (pv 1) pe_int (fun _ _ => rfl)) pa_nil))) (pa_cons (pe_call (ok_product_of T) (hr.mono (by decide)) (by rfl) T.product_of.g T.product_of.F.kp T.product_of.b .nil pass0 (pa_cons (pe_ix ix_tup (pv 0) pe_int (fun _ _ => rfl)) (pa_cons (pe_ix ix_tup (pv 1) pe_int (fun _ _ => rfl)) pa_nil))) pa_nil))))), ?_⟩
    walk_at "vc"
    refine ixT ha rfl (ixT hb rfl ⟨x, z, _, _, rfl, hx, hz, sp4.1, sq4.1, ⟨canon_ne cp.1, canon_ne cq.1⟩, fun H1 r1 s1 t1 => ?_⟩)
    refine ixT (same_tup s1 ha) rfl (ixT (same_tup s1 hb) rfl ⟨y, t, _, _, rfl, hy.same s1, ht.same s1, sp4.2, sq4.2, ⟨canon_ne cp.2, canon_ne cq.2⟩, fun H2 r2 s2 t2 => ?_⟩)
    exact ⟨_, _, _, _, rfl, ⟨r1, rfl, same_tup s2 t1⟩, ⟨r2, rfl, t2⟩, fMul_sm cp.1 cq.1 sp.1 sq.1, fMul_sm cp.2 cq.2 sp.2 sq.2, ⟨canon_ne (fMul_canon cp.1 cq.1), canon_ne (fMul_canon cp.2 cq.2)⟩, ret.same (s1.trans s2)⟩
def spMoved (K : PySem.W.Frag) : Sp := fun vs H Q _ => ∃ v u f p q s, vs = [v, u, f] ∧ PP K H v p ∧ PP K H u q ∧ Pr K H f s ∧ CanonP p ∧ CanonP q ∧ Canon s ∧ SmP 2000 p ∧ SmP 2000 q ∧ Sm 2000 s ∧ RetPP K H (vAdd p (vMul q s)) Q
theorem ok_moved (T : Txt K mg A) : FnOk P w K mg base CX0 4 A.f_moved A.d_moved ["start", "way", "share"] (spMoved K) := by
  refine T.moved.F.ok sc_moved (fun vs H Q E h => ?_) (fun cdv A' outer s H vs Q E hr h => ?_)
  · obtain ⟨_, _, _, _, _, _, rfl, _⟩ := h; rfl
  · obtain ⟨v, u, f, p, q, sh, rfl, hv, hu, hf, cp, cq, cs, sp, sq, ss, ret⟩ := h
    refine ⟨_, (pss_one (ps_ret (pe_call (ok_joined T) (hr.mono (by decide)) (by rfl) T.joined.g T.joined.F.kp T.joined.b .nil pass0 (pa_cons (pv 0) (pa_cons (pe_call (ok_stretched T) (hr.mono (by decide)) (by rfl) T.stretched.g T.stretched.F.kp T.stretched.b .nil pass0 (pa_cons (pv 1) (pa_cons (pv 2) pa_nil))) pa_nil))))), ?_⟩
    walk_at "vc"
    refine ⟨u, f, q, sh, rfl, hu, hf, cq, cs, sq.up (by decide), ss.up (by decide), fun H1 z s1 hz => ?_⟩
    exact ⟨v, z, p, _, rfl, hv.same s1, hz, cp, vMul_canon cq cs, sp.up (by decide), vMul_sm cq cs sq ss, ret.same s1⟩
def spPointIn (K : PySem.W.Frag) (C : Addr) : Sp := fun vs H Q E => ∃ v part, vs = [v, part] ∧ ((∃ p, Pt K H v p ∧ RetPP K H p Q) ∨ (BadP K H v ∧ RaiseP H C part E))
theorem ok_point_in (T : Txt K mg A) : FnOk P w K mg base (L2.CX P w) 5 A.f_point_in A.d_point_in ["value", "part"] (spPointIn K A.c_BadPoint) := by
  refine T.point_in.F.okX sc_point_in (fun vs H Q E h => ?_) (fun cdv A' outer s H vs Q E hr h => ?_)
  · obtain ⟨_, _, rfl, _⟩ := h; rfl
  · obtain ⟨v, part, rfl, h⟩ := h
    refine ⟨_, (pss_cons (ps_if (pt_not (pt_val (pe_call (ok_is_point T) (hr.mono (by decide)) (by rfl) T.is_point.g T.is_point.F.kp T.is_point.b .nil pass0 (pa_cons (pv 0) pa_nil)))) (pss_one (ps_raiseLow rfl T.low_BadPoint hr (takes_of rfl rfl rfl rfl) (by exact (pa_cons (pv 1) pa_nil)))) pss_nil)
      (pss_one (ps_ret (pe_call (ok_point_of T) (hr.mono (by decide)) (by rfl) T.point_of.g T.point_of.F.kp T.point_of.b .nil pass0 (pa_cons (pv 0) pa_nil))))), ?_⟩
    walk_at "vc"
    rcases h with ⟨p, hn, hq⟩ | ⟨hb, hq⟩
    · refine ⟨v, rfl, .inl ⟨p, hn, fun H1 s1 => ⟨_, rfl, ?_⟩⟩⟩
      exact iteF' rfl ⟨v, p, rfl, hn.same s1, hq.same s1⟩
    · refine ⟨v, rfl, .inr ⟨hb, fun H1 s1 => ⟨_, rfl, ?_⟩⟩⟩
      exact iteN (fun d hd => hq _ d (s1.trans (same_upd hd)) upd_same)
end
end Odd
namespace Odd
open PySem PySem.Spec PyProof.Rows L2
local macro_rules | `(tactic| walk_at "vc") => `(tactic| simp only [tSeq, tAsg, gName, tCB, tCons, tNil, tVar, tC, tOp, tUn, rI0, rI, rU, tTup, tLst, tIfS, tTest, tB, tRet, tNext, rGcd, L2.start, List.map, List.set, List.replicate, List.cons_append, List.nil_append, List.length_cons, List.length_nil, List.getElem?_cons_succ, List.getElem?_cons_zero, Option.some.injEq, exists_eq_left', exists_eq_left, List.append_nil, List.cons.injEq, V.int.injEq, exists_and_left, and_true, true_and, and_assoc, exists_const, V.bl.injEq, V.ref.injEq, Nat.sub_self, Nat.reduceAdd, Nat.reduceSub, List.replicate_succ, List.replicate_zero, tAnd, tOr, tNot, tAndV, tOrV, tNotV, tIf, tCall, tCallK, tDrop, rEq, rNe, decide_eq_true_eq, Bool.not_eq_true', decide_eq_false_iff_not, Bool.false_eq_true, if_true, if_false, reduceIte, reduceCtorEq, tMkLow, tRaiseLow, rIsB, rNotB, tBreak, tPar, gSub, rSetL, tChain, gTup, gCons, gNil, gSeq, cx_K, cx_Kn, optV, V.str.injEq, Bool.not_true, Bool.not_false, false_and, and_false, or_false, false_or, exists_false, tCallN, tCallS, tPairs])
section
variable {P : Program} {w : World} {K : PySem.W.Frag} {mg : Str → Option Value} {base : Heap} {A : Ads}
def spPoint (K : PySem.W.Frag) (C : Addr) : Sp := fun vs H Q E => ∃ v u, vs = [v, u] ∧ ((∃ a b, Num K H v a ∧ Num K H u b ∧ RetPP K H (a, b) Q) ∨ (Bad K H v ∧ RaiseP H C (.str "x") E) ∨ (∃ a, Num K H v a ∧ Bad K H u ∧ RaiseP H C (.str "y") E))
theorem ok_point (T : Txt K mg A) : FnOk P w K mg base (L2.CX P w) 6 A.f_point A.d_point ["x", "y"] (spPoint K A.c_BadNumber) := by
  refine T.point.F.okX sc_point (fun vs H Q E h => ?_) (fun cdv A' outer s H vs Q E hr h => ?_)
  · obtain ⟨_, _, rfl, _⟩ := h; rfl
  · obtain ⟨v, u, rfl, h⟩ := h
    refine ⟨_, (pss_one (ps_ret (pe_tup (pa_cons (pe_call (ok_number_in T) (hr.mono (by decide)) (by rfl) T.number_in.g T.number_in.F.kp T.number_in.b .nil (passes_call (takes_of rfl rfl rfl rfl) (fun _ _ _ _ h => h)) (pa_cons (pv 0) (pa_cons pe_str pa_nil))) (pa_cons (pe_call (ok_number_in T) (hr.mono (by decide)) (by rfl) T.number_in.g T.number_in.F.kp T.number_in.b .nil (passes_call (takes_of rfl rfl rfl rfl) (fun _ _ _ _ h => h)) (pa_cons (pv 1) (pa_cons pe_str pa_nil))) pa_nil))))), ?_⟩
    walk_at "vc"
    rcases h with ⟨a, b, ha, hb, q⟩ | ⟨hb, q⟩ | ⟨a, ha, hb, q⟩
    · refine ⟨v, _, rfl, .inl ⟨a, ha, fun H1 p s1 hp => ?_⟩⟩
      refine ⟨u, _, rfl, .inl ⟨b, hb.same s1, fun H2 r s2 hr2 => ⟨by decide, fun z hz => ?_⟩⟩⟩
      exact q _ _ ((s1.trans s2).trans (same_upd hz)) (pp_new hz ⟨p, rfl, same_tup s2 hp⟩ ⟨r, rfl, hr2⟩)
    · exact ⟨v, _, rfl, .inr ⟨hb, q⟩⟩
    · refine ⟨v, _, rfl, .inl ⟨a, ha, fun H1 p s1 hp => ?_⟩⟩
      exact ⟨u, _, rfl, .inr ⟨hb.same s1, q.same s1⟩⟩
/-- a function of two points -/
def spPts (K : PySem.W.Frag) (C : Addr) (R : P2 → P2 → Hp → VK → Prop) : Sp := fun vs H Q E => ∃ v u, vs = [v, u] ∧ ((∃ p q, Pt K H v p ∧ Pt K H u q ∧ SmP 900 p ∧ SmP 900 q ∧ R p q H Q) ∨ (BadP K H v ∧ RaiseP H C (.str "one") E) ∨ (∃ p, Pt K H v p ∧ BadP K H u ∧ RaiseP H C (.str "other") E))
def rPP (K : PySem.W.Frag) (f : P2 → P2 → P2) : P2 → P2 → Hp → VK → Prop := fun p q H Q => RetPP K H (f p q) Q
def rPN (K : PySem.W.Frag) (f : P2 → P2 → Int × Int) : P2 → P2 → Hp → VK → Prop := fun p q H Q => RetP K H (f p q) Q
theorem ok_added (T : Txt K mg A) : FnOk P w K mg base (L2.CX P w) 6 A.f_added A.d_added ["one", "other"] (spPts K A.c_BadPoint (rPP K vAdd)) := by
  refine T.added.F.okX sc_added (fun vs H Q E h => ?_) (fun cdv A' outer s H vs Q E hr h => ?_)
  · obtain ⟨_, _, rfl, _⟩ := h; rfl
  · obtain ⟨v, u, rfl, h⟩ := h
    refine ⟨_, (pss_one (ps_ret (pe_call (ok_joined T) (hr.mono (by decide)) (by rfl) T.joined.g T.joined.F.kp T.joined.b .nil pass0 (pa_cons (pe_call (ok_point_in T) (hr.mono (by decide)) (by rfl) T.point_in.g T.point_in.F.kp T.point_in.b .nil (passes_call (takes_of rfl rfl rfl rfl) (fun _ _ _ _ h => h)) (pa_cons (pv 0) (pa_cons pe_str pa_nil))) (pa_cons (pe_call (ok_point_in T) (hr.mono (by decide)) (by rfl) T.point_in.g T.point_in.F.kp T.point_in.b .nil (passes_call (takes_of rfl rfl rfl rfl) (fun _ _ _ _ h => h)) (pa_cons (pv 1) (pa_cons pe_str pa_nil))) pa_nil))))), ?_⟩
    walk_at "vc"
    rcases h with ⟨a, b, ha, hb, sa, sb, q⟩ | ⟨hb, q⟩ | ⟨a, ha, hb, q⟩
    · refine ⟨v, _, rfl, .inl ⟨a, ha, fun H1 z s1 hz => ?_⟩⟩
      refine ⟨u, _, rfl, .inl ⟨b, hb.same s1, fun H2 y s2 hy => ?_⟩⟩
      exact ⟨z, y, a, b, rfl, hz.same s2, hy, ha.canon, hb.canon, sa.up (by decide), sb.up (by decide), RetPP.same (s1.trans s2) q⟩
    · exact ⟨v, _, rfl, .inr ⟨hb, q⟩⟩
    · refine ⟨v, _, rfl, .inl ⟨a, ha, fun H1 z s1 hz => ?_⟩⟩
      exact ⟨u, _, rfl, .inr ⟨hb.same s1, q.same s1⟩⟩
theorem ok_taken (T : Txt K mg A) : FnOk P w K mg base (L2.CX P w) 6 A.f_taken A.d_taken ["one", "other"] (spPts K A.c_BadPoint (rPP K vSub)) := by
  refine T.taken.F.okX sc_taken (fun vs H Q E h => ?_) (fun cdv A' outer s H vs Q E hr h => ?_)
  · obtain ⟨_, _, rfl, _⟩ := h; rfl
  · obtain ⟨v, u, rfl, h⟩ := h
    refine ⟨_, (pss_cons (ps_set (i := 2) sc_taken.nd rfl (.inl rfl) (pe_call (ok_point_in T) (hr.mono (by decide)) (by rfl) T.point_in.g T.point_in.F.kp T.point_in.b .nil (passes_call (takes_of rfl rfl rfl rfl) (fun _ _ _ _ h => h)) (pa_cons (pv 0) (pa_cons pe_str pa_nil))))
      (pss_one (ps_ret (pe_call (ok_way_between T) (hr.mono (by decide)) (by rfl) T.way_between.g T.way_between.F.kp T.way_between.b .nil pass0 (pa_cons (pe_call (ok_point_in T) (hr.mono (by decide)) (by rfl) T.point_in.g T.point_in.F.kp T.point_in.b .nil (passes_call (takes_of rfl rfl rfl rfl) (fun _ _ _ _ h => h)) (pa_cons (pv 1) (pa_cons pe_str pa_nil))) (pa_cons (pv 2) pa_nil)))))), ?_⟩
    walk_at "vc"
    rcases h with ⟨a, b, ha, hb, sa, sb, q⟩ | ⟨hb, q⟩ | ⟨a, ha, hb, q⟩
    · refine ⟨v, _, rfl, .inl ⟨a, ha, fun H1 z s1 hz => ?_⟩⟩
      refine ⟨u, _, rfl, .inl ⟨b, hb.same s1, fun H2 y s2 hy => ?_⟩⟩
      exact ⟨y, z, b, a, rfl, hy, hz.same s2, hb.canon, ha.canon, sb.up (by decide), sa.up (by decide), RetPP.same (s1.trans s2) q⟩
    · exact ⟨v, _, rfl, .inr ⟨hb, q⟩⟩
    · refine ⟨v, _, rfl, .inl ⟨a, ha, fun H1 z s1 hz => ?_⟩⟩
      exact ⟨u, _, rfl, .inr ⟨hb.same s1, q.same s1⟩⟩
theorem ok_cross (T : Txt K mg A) : FnOk P w K mg base (L2.CX P w) 6 A.f_cross A.d_cross ["one", "other"] (spPts K A.c_BadPoint (rPN K vCross)) := by
  refine T.cross.F.okX sc_cross (fun vs H Q E h => ?_) (fun cdv A' outer s H vs Q E hr h => ?_)
  · obtain ⟨_, _, rfl, _⟩ := h; rfl
  · obtain ⟨v, u, rfl, h⟩ := h
    refine ⟨_, (pss_one (ps_ret (pe_call (ok_cross_of T) (hr.mono (by decide)) (by rfl) T.cross_of.g T.cross_of.F.kp T.cross_of.b .nil pass0 (pa_cons (pe_call (ok_point_in T) (hr.mono (by decide)) (by rfl) T.point_in.g T.point_in.F.kp T.point_in.b .nil (passes_call (takes_of rfl rfl rfl rfl) (fun _ _ _ _ h => h)) (pa_cons (pv 0) (pa_cons pe_str pa_nil))) (pa_cons (pe_call (ok_point_in T) (hr.mono (by decide)) (by rfl) T.point_in.g T.point_in.F.kp T.point_in.b .nil (passes_call (takes_of rfl rfl rfl rfl) (fun _ _ _ _ h => h)) (pa_cons (pv 1) (pa_cons pe_str pa_nil))) pa_nil))))), ?_⟩
    walk_at "vc"
    rcases h with ⟨a, b, ha, hb, sa, sb, q⟩ | ⟨hb, q⟩ | ⟨a, ha, hb, q⟩
    · refine ⟨v, _, rfl, .inl ⟨a, ha, fun H1 z s1 hz => ?_⟩⟩
      refine ⟨u, _, rfl, .inl ⟨b, hb.same s1, fun H2 y s2 hy => ?_⟩⟩
      exact ⟨z, y, a, b, rfl, hz.same s2, hy, ha.canon, hb.canon, sa.up (by decide), sb.up (by decide), RetP.same (s1.trans s2) q⟩
    · exact ⟨v, _, rfl, .inr ⟨hb, q⟩⟩
    · refine ⟨v, _, rfl, .inl ⟨a, ha, fun H1 z s1 hz => ?_⟩⟩
      exact ⟨u, _, rfl, .inr ⟨hb.same s1, q.same s1⟩⟩
theorem ok_dot (T : Txt K mg A) : FnOk P w K mg base (L2.CX P w) 6 A.f_dot A.d_dot ["one", "other"] (spPts K A.c_BadPoint (rPN K vDot)) := by
  refine T.dot.F.okX sc_dot (fun vs H Q E h => ?_) (fun cdv A' outer s H vs Q E hr h => ?_)
  · obtain ⟨_, _, rfl, _⟩ := h; rfl
  · obtain ⟨v, u, rfl, h⟩ := h
    refine ⟨_, (pss_one (ps_ret (pe_call (ok_dot_of T) (hr.mono (by decide)) (by rfl) T.dot_of.g T.dot_of.F.kp T.dot_of.b .nil pass0 (pa_cons (pe_call (ok_point_in T) (hr.mono (by decide)) (by rfl) T.point_in.g T.point_in.F.kp T.point_in.b .nil (passes_call (takes_of rfl rfl rfl rfl) (fun _ _ _ _ h => h)) (pa_cons (pv 0) (pa_cons pe_str pa_nil))) (pa_cons (pe_call (ok_point_in T) (hr.mono (by decide)) (by rfl) T.point_in.g T.point_in.F.kp T.point_in.b .nil (passes_call (takes_of rfl rfl rfl rfl) (fun _ _ _ _ h => h)) (pa_cons (pv 1) (pa_cons pe_str pa_nil))) pa_nil))))), ?_⟩
    walk_at "vc"
    rcases h with ⟨a, b, ha, hb, sa, sb, q⟩ | ⟨hb, q⟩ | ⟨a, ha, hb, q⟩
    · refine ⟨v, _, rfl, .inl ⟨a, ha, fun H1 z s1 hz => ?_⟩⟩
      refine ⟨u, _, rfl, .inl ⟨b, hb.same s1, fun H2 y s2 hy => ?_⟩⟩
      exact ⟨z, y, a, b, rfl, hz.same s2, hy, ha.canon, hb.canon, sa.up (by decide), sb.up (by decide), RetP.same (s1.trans s2) q⟩
    · exact ⟨v, _, rfl, .inr ⟨hb, q⟩⟩
    · refine ⟨v, _, rfl, .inl ⟨a, ha, fun H1 z s1 hz => ?_⟩⟩
      exact ⟨u, _, rfl, .inr ⟨hb.same s1, q.same s1⟩⟩
def vSq (p q : P2) : Int × Int := vDot (vSub p q) (vSub p q)
theorem ok_squared (T : Txt K mg A) : FnOk P w K mg base (L2.CX P w) 7 A.f_squared A.d_squared ["one", "other"] (spPts K A.c_BadPoint (rPN K vSq)) := by
  refine T.squared.F.okX sc_squared (fun vs H Q E h => ?_) (fun cdv A' outer s H vs Q E hr h => ?_)
  · obtain ⟨_, _, rfl, _⟩ := h; rfl
  · obtain ⟨v, u, rfl, h⟩ := h
    refine ⟨_, (pss_cons (ps_set (i := 2) sc_squared.nd rfl (.inl rfl) (pe_call (ok_taken T) (hr.mono (by decide)) (by rfl) T.taken.g T.taken.F.kp T.taken.b .nil (passes_call (takes_of rfl rfl rfl rfl) (fun _ _ _ _ h => h)) (pa_cons (pv 0) (pa_cons (pv 1) pa_nil))))
      (pss_one (ps_ret (pe_call (ok_dot_of T) (hr.mono (by decide)) (by rfl) T.dot_of.g T.dot_of.F.kp T.dot_of.b .nil pass0 (pa_cons (pv 2) (pa_cons (pv 2) pa_nil)))))), ?_⟩
    walk_at "vc"
    refine ⟨v, u, rfl, ?_⟩
    rcases h with ⟨a, b, ha, hb, sa, sb, q⟩ | h | h
    · refine .inl ⟨a, b, ha, hb, sa, sb, fun H1 z s1 hz => ?_⟩
      have c := vSub_canon ha.canon hb.canon
      have sm := (vSub_sm ha.canon hb.canon sa sb).up (m := 2000) (by decide)
      exact ⟨z, z, _, _, rfl, hz, hz, c, c, sm, sm, RetP.same s1 q⟩
    · exact .inr (.inl h)
    · exact .inr (.inr h)
def spScaled (K : PySem.W.Frag) (CP CN : Addr) : Sp := fun vs H Q E => ∃ v u, vs = [v, u] ∧ ((∃ p f, Pt K H v p ∧ Num K H u f ∧ SmP 900 p ∧ Sm 900 f ∧ RetPP K H (vMul p f) Q) ∨ (BadP K H v ∧ RaiseP H CP (.str "vector") E) ∨ (∃ p, Pt K H v p ∧ Bad K H u ∧ RaiseP H CN (.str "factor") E))
theorem ok_scaled (T : Txt K mg A) : FnOk P w K mg base (L2.CX P w) 6 A.f_scaled A.d_scaled ["vector", "factor"] (spScaled K A.c_BadPoint A.c_BadNumber) := by
  refine T.scaled.F.okX sc_scaled (fun vs H Q E h => ?_) (fun cdv A' outer s H vs Q E hr h => ?_)
  · obtain ⟨_, _, rfl, _⟩ := h; rfl
  · obtain ⟨v, u, rfl, h⟩ := h
    refine ⟨_, (pss_cons (ps_set (i := 2) sc_scaled.nd rfl (.inl rfl) (pe_call (ok_point_in T) (hr.mono (by decide)) (by rfl) T.point_in.g T.point_in.F.kp T.point_in.b .nil (passes_call (takes_of rfl rfl rfl rfl) (fun _ _ _ _ h => h)) (pa_cons (pv 0) (pa_cons pe_str pa_nil))))
      (pss_one (ps_ret (pe_call (ok_stretched T) (hr.mono (by decide)) (by rfl) T.stretched.g T.stretched.F.kp T.stretched.b .nil pass0 (pa_cons (pv 2) (pa_cons (pe_call (ok_number_in T) (hr.mono (by decide)) (by rfl) T.number_in.g T.number_in.F.kp T.number_in.b .nil (passes_call (takes_of rfl rfl rfl rfl) (fun _ _ _ _ h => h)) (pa_cons (pv 1) (pa_cons pe_str pa_nil))) pa_nil)))))), ?_⟩
    walk_at "vc"
    rcases h with ⟨a, b, ha, hb, sa, sb, q⟩ | ⟨hb, q⟩ | ⟨a, ha, hb, q⟩
    · refine ⟨v, _, rfl, .inl ⟨a, ha, fun H1 z s1 hz => ?_⟩⟩
      refine ⟨u, _, rfl, .inl ⟨b, hb.same s1, fun H2 y s2 hy => ?_⟩⟩
      exact ⟨z, _, a, b, rfl, hz.same s2, ⟨y, rfl, hy⟩, ha.canon, hb.canon, sa.up (by decide), sb.up (by decide), RetPP.same (s1.trans s2) q⟩
    · exact ⟨v, _, rfl, .inr ⟨hb, q⟩⟩
    · refine ⟨v, _, rfl, .inl ⟨a, ha, fun H1 z s1 hz => ?_⟩⟩
      exact ⟨u, _, rfl, .inr ⟨hb.same s1, q.same s1⟩⟩
def spQuarter (K : PySem.W.Frag) (C : Addr) : Sp := fun vs H Q E => ∃ v, vs = [v] ∧ ((∃ p, Pt K H v p ∧ RetPP K H (vTurn p) Q) ∨ (BadP K H v ∧ RaiseP H C (.str "vector") E))
theorem ok_quarter (T : Txt K mg A) : FnOk P w K mg base (L2.CX P w) 6 A.f_quarter A.d_quarter ["vector"] (spQuarter K A.c_BadPoint) := by
  refine T.quarter.F.okX sc_quarter (fun vs H Q E h => ?_) (fun cdv A' outer s H vs Q E hr h => ?_)
  · obtain ⟨_, rfl, _⟩ := h; rfl
  · obtain ⟨v, rfl, h⟩ := h
    refine ⟨_, (pss_one (ps_ret (pe_call (ok_turned T) (hr.mono (by decide)) (by rfl) T.turned.g T.turned.F.kp T.turned.b .nil pass0 (pa_cons (pe_call (ok_point_in T) (hr.mono (by decide)) (by rfl) T.point_in.g T.point_in.F.kp T.point_in.b .nil (passes_call (takes_of rfl rfl rfl rfl) (fun _ _ _ _ h => h)) (pa_cons (pv 0) (pa_cons pe_str pa_nil))) pa_nil)))), ?_⟩
    walk_at "vc"
    rcases h with ⟨a, ha, q⟩ | ⟨hb, q⟩
    · exact ⟨v, _, rfl, .inl ⟨a, ha, fun H1 z s1 hz => ⟨z, a, rfl, hz, RetPP.same s1 q⟩⟩⟩
    · exact ⟨v, _, rfl, .inr ⟨hb, q⟩⟩
def vBetween (p q : P2) (s : Int × Int) : P2 := vAdd p (vMul (vSub q p) s)
def spBetween (K : PySem.W.Frag) (CP CN : Addr) : Sp := fun vs H Q E => ∃ v u f, vs = [v, u, f] ∧ ((∃ p q s, Pt K H v p ∧ Pt K H u q ∧ Num K H f s ∧ SmP 900 p ∧ SmP 900 q ∧ Sm 900 s ∧ RetPP K H (vBetween p q s) Q) ∨ (BadP K H v ∧ RaiseP H CP (.str "one") E) ∨ (∃ p, Pt K H v p ∧ BadP K H u ∧ RaiseP H CP (.str "other") E) ∨ (∃ p q, Pt K H v p ∧ Pt K H u q ∧ SmP 900 p ∧ SmP 900 q ∧ Bad K H f ∧ RaiseP H CN (.str "share") E))
theorem ok_between (T : Txt K mg A) : FnOk P w K mg base (L2.CX P w) 6 A.f_between A.d_between ["one", "other", "share"] (spBetween K A.c_BadPoint A.c_BadNumber) := by
  refine T.between.F.okX sc_between (fun vs H Q E h => ?_) (fun cdv A' outer s H vs Q E hr h => ?_)
  · obtain ⟨_, _, _, rfl, _⟩ := h; rfl
  · obtain ⟨v, u, f, rfl, h⟩ := h
    refine ⟨_, (pss_cons (ps_set (i := 3) sc_between.nd rfl (.inl rfl) (pe_call (ok_point_in T) (hr.mono (by decide)) (by rfl) T.point_in.g T.point_in.F.kp T.point_in.b .nil (passes_call (takes_of rfl rfl rfl rfl) (fun _ _ _ _ h => h)) (pa_cons (pv 0) (pa_cons pe_str pa_nil))))
      (pss_cons (ps_set (i := 4) sc_between.nd rfl (.inl rfl) (pe_call (ok_way_between T) (hr.mono (by decide)) (by rfl) T.way_between.g T.way_between.F.kp T.way_between.b .nil pass0 (pa_cons (pv 3) (pa_cons (pe_call (ok_point_in T) (hr.mono (by decide)) (by rfl) T.point_in.g T.point_in.F.kp T.point_in.b .nil (passes_call (takes_of rfl rfl rfl rfl) (fun _ _ _ _ h => h)) (pa_cons (pv 1) (pa_cons pe_str pa_nil))) pa_nil))))
      (pss_one (ps_ret (pe_call (ok_moved T) (hr.mono (by decide)) (by rfl) T.moved.g T.moved.F.kp T.moved.b .nil pass0 (pa_cons (pv 3) (pa_cons (pv 4) (pa_cons (pe_call (ok_number_in T) (hr.mono (by decide)) (by rfl) T.number_in.g T.number_in.F.kp T.number_in.b .nil (passes_call (takes_of rfl rfl rfl rfl) (fun _ _ _ _ h => h)) (pa_cons (pv 2) (pa_cons pe_str pa_nil))) pa_nil)))))))), ?_⟩
    walk_at "vc"
    rcases h with ⟨a, b, c, ha, hb, hc, sa, sb, sc, q⟩ | ⟨hb, q⟩ | ⟨a, ha, hb, q⟩ | ⟨a, b, ha, hb, sa, sb, hc, q⟩
    · refine ⟨v, _, rfl, .inl ⟨a, ha, fun H1 z s1 hz => ?_⟩⟩
      refine ⟨u, _, rfl, .inl ⟨b, hb.same s1, fun H2 y s2 hy => ?_⟩⟩
      refine ⟨z, y, a, b, rfl, hz.same s2, hy, ha.canon, hb.canon, sa.up (by decide), sb.up (by decide), fun H3 x s3 hx => ?_⟩
      refine ⟨f, _, rfl, .inl ⟨c, hc.same ((s1.trans s2).trans s3), fun H4 r s4 hr4 => ?_⟩⟩
      exact ⟨z, x, _, a, _, c, rfl, hz.same ((s2.trans s3).trans s4), hx.same s4, ⟨r, rfl, hr4⟩, ha.canon, vSub_canon hb.canon ha.canon, hc.canon, sa.up (by decide), (vSub_sm hb.canon ha.canon sb sa).up (by decide), sc.up (by decide), RetPP.same (((s1.trans s2).trans s3).trans s4) q⟩
    · exact ⟨v, _, rfl, .inr ⟨hb, q⟩⟩
    · refine ⟨v, _, rfl, .inl ⟨a, ha, fun H1 z s1 hz => ?_⟩⟩
      exact ⟨u, _, rfl, .inr ⟨hb.same s1, q.same s1⟩⟩
    · refine ⟨v, _, rfl, .inl ⟨a, ha, fun H1 z s1 hz => ?_⟩⟩
      refine ⟨u, _, rfl, .inl ⟨b, hb.same s1, fun H2 y s2 hy => ?_⟩⟩
      refine ⟨z, y, a, b, rfl, hz.same s2, hy, ha.canon, hb.canon, sa.up (by decide), sb.up (by decide), fun H3 x s3 hx => ?_⟩
      exact ⟨f, _, rfl, .inr ⟨hc.same ((s1.trans s2).trans s3), q.same ((s1.trans s2).trans s3)⟩⟩
end
end Odd
namespace Odd
open PySem PySem.Spec PyProof.Rows L2
local macro_rules | `(tactic| walk_at "vc") => `(tactic| simp only [tSeq, tAsg, gName, tCB, tCons, tNil, tVar, tC, tOp, tUn, rI0, rI, rU, tTup, tLst, tIfS, tTest, tB, tRet, tNext, rGcd, L2.start, List.map, List.set, List.replicate, List.cons_append, List.nil_append, List.length_cons, List.length_nil, List.getElem?_cons_succ, List.getElem?_cons_zero, Option.some.injEq, exists_eq_left', exists_eq_left, List.append_nil, List.cons.injEq, V.int.injEq, exists_and_left, and_true, true_and, and_assoc, exists_const, V.bl.injEq, V.ref.injEq, Nat.sub_self, Nat.reduceAdd, Nat.reduceSub, List.replicate_succ, List.replicate_zero, tAnd, tOr, tNot, tAndV, tOrV, tNotV, tIf, tCall, tCallK, tDrop, rEq, rNe, decide_eq_true_eq, Bool.not_eq_true', decide_eq_false_iff_not, Bool.false_eq_true, if_true, if_false, reduceIte, reduceCtorEq, tMkLow, tRaiseLow, rIsB, rNotB, tBreak, tPar, gSub, rSetL, tChain, gTup, gCons, gNil, gSeq, cx_K, cx_Kn, optV, V.str.injEq, Bool.not_true, Bool.not_false, false_and, and_false, or_false, false_or, exists_false, tCallN, tCallS, tPairs])
section
variable {P : Program} {w : World} {K : PySem.W.Frag} {mg : Str → Option Value} {base : Heap} {A : Ads}

/-- the urn: its cells, how many were begun, what is left of a great one; so many draws are left -/
def Urn (H : Hp) (u : Addr) (k : Nat) : Prop := ∃ (c : Addr) (n r : Int) (cells : List Int), H u = some (.lst [.ref c, .int n, .int r]) ∧ H c = some (.lst (cells.map V.int)) ∧ 0 ≤ n ∧ n + k ≤ 1000000 ∧ 0 ≤ r
theorem Urn.mono {H : Hp} {u : Addr} {j k : Nat} (h : Urn H u k) (l : j ≤ k) : Urn H u j := by
  obtain ⟨c, n, r, cells, h1, h2, h3, h4, h5⟩ := h
  exact ⟨c, n, r, cells, h1, h2, h3, by omega, h5⟩
theorem Urn.same {H H' : Hp} {u : Addr} {k : Nat} (h : Urn H u k) (s : Same H H') : Urn H' u k := by
  obtain ⟨c, n, r, cells, h1, h2, h3⟩ := h
  exact ⟨c, n, r, cells, s _ _ h1, s _ _ h2, h3⟩
theorem Urn.at {H : Hp} {u : Addr} {k : Nat} (h : Urn H u k) : ∃ c ys, H u = some (.lst (.ref c :: ys)) := by
  obtain ⟨c, n, r, cells, h1, _⟩ := h
  exact ⟨c, _, h1⟩
def spSpill : Sp := fun vs H Q _ => ∃ (u : Addr) (many : Int) (k : Nat), vs = [.ref u, .int many] ∧ 0 < many ∧ many < 1073741824 ∧ Urn H u (k + 1) ∧ ∀ H' (m : Int), But u H H' → Urn H' u k → 0 ≤ m → m < many → Q (.int m) H'
theorem ok__law_fill (T : Txt K mg A) : FnOk P w K mg base CX0 1 A.f__law_fill A.d__law_fill ["vase", "many"] spSpill := by
  refine T._law_fill.F.ok sc__law_fill (fun vs H Q E h => ?_) (fun cdv A' outer s H vs Q E hr h => ?_)
  · obtain ⟨_, _, _, rfl, _⟩ := h; rfl
  · obtain ⟨u, many, k, rfl, hm, hm2, ⟨c, n, r, cells, h1, h2, h3, h4, h5⟩, q⟩ := h
    refine ⟨_, (pss_cons (ps_if (pt_cmpR op_gt (pe_ix ix_list (pv 0) pe_int (fun _ _ => rfl)) pe_int (nomark _)) (pss_cons (ps_set (i := 2) sc__law_fill.nd rfl (.inl rfl) (pe_callTy call_int1 (by rfl) T.n_int bt_int (pa_cons (pe_ix ix_list (pv 0) pe_int (fun _ _ => rfl)) pa_nil)))
      (pss_cons (ps_asg (pe_op op_fdiv (pv 2) (pv 1)) (pg_sub (pv 0) pe_int set_list))
      (pss_one (ps_ret (pe_op op_mod (pe_callTy call_int1 (by rfl) T.n_int bt_int (pa_cons (pv 2) pa_nil)) (pv 1)))))) pss_nil)
      (pss_cons (ps_set (i := 3) sc__law_fill.nd rfl (.inl rfl) (pe_ix ix_list (pv 0) pe_int (fun _ _ => rfl)))
      (pss_cons (ps_asg (pe_op op_add (pv 3) pe_int) (pg_sub (pv 0) pe_int set_list))
      (pss_cons (ps_set (i := 4) sc__law_fill.nd rfl (.inl rfl) (pe_op op_add (pe_op op_mul pe_int (pv 3)) pe_int))
      (pss_cons (ps_if (pt_cmpR (op_neD hr.units) (pe_ix ix_list (pv 0) pe_int (fun _ _ => rfl)) (pe_lst pa_nil) (nomark _)) (pss_one (ps_set (i := 4) sc__law_fill.nd rfl (.inl rfl) (pe_ix ix_list (pe_ix ix_list (pv 0) pe_int (fun _ _ => rfl)) (pe_op op_mod (pe_callTy call_int1 (by rfl) T.n_int bt_int (pa_cons (pv 3) pa_nil)) (pe_callB call_len_seq (by rfl) T.n_len bt_len (pa_cons (pe_ix ix_list (pv 0) pe_int (fun _ _ => rfl)) pa_nil))) (fun _ _ => rfl)))) pss_nil)
      (pss_cons (ps_if (PW.pt (pw_and (pt_cmpR op_lt (pv 3) (pe_callB call_len_seq (by rfl) T.n_len bt_len (pa_cons (pe_ix ix_list (pv 0) pe_int (fun _ _ => rfl)) pa_nil)) (nomark _)) (pw_and1 (pt_cmpR op_ge (pe_callB call_abs (by rfl) T.n_abs bt_abs (pa_cons (pv 4) pa_nil)) (pe_op op_pow pe_int pe_int) (nomark _))))) (pss_cons (ps_set (i := 2) sc__law_fill.nd rfl (.inl rfl) (pe_op op_add (pe_op op_mul pe_int (pe_op op_sub (pe_callB call_abs (by rfl) T.n_abs bt_abs (pa_cons (pv 4) pa_nil)) (pe_op op_pow pe_int pe_int))) (pe_callTy call_int1 (by rfl) T.n_int bt_int (pa_cons (pe_cmpR op_lt (pv 4) pe_int (nomark _)) pa_nil))))
      (pss_cons (ps_asg (pe_op op_fdiv (pe_callTy call_int1 (by rfl) T.n_int bt_int (pa_cons (pv 2) pa_nil)) (pv 1)) (pg_sub (pv 0) pe_int set_list))
      (pss_one (ps_ret (pe_op op_mod (pe_callTy call_int1 (by rfl) T.n_int bt_int (pa_cons (pv 2) pa_nil)) (pv 1)))))) pss_nil)
      (pss_cons (ps_set (i := 5) sc__law_fill.nd rfl (.inl rfl) (pe_op op_mod (pe_callTy call_int1 (by rfl) T.n_int bt_int (pa_cons (pe_op op_pow (pe_op op_add (pe_op op_add (pe_op op_mod (pe_callTy call_int1 (by rfl) T.n_int bt_int (pa_cons (pv 4) pa_nil)) pe_int) (pe_op op_mul pe_int (pv 3))) pe_int) pe_int) pa_nil)) pe_int))
      (pss_cons (ps_set (i := 5) sc__law_fill.nd rfl (.inl rfl) (pe_op op_mod (pe_callTy call_int1 (by rfl) T.n_int bt_int (pa_cons (pe_op op_pow (pe_op op_add (pe_op op_add (pe_op op_mul (pv 5) (pe_op op_add (pe_op op_mul pe_int (pv 3)) pe_int)) (pe_op op_mul (pe_op op_mul pe_int (pv 3)) (pv 3))) pe_int) pe_int) pa_nil)) pe_int))
      (pss_one (ps_ret (pe_op op_mod (pe_callTy call_int1 (by rfl) T.n_int bt_int (pa_cons (pe_op op_fdiv (pv 5) pe_int) pa_nil)) (pv 1)))))))))))), ?_⟩
    have huc : u ≠ c := ne_of h1 h2 (by cases cells <;> (intro z; cases z))
    refine seq_by fun N hN => ?_
    walk_at "vc"
    refine ixL (sl_of h1) rfl ⟨_, rfl, ?_⟩
    split
    · -- a digit of what is left
      rename_i hr0
      refine ixL (sl_of h1) rfl ?_
      refine .inl ⟨r, rfl, ⟨hm, hm2⟩, ?_⟩
      refine ⟨_, h1, _, rfl, hm, ?_⟩
      refine q _ _ (but_upd h1) ⟨c, n, r / many, cells, upd_same, ?_, h3, by omega, Int.ediv_nonneg h5 (by omega)⟩ (Int.emod_nonneg _ (by omega)) (Int.emod_lt_of_pos _ hm)
      rw [upd_ne huc.symm]
      exact h2
    · -- at = urn[1]; urn[1] = at + 1; cell = ..
      rename_i hr0
      subst hN
      refine seq_by fun N hN => ?_
      walk_at "vc"
      refine ixL (sl_of h1) rfl ?_
      subst hN
      refine seq_by fun N hN => ?_
      walk_at "vc"
      refine ⟨_, h1, _, rfl, ?_⟩
      subst hN
      refine seq_by fun N hN => ?_
      walk_at "vc"
      refine ⟨.inl (by decide), ?_⟩
      subst hN
      refine seq_by fun N hN => ?_
      have b1 : But u H (upd H u (.lst [.ref c, .int (n + 1), .int r])) := but_upd h1
      have rest : ∀ (cell : Int) H2, But u H H2 → H2 u = some (.lst [.ref c, .int (n + 1), .int r]) → H2 c = some (.lst (cells.map V.int)) → N [some (.ref u), some (.int many), none, some (.int n), some (.int cell), none] H2 := by
        intro cell H2 b2 g1 g2
        subst hN
        refine seq_by fun N hN => ?_
        have last : N [some (.ref u), some (.int many), none, some (.int n), some (.int cell), none] H2 := by
          subst hN
          refine seq_by fun N hN => ?_
          walk_at "vc"
          have e1 : 0 ≤ cell % 2147483629 := Int.emod_nonneg _ (by decide)
          have e2 : cell % 2147483629 < 2147483629 := Int.emod_lt_of_pos _ (by decide)
          refine ⟨by decide, .inl (by decide), ⟨by decide, by decide, by omega⟩, by decide, ?_⟩
          generalize hmix : (cell % 2147483629 + 72109 * n + 7121) ^ Int.toNat 5 % 2147483563 = mixed
          have f1 : 0 ≤ mixed := by rw [← hmix]; exact Int.emod_nonneg _ (by decide)
          have f2 : mixed < 2147483563 := by rw [← hmix]; exact Int.emod_lt_of_pos _ (by decide)
          subst hN
          refine seq_by fun N hN => ?_
          walk_at "vc"
          have m1 : mixed * (2 * n + 4517) ≤ 2147483563 * 2004517 := Int.mul_le_mul (by omega) (by omega) (by omega) (by decide)
          have m2 : 0 ≤ mixed * (2 * n + 4517) := Int.mul_nonneg f1 (by omega)
          have m3 : 104161 * n * n ≤ 104161000000 * 1000000 := Int.mul_le_mul (by omega) (by omega) (by omega) (by decide)
          have m4 : 0 ≤ 104161 * n * n := Int.mul_nonneg (by omega) (by omega)
          refine ⟨.inl (by decide), .inl ⟨by omega, by omega⟩, .inl (by decide), .inl ⟨by omega, by omega⟩, ⟨by decide, by decide, by omega⟩, by decide, ?_⟩
          subst hN
          walk_at "vc"
          refine ⟨⟨by decide, by decide⟩, hm, ?_⟩
          exact q _ _ b2 ⟨c, n + 1, r, cells, g1, g2, by omega, by omega, h5⟩ (Int.emod_nonneg _ (by omega)) (Int.emod_lt_of_pos _ hm)
        walk_at "vc"
        refine ixL (sl_of g1) rfl ⟨c, rfl, _, .inl (sl_of g2), ?_⟩
        have p18 : CPow 10 18 := ⟨by decide, by decide, by decide⟩
        split
        · refine ⟨p18, ?_⟩
          generalize (10 : Int) ^ Int.toNat 18 = e
          have hs : 0 ≤ (if cell < 0 then 1 else 0 : Int) := by split <;> decide
          generalize (if cell < 0 then 1 else 0 : Int) = sg at *
          generalize (if cell < 0 then -cell else cell) = ab at *
          split
          · rename_i hc
            refine ⟨p18, .inl (by decide), ⟨hm, hm2⟩, _, g1, _, rfl, hm, ?_⟩
            refine q _ _ (b2.trans (but_upd g1)) ⟨c, n + 1, _, cells, upd_same, ?_, by omega, by omega, Int.ediv_nonneg ?_ (by omega)⟩ (Int.emod_nonneg _ (by omega)) (Int.emod_lt_of_pos _ hm)
            · rw [upd_ne huc.symm]
              exact g2
            · omega
          · exact last
        · exact last
      walk_at "vc"
      have g1 : upd H u (.lst [.ref c, .int (n + 1), .int r]) u = some (.lst [.ref c, .int (n + 1), .int r]) := upd_same
      have g2 : upd H u (.lst [.ref c, .int (n + 1), .int r]) c = some (.lst (cells.map V.int)) := by rw [upd_ne huc.symm]; exact h2
      refine ixL (sl_of g1) rfl ⟨by decide, fun p hp => ?_⟩
      have sp := same_upd (o := .lst []) hp
      have g3 := sp _ _ g1
      have g4 := sp _ _ g2
      refine ⟨_, _, dp_ints (sl_of g4), dp_ints (ns := []) (sl_of upd_same), sh_ints _, sh_ints [], _, rfl, ?_⟩
      split
      · rename_i hne
        have hcells : cells ≠ [] := by
          intro z
          subst z
          exact absurd hne (by decide)
        have hl : 0 < cells.length := List.length_pos_iff.mpr hcells
        refine ixL (sl_of g3) rfl (ixL (sl_of g3) rfl ⟨c, rfl, _, .inl (sl_of g4), ?_⟩)
        rw [List.length_map]
        have a1 : 0 ≤ n % (cells.length : Int) := Int.emod_nonneg _ (by omega)
        have a2 : n % (cells.length : Int) < cells.length := Int.emod_lt_of_pos _ (by omega)
        obtain ⟨j, hj⟩ := Int.eq_ofNat_of_zero_le a1
        have hjl : j < cells.length := by omega
        refine ⟨by omega, ?_⟩
        rw [hj]
        refine ixL (sl_of g4) (v := .int cells[j]) (atI_nat ?_) ?_
        · rw [List.getElem?_map, List.getElem?_eq_getElem hjl]
          rfl
        · exact rest _ _ (b1.trans (same_but sp)) g3 g4
      · exact rest _ _ (b1.trans (same_but sp)) g3 g4

/-! ### Euclid -/
theorem euc_step {a b i : Nat} (hb : b ≠ 0) (h : (i = 0 ∧ b < 2 ^ 190) ∨ (b ≤ a ∧ a * b * 2 ^ i < 2 ^ 381)) : a % b ≤ b ∧ b * (a % b) * 2 ^ (i + 1) < 2 ^ 381 := by
  have hm : a % b < b := Nat.mod_lt _ (by omega)
  refine ⟨by omega, ?_⟩
  rcases h with ⟨rfl, h⟩ | ⟨h1, h2⟩
  · have l : b * (a % b) < 2 ^ 380 := by
      rw [show (2 : Nat) ^ 380 = 2 ^ 190 * 2 ^ 190 from (Nat.pow_add 2 190 190)]
      exact Nat.mul_lt_mul'' h (Nat.lt_trans hm h)
    have : b * (a % b) * 2 ^ (0 + 1) = b * (a % b) * 2 := rfl
    rw [this]
    have e : (2 : Nat) ^ 381 = 2 ^ 380 * 2 := rfl
    rw [e]
    omega
  · have l1 : 2 * (a % b) ≤ a := by
      have e := Nat.div_add_mod a b
      have q : 1 ≤ a / b := (Nat.one_le_div_iff (by omega)).mpr h1
      have : b * 1 ≤ b * (a / b) := Nat.mul_le_mul_left _ q
      omega
    have l2 : b * (a % b) * 2 ≤ a * b := by
      rw [Nat.mul_assoc, Nat.mul_comm (a % b) 2, Nat.mul_comm a b]
      exact Nat.mul_le_mul_left _ l1
    have e : b * (a % b) * 2 ^ (i + 1) = b * (a % b) * 2 * 2 ^ i := by
      rw [Nat.pow_succ, Nat.mul_comm (2 ^ i) 2, ← Nat.mul_assoc]
    rw [e]
    exact Nat.lt_of_le_of_lt (Nat.mul_le_mul_right _ l2) h2
theorem euc_end {a b : Nat} (h : b ≤ a ∧ a * b * 2 ^ 400 < 2 ^ 381) : b = 0 := by
  rcases Nat.eq_zero_or_pos b with z | z
  · exact z
  · exfalso
    have h1 : 1 ≤ a * b := Nat.mul_pos (by omega) z
    have h2 : 1 * 2 ^ 400 ≤ a * b * 2 ^ 400 := Nat.mul_le_mul_right _ h1
    have h3 : (2 : Nat) ^ 381 ≤ 1 * 2 ^ 400 := by decide +kernel
    omega
theorem gcd_step (a b : Nat) : Nat.gcd b (a % b) = Nat.gcd a b := by
  rw [Nat.gcd_comm b (a % b), ← Nat.gcd_rec, Nat.gcd_comm]
theorem abs_nat (a : Int) : (if a < 0 then -a else a) = (a.natAbs : Int) := by split <;> omega
def spUrn (K : PySem.W.Frag) : Sp := fun vs H Q _ => ∃ (a : Addr) (ns : List Int), vs = [.ref a] ∧ SqL K H a (ns.map V.int) ∧ ns.length ≤ 63 ∧ ∀ H' u, Same H H' → Urn H' u 900000 → Q (.ref u) H'
theorem ok__law_vase (T : Txt K mg A) : FnOk P w K mg base CX0 1 A.f__law_vase A.d__law_vase ["script"] (spUrn K) := by
  refine T._law_vase.F.ok sc__law_vase (fun vs H Q E h => ?_) (fun cdv A' outer s H vs Q E hr h => ?_)
  · obtain ⟨_, _, rfl, _⟩ := h; rfl
  · obtain ⟨a, ns, rfl, hS, hl, q⟩ := h
    refine ⟨_, (pss_one (ps_ret (pe_lst (pa_cons (pe_lc (own := [("cell", 1)]) (g := gName 1) (tt := tYes) rfl sc__law_vase.nd (pi_list (pe_slice sl_list (pv 0) po_none (po_some pe_int))) (blkOk_by (N := ["script", "cell"]) (sc := defScope s__law_vase) (by decide +kernel)) (fun _ _ _ _ _ => pg_name (i := 1) sc__law_vase.nd rfl (Or.inl rfl)) (fun _ _ _ _ _ => pts_nil) (fun _ _ _ _ _ => pe_callTy call_int1 (by rfl) T.n_int bt_int (pa_cons (pv 1) pa_nil))) (pa_cons pe_int (pa_cons pe_int pa_nil)))))), ?_⟩
    refine ⟨_, rfl, 60, rfl, a, _, rfl, hS, fun p hp => ?_⟩
    obtain ⟨cs, hcs, hcl⟩ : ∃ cs : List Int, cutV (ns.map V.int) none (some 60) = cs.map V.int ∧ cs.length ≤ 63 := by
      refine ⟨(ns.drop (HT.sIx (ns.map V.int).length 0 none)).take (HT.sIx (ns.map V.int).length (ns.map V.int).length (some 60) - HT.sIx (ns.map V.int).length 0 none), ?_, ?_⟩
      · unfold cutV
        rw [List.map_take, List.map_drop]
      · rw [List.length_take, List.length_drop]
        omega
    have sp := same_upd (o := .lst (cutV (ns.map V.int) none (some 60))) hp
    refine ⟨p, rfl, ⟨_, sl_of upd_same⟩, fun D hD => ?_⟩
    have sD := same_upd (o := .lst []) hD
    have hpD : p ≠ D := ne_of_none (o := .lst (cutV (ns.map V.int) none (some 60))) upd_same hD
    refine lc_list (xs := cutV (ns.map V.int) none (some 60)) (fun i H2 => Same H H2 ∧ H2 p = some (.lst (cutV (ns.map V.int) none (some 60))) ∧ H2 D = some (.lst ((cs.take i).map V.int)) ∧ H D = none) ⟨sp.trans sD, sD _ _ upd_same, upd_same, sp.free hD⟩ (fun i H2 _ h => sl_of h.2.1) ?_ ?_
    · rintro i x H2 hx ⟨s2, e1, e2, e3⟩
      rw [hcs, List.getElem?_map] at hx
      cases ec : cs[i]? with
      | none => rw [ec] at hx; cases hx
      | some z =>
        rw [ec] at hx
        obtain rfl : V.int z = x := Option.some.inj hx
        refine ⟨rfl, ?_⟩
        simp only [tYes, if_true]
        refine ⟨_, rfl, .inl ⟨z, rfl, _, e2, ?_, ?_⟩⟩
        · rw [List.length_map, List.length_take]
          exact small1000 (by omega)
        · refine ⟨fun b o e => ?_, ?_, ?_, e3⟩
          · rw [upd_ne (ne_of_none e e3)]
            exact s2 _ _ e
          · rw [upd_ne hpD]
            exact e1
          · rw [upd_same, List.take_add_one, ec, List.map_append]
            rfl
    · rintro H2 ⟨s2, e1, e2, e3⟩
      refine ⟨(by show 3 ≤ sizeLine; decide), fun u hu => ?_⟩
      have hu2 := same_upd (o := .lst [.ref D, .int 0, .int 0]) hu
      exact q _ u (s2.trans hu2) ⟨D, 0, 0, _, upd_same, hu2 _ _ e2, by omega, by omega, by omega⟩
def spOneOf : Sp := fun vs H Q _ => ∃ (u p : Addr) (xs : List V) (k : Nat), vs = [.ref u, .ref p] ∧ p ≠ u ∧ H p = some (.lst xs) ∧ 0 < xs.length ∧ xs.length < 1073741824 ∧ Urn H u (k + 1) ∧ ∀ H' v, But u H H' → Urn H' u k → v ∈ xs → Q v H'
theorem ok__law_one_of (T : Txt K mg A) : FnOk P w K mg base CX0 2 A.f__law_one_of A.d__law_one_of ["vase", "some"] spOneOf := by
  refine T._law_one_of.F.ok sc__law_one_of (fun vs H Q E h => ?_) (fun cdv A' outer s H vs Q E hr h => ?_)
  · obtain ⟨_, _, _, _, rfl, _⟩ := h; rfl
  · obtain ⟨u, p, xs, k, rfl, hpu, hp, hl, hl2, hu, q⟩ := h
    refine ⟨_, (pss_one (ps_ret (pe_ix ix_list (pv 1) (pe_call (ok__law_fill T) (hr.mono (by decide)) (by rfl) T._law_fill.g T._law_fill.F.kp T._law_fill.b .nil pass0 (pa_cons (pv 0) (pa_cons (pe_callB call_len_seq (by rfl) T.n_len bt_len (pa_cons (pv 1) pa_nil)) pa_nil))) (fun _ _ => rfl)))), ?_⟩
    walk_at "vc"
    refine ⟨xs, .inl (sl_of hp), u, _, k, rfl, by omega, by omega, hu, fun H' m b hu' m0 m1 => ?_⟩
    obtain ⟨j, rfl⟩ := Int.eq_ofNat_of_zero_le m0
    have hj : j < xs.length := by omega
    exact ixL (sl_of (b.1 _ hpu _ hp)) (atI_nat (List.getElem?_eq_getElem hj)) (q _ _ b hu' (List.getElem_mem hj))
def spShared : Sp := fun vs H Q _ => ∃ a b : Int, vs = [.int a, .int b] ∧ b.natAbs < 2 ^ 190 ∧ Q (.int ((Nat.gcd a.natAbs b.natAbs : Nat) : Int)) H
theorem ok__law_shared (T : Txt K mg A) : FnOk P w K mg base CX0 1 A.f__law_shared A.d__law_shared ["one", "other"] spShared := by
  refine T._law_shared.F.ok sc__law_shared (fun vs H Q E h => ?_) (fun cdv A' outer s H vs Q E hr h => ?_)
  · obtain ⟨_, _, rfl, _⟩ := h; rfl
  · obtain ⟨a, b, rfl, hb, q⟩ := h
    refine ⟨_, (pss_cons (ps_par (i := 2) (j := 3) rfl sc__law_shared.nd rfl rfl (by decide) rfl rfl (pa_cons (pe_callB call_abs (by rfl) T.n_abs bt_abs (pa_cons (pv 0) pa_nil)) (pa_cons (pe_callB call_abs (by rfl) T.n_abs bt_abs (pa_cons (pv 1) pa_nil)) pa_nil)) rfl)
      (pss_cons (ps_for PassesOwn.never rfl (pi_range1 rfl T.n_range (pa_cons pe_int pa_nil)) (pg_name (i := 4) sc__law_shared.nd rfl (.inl rfl)) (pss_cons (ps_if (pt_cmpR op_eq (pv 3) pe_int (nomark _)) (pss_one ps_break) pss_nil)
      (pss_one (ps_par (i := 2) (j := 3) rfl sc__law_shared.nd rfl rfl (by decide) rfl rfl (pa_cons (pv 3) (pa_cons (pe_op op_mod (pe_callTy call_int1 (by rfl) T.n_int bt_int (pa_cons (pv 2) pa_nil)) (pv 3)) pa_nil)) rfl))))
      (pss_one (ps_ret (pv 2))))), ?_⟩
    refine seq_by fun N hN => ?_
    walk_at "vc"
    rw [abs_nat, abs_nat]
    subst hN
    refine seq_by fun N hN => ?_
    have fin : ∀ (a' : Nat) (y2 y3 : Option V), a' = Nat.gcd a.natAbs b.natAbs → N [some (.int a), some (.int b), some (.int a'), y2, y3] H := by
      rintro a' y2 y3 rfl
      subst hN
      exact ⟨_, rfl, q⟩
    refine ⟨400, rfl, by decide, by decide, ?_⟩
    refine for_range (n := 400) (fun i σ H' => H' = H ∧ ∃ (x y : Nat) (t : Option V), σ = [some (.int a), some (.int b), some (.int x), some (.int y), t] ∧ Nat.gcd x y = Nat.gcd a.natAbs b.natAbs ∧ ((i = 0 ∧ y < 2 ^ 190) ∨ (y ≤ x ∧ x * y * 2 ^ i < 2 ^ 381))) ?_ ?_ ?_
    · refine ⟨rfl, _, _, none, rfl, rfl, .inl ⟨rfl, hb⟩⟩
    · rintro i σ H' hi ⟨rfl, x, y, t, rfl, hg, hxy⟩
      walk_at "vc"
      refine ⟨rfl, ?_⟩
      split
      · rename_i hy
        have hy : y = 0 := by omega
        subst hy
        exact fin _ _ _ (by rw [← hg, Nat.gcd_zero_right])
      · rename_i hy
        have hy : y ≠ 0 := by omega
        obtain ⟨s1, s2⟩ := euc_step hy hxy
        exact ⟨by omega, y, rfl, x % y, rfl, (gcd_step _ _).trans hg, s1, s2⟩
    · rintro σ H' ⟨rfl, x, y, t, rfl, hg, hxy⟩
      rcases hxy with ⟨z, _⟩ | hxy
      · exact absurd z (by decide)
      · have := euc_end hxy
        subst this
        exact fin _ _ _ (by rw [← hg, Nat.gcd_zero_right])
end
end Odd
namespace Odd
open PySem PySem.Spec PyProof.Rows L2
local macro_rules | `(tactic| walk_at "vc") => `(tactic| simp only [tSeq, tAsg, gName, tCB, tCons, tNil, tVar, tC, tOp, tUn, rI0, rI, rU, tTup, tLst, tIfS, tTest, tB, tRet, tNext, rGcd, L2.start, List.map, List.set, List.replicate, List.cons_append, List.nil_append, List.length_cons, List.length_nil, List.getElem?_cons_succ, List.getElem?_cons_zero, Option.some.injEq, exists_eq_left', exists_eq_left, List.append_nil, List.cons.injEq, V.int.injEq, exists_and_left, and_true, true_and, and_assoc, exists_const, V.bl.injEq, V.ref.injEq, Nat.sub_self, Nat.reduceAdd, Nat.reduceSub, List.replicate_succ, List.replicate_zero, tAnd, tOr, tNot, tAndV, tOrV, tNotV, tIf, tCall, tCallK, tDrop, rEq, rNe, decide_eq_true_eq, Bool.not_eq_true', decide_eq_false_iff_not, Bool.false_eq_true, if_true, if_false, reduceIte, reduceCtorEq, tMkLow, tRaiseLow, rIsB, rNotB, tBreak, tPar, gSub, rSetL, tChain, gTup, gCons, gNil, gSeq, cx_K, cx_Kn, optV, V.str.injEq, Bool.not_true, Bool.not_false, false_and, and_false, or_false, false_or, exists_false, tCallN, tCallS, tPairs])
theorem div_low {t u : Int} (h : 0 < u) : (t / ((Nat.gcd t.natAbs u.natAbs : Nat) : Int), u / ((Nat.gcd t.natAbs u.natAbs : Nat) : Int)) = low t u := by
  unfold low
  rw [if_neg (by omega), Int.fdiv_eq_ediv_of_nonneg _ (by omega), Int.fdiv_eq_ediv_of_nonneg _ (by omega)]
/-- the under of so many bits -/
def Un (n : Nat) (a : Int × Int) : Prop := a.2.natAbs < 2 ^ n
theorem fMul_un {n m : Nat} {a b : Int × Int} (ca : Canon a) (cb : Canon b) (ha : Un n a) (hb : Un m b) : Un (n + m) (fMul a b) :=
  Nat.lt_of_le_of_lt (low_is (t := a.1 * b.1) (Int.mul_ne_zero (canon_ne ca) (canon_ne cb))).2.2 (wide_lt ha hb)
theorem fAdd_un {n m : Nat} {a b : Int × Int} (ca : Canon a) (cb : Canon b) (ha : Un n a) (hb : Un m b) : Un (n + m) (fAdd a b) :=
  Nat.lt_of_le_of_lt (low_is (t := a.1 * b.2 + b.1 * a.2) (Int.mul_ne_zero (canon_ne ca) (canon_ne cb))).2.2 (wide_lt ha hb)
theorem fSub_un {n m : Nat} {a b : Int × Int} (ca : Canon a) (cb : Canon b) (ha : Un n a) (hb : Un m b) : Un (n + m) (fSub a b) :=
  Nat.lt_of_le_of_lt (low_is (t := a.1 * b.2 - b.1 * a.2) (Int.mul_ne_zero (canon_ne ca) (canon_ne cb))).2.2 (wide_lt ha hb)
theorem fSub_neg (a b : Int × Int) : fAdd a (fNeg b) = fSub a b := by
  unfold fAdd fSub fNeg
  rw [Int.neg_mul, ← Int.sub_eq_add_neg]
section
variable {P : Program} {w : World} {K : PySem.W.Frag} {mg : Str → Option Value} {base : Heap} {A : Ads}
def spLow (K : PySem.W.Frag) : Sp := fun vs H Q _ => ∃ t u : Int, vs = [.int t, .int u] ∧ 0 < u ∧ u.natAbs < 2 ^ 190 ∧ RetP K H (low t u) Q
theorem ok__law_low (T : Txt K mg A) : FnOk P w K mg base CX0 2 A.f__law_low A.d__law_low ["top", "under"] (spLow K) := by
  refine T._law_low.F.ok sc__law_low (fun vs H Q E h => ?_) (fun cdv A' outer s H vs Q E hr h => ?_)
  · obtain ⟨_, _, rfl, _⟩ := h; rfl
  · obtain ⟨t, u, rfl, hu, hb, q⟩ := h
    refine ⟨_, (pss_cons (ps_set (i := 2) sc__law_low.nd rfl (.inl rfl) (pe_call (ok__law_shared T) (hr.mono (by decide)) (by rfl) T._law_shared.g T._law_shared.F.kp T._law_shared.b .nil pass0 (pa_cons (pv 0) (pa_cons (pv 1) pa_nil))))
      (pss_one (ps_ret (pe_tup (pa_cons (pe_op op_fdivW (pv 0) (pv 2)) (pa_cons (pe_op op_fdivW (pv 1) (pv 2)) pa_nil)))))), ?_⟩
    walk_at "vc"
    refine ⟨t, u, rfl, hb, ?_⟩
    walk_at "vc"
    have hg : 0 < Nat.gcd t.natAbs u.natAbs := Nat.gcd_pos_of_pos_right _ (by omega)
    have hl : Nat.gcd t.natAbs u.natAbs ≤ u.natAbs := Nat.le_of_dvd (by omega) (Nat.gcd_dvd_right _ _)
    have hd : ∀ i, CDivW i ((Nat.gcd t.natAbs u.natAbs : Nat) : Int) := fun i => wide_div (b := 190) (by omega) (by omega) (by decide) (by decide)
    refine ⟨hd _, hd _, by decide, fun p hp => q _ p (same_upd hp) (st_of ?_)⟩
    rw [upd_same, ← div_low hu]
def spLaw2 (K : PySem.W.Frag) (f : Int × Int → Int × Int → Int × Int) : Sp := fun vs H Q _ => ∃ v u a b, vs = [v, u] ∧ Pr K H v a ∧ Pr K H u b ∧ Canon a ∧ Canon b ∧ Sm 4000 a ∧ Sm 4000 b ∧ Un 95 a ∧ Un 95 b ∧ RetP K H (f a b) Q
theorem un_mul {a b : Int × Int} (ha : Un 95 a) (hb : Un 95 b) : (a.2 * b.2).natAbs < 2 ^ 190 := wide_lt ha hb
theorem pos_mul {a b : Int × Int} (ca : Canon a) (cb : Canon b) : 0 < a.2 * b.2 := Int.mul_pos (by have := ca.1; omega) (by have := cb.1; omega)
theorem ok__law_sum (T : Txt K mg A) : FnOk P w K mg base CX0 3 A.f__law_sum A.d__law_sum ["one", "other"] (spLaw2 K fAdd) := by
  refine T._law_sum.F.ok sc__law_sum (fun vs H Q E h => ?_) (fun cdv A' outer s H vs Q E hr h => ?_)
  · obtain ⟨_, _, _, _, rfl, _⟩ := h; rfl
  · obtain ⟨v, u, a, b, rfl, ⟨p, rfl, hp⟩, ⟨r, rfl, hq⟩, ca, cb, ⟨a1, a2⟩, ⟨b1, b2⟩, ua, ub, q⟩ := h
    refine ⟨_, (pss_one (ps_ret (pe_call (ok__law_low T) (hr.mono (by decide)) (by rfl) T._law_low.g T._law_low.F.kp T._law_low.b .nil pass0 (pa_cons (pe_op op_add (pe_op op_mulW (pe_ix ix_tup (pv 0) pe_int (fun _ _ => rfl)) (pe_ix ix_tup (pv 1) pe_int (fun _ _ => rfl))) (pe_op op_mulW (pe_ix ix_tup (pv 1) pe_int (fun _ _ => rfl)) (pe_ix ix_tup (pv 0) pe_int (fun _ _ => rfl)))) (pa_cons (pe_op op_mulW (pe_ix ix_tup (pv 0) pe_int (fun _ _ => rfl)) (pe_ix ix_tup (pv 1) pe_int (fun _ _ => rfl))) pa_nil))))), ?_⟩
    walk_at "vc"
    refine ixT hp rfl (ixT hq rfl ⟨_, rfl, _, rfl, mul4 a1 b2, ixT hq rfl (ixT hp rfl ⟨_, rfl, _, rfl, mul4 b1 a2, ixT hp rfl (ixT hq rfl ⟨_, rfl, _, rfl, mul4 a2 b2, ?_⟩)⟩)⟩)
    exact ⟨_, _, rfl, pos_mul ca cb, un_mul ua ub, q⟩
theorem ok__law_product (T : Txt K mg A) : FnOk P w K mg base CX0 3 A.f__law_product A.d__law_product ["one", "other"] (spLaw2 K fMul) := by
  refine T._law_product.F.ok sc__law_product (fun vs H Q E h => ?_) (fun cdv A' outer s H vs Q E hr h => ?_)
  · obtain ⟨_, _, _, _, rfl, _⟩ := h; rfl
  · obtain ⟨v, u, a, b, rfl, ⟨p, rfl, hp⟩, ⟨r, rfl, hq⟩, ca, cb, ⟨a1, a2⟩, ⟨b1, b2⟩, ua, ub, q⟩ := h
    refine ⟨_, (pss_one (ps_ret (pe_call (ok__law_low T) (hr.mono (by decide)) (by rfl) T._law_low.g T._law_low.F.kp T._law_low.b .nil pass0 (pa_cons (pe_op op_mulW (pe_ix ix_tup (pv 0) pe_int (fun _ _ => rfl)) (pe_ix ix_tup (pv 1) pe_int (fun _ _ => rfl))) (pa_cons (pe_op op_mulW (pe_ix ix_tup (pv 0) pe_int (fun _ _ => rfl)) (pe_ix ix_tup (pv 1) pe_int (fun _ _ => rfl))) pa_nil))))), ?_⟩
    walk_at "vc"
    refine ixT hp rfl (ixT hq rfl ⟨_, rfl, _, rfl, mul4 a1 b1, ixT hp rfl (ixT hq rfl ⟨_, rfl, _, rfl, mul4 a2 b2, ?_⟩)⟩)
    exact ⟨_, _, rfl, pos_mul ca cb, un_mul ua ub, q⟩
theorem ok__law_less (T : Txt K mg A) : FnOk P w K mg base CX0 4 A.f__law_less A.d__law_less ["one", "other"] (spLaw2 K fSub) := by
  refine T._law_less.F.ok sc__law_less (fun vs H Q E h => ?_) (fun cdv A' outer s H vs Q E hr h => ?_)
  · obtain ⟨_, _, _, _, rfl, _⟩ := h; rfl
  · obtain ⟨v, u, a, b, rfl, hv, ⟨r, rfl, hq⟩, ca, cb, sa, sb, ua, ub, q⟩ := h
    refine ⟨_, (pss_one (ps_ret (pe_call (ok__law_sum T) (hr.mono (by decide)) (by rfl) T._law_sum.g T._law_sum.F.kp T._law_sum.b .nil pass0 (pa_cons (pv 0) (pa_cons (pe_tup (pa_cons (pe_un un_neg (pe_ix ix_tup (pv 1) pe_int (fun _ _ => rfl))) (pa_cons (pe_ix ix_tup (pv 1) pe_int (fun _ _ => rfl)) pa_nil))) pa_nil))))), ?_⟩
    walk_at "vc"
    refine ixT hq rfl ⟨_, rfl, ixT hq rfl ⟨by decide, fun z hz => ?_⟩⟩
    have s1 := same_upd (o := .tup [.int (-b.1), .int b.2]) hz
    refine ⟨v, _, a, fNeg b, rfl, hv.same s1, ⟨z, rfl, st_of upd_same⟩, ca, fNeg_canon cb, sa, ⟨by show (-b.1).natAbs < _; rw [Int.natAbs_neg]; exact sb.1, sb.2⟩, ua, ub, ?_⟩
    rw [fSub_neg]
    exact q.same s1
/-- a drawn number -/
def Dn (q : Int × Int) : Prop := Canon q ∧ q.1.natAbs < 2 ^ 60 ∧ q.2.natAbs < 2 ^ 20
def spDrawn (K : PySem.W.Frag) : Sp := fun vs H Q _ => ∃ (u : Addr) (k : Nat), vs = [.ref u] ∧ Urn H u (k + 8) ∧ ∀ H' v q, But u H H' → Urn H' u k → Pr K H' v q → Dn q → Q v H'
theorem ok__law_drawn (T : Txt K mg A) : FnOk P w K mg base CX0 3 A.f__law_drawn A.d__law_drawn ["vase"] (spDrawn K) := by
  refine T._law_drawn.F.ok sc__law_drawn (fun vs H Q E h => ?_) (fun cdv A' outer s H vs Q E hr h => ?_)
  · obtain ⟨_, _, rfl, _⟩ := h; rfl
  · obtain ⟨u, k, rfl, hu, q⟩ := h
    refine ⟨_, (pss_cons (ps_set (i := 1) sc__law_drawn.nd rfl (.inl rfl) (pe_call (ok__law_one_of T) (hr.mono (by decide)) (by rfl) T._law_one_of.g T._law_one_of.F.kp T._law_one_of.b .nil pass0 (pa_cons (pv 0) (pa_cons (pe_lst (pa_cons (pe_call (ok__law_fill T) (hr.mono (by decide)) (by rfl) T._law_fill.g T._law_fill.F.kp T._law_fill.b .nil pass0 (pa_cons (pv 0) (pa_cons pe_int pa_nil))) (pa_cons (pe_call (ok__law_fill T) (hr.mono (by decide)) (by rfl) T._law_fill.g T._law_fill.F.kp T._law_fill.b .nil pass0 (pa_cons (pv 0) (pa_cons pe_int pa_nil))) (pa_cons (pe_op op_add (pe_op op_mul (pe_call (ok__law_fill T) (hr.mono (by decide)) (by rfl) T._law_fill.g T._law_fill.F.kp T._law_fill.b .nil pass0 (pa_cons (pv 0) (pa_cons (pe_op op_pow pe_int pe_int) pa_nil))) (pe_op op_pow pe_int pe_int)) pe_int) pa_nil)))) pa_nil))))
      (pss_cons (ps_set (i := 2) sc__law_drawn.nd rfl (.inl rfl) (pe_call (ok__law_one_of T) (hr.mono (by decide)) (by rfl) T._law_one_of.g T._law_one_of.F.kp T._law_one_of.b .nil pass0 (pa_cons (pv 0) (pa_cons (pe_lst (pa_cons pe_int (pa_cons pe_int (pa_cons (pe_op op_add pe_int (pe_call (ok__law_fill T) (hr.mono (by decide)) (by rfl) T._law_fill.g T._law_fill.F.kp T._law_fill.b .nil pass0 (pa_cons (pv 0) (pa_cons pe_int pa_nil)))) (pa_cons (pe_op op_add pe_int (pe_call (ok__law_fill T) (hr.mono (by decide)) (by rfl) T._law_fill.g T._law_fill.F.kp T._law_fill.b .nil pass0 (pa_cons (pv 0) (pa_cons (pe_op op_pow pe_int pe_int) pa_nil)))) pa_nil))))) pa_nil))))
      (pss_one (ps_ret (pe_call (ok__law_low T) (hr.mono (by decide)) (by rfl) T._law_low.g T._law_low.F.kp T._law_low.b .nil pass0 (pa_cons (pe_op op_mul (pv 1) (pe_op op_sub pe_int (pe_op op_mul pe_int (pe_call (ok__law_fill T) (hr.mono (by decide)) (by rfl) T._law_fill.g T._law_fill.F.kp T._law_fill.b .nil pass0 (pa_cons (pv 0) (pa_cons pe_int pa_nil)))))) (pa_cons (pv 2) pa_nil))))))), ?_⟩
    have p9 : CPow 10 9 := ⟨by decide, by decide, by decide⟩
    have p6 : CPow 10 6 := ⟨by decide, by decide, by decide⟩
    have e9 : (10 : Int) ^ Int.toNat 9 = 1000000000 := by decide
    have e6 : (10 : Int) ^ Int.toNat 6 = 1000000 := by decide
    refine seq_by fun N hN => ?_
    walk_at "vc"
    rw [e9]
    refine ⟨u, _, k + 7, rfl, by decide, by decide, hu, fun H1 m1 b1 u1 x0 x1 => ?_⟩
    refine ⟨u, _, k + 6, rfl, by decide, by decide, u1, fun H2 m2 b2 u2 y0 y1 => ⟨p9, ?_⟩⟩
    refine ⟨u, _, k + 5, rfl, by decide, by decide, u2, fun H3 m3 b3 u3 z0 z1 => ?_⟩
    walk_at "vc"
    obtain ⟨cu, yu, eu⟩ := u3.at
    refine ⟨p9, .inr (by decide), by decide, fun p hp => ?_⟩
    have sp := same_upd (o := .lst [.int m1, .int m2, .int (m3 * 1000000000 + 1)]) hp
    refine ⟨u, p, _, k + 4, rfl, (ne_of_none eu hp).symm, upd_same, by simp, by simp, u3.same sp, fun H4 v4 b4 u4 hv => ?_⟩
    obtain ⟨t, rfl, t0, t1⟩ : ∃ t : Int, v4 = .int t ∧ 0 ≤ t ∧ t < 2 ^ 60 := by
      simp only [List.mem_cons, List.not_mem_nil, or_false] at hv
      rcases hv with rfl | rfl | rfl
      · exact ⟨_, rfl, by omega, by omega⟩
      · exact ⟨_, rfl, by omega, by omega⟩
      · exact ⟨_, rfl, by omega, by omega⟩
    have b14 := (((b1.trans b2).trans b3).trans (same_but sp)).trans b4
    clear hv sp hp eu u1 u2 u3 b1 b2 b3 b4
    subst hN
    refine seq_by fun N hN => ?_
    walk_at "vc"
    rw [e6]
    refine ⟨u, _, k + 3, rfl, by decide, by decide, u4, fun H5 m4 b5 u5 w0 w1 => ?_⟩
    walk_at "vc"
    refine ⟨p6, u, _, k + 2, rfl, by decide, by decide, u5, fun H6 m5 b6 u6 w2 w3 => ?_⟩
    walk_at "vc"
    obtain ⟨cu, yu, eu⟩ := u6.at
    refine ⟨by decide, fun p hp => ?_⟩
    have sp := same_upd (o := .lst [.int 1, .int 1, .int (1 + m4), .int (1 + m5)]) hp
    refine ⟨u, p, _, k + 1, rfl, (ne_of_none eu hp).symm, upd_same, by simp, by simp, u6.same sp, fun H7 v7 b7 u7 hv => ?_⟩
    obtain ⟨d, rfl, d0, d1⟩ : ∃ d : Int, v7 = .int d ∧ 0 < d ∧ d < 2 ^ 20 := by
      simp only [List.mem_cons, List.not_mem_nil, or_false] at hv
      rcases hv with rfl | rfl | rfl | rfl
      · exact ⟨_, rfl, by omega, by omega⟩
      · exact ⟨_, rfl, by omega, by omega⟩
      · exact ⟨_, rfl, by omega, by omega⟩
      · exact ⟨_, rfl, by omega, by omega⟩
    have b17 := (((b14.trans b5).trans b6).trans (same_but sp)).trans b7
    subst hN
    walk_at "vc"
    refine ⟨u, _, k, rfl, by decide, by decide, u7, fun H8 x b8 u8 x2 x3 => ?_⟩
    walk_at "vc"
    have ht : (t * (1 - 2 * x)).natAbs < 2 ^ 60 := by
      have : x = 0 ∨ x = 1 := by omega
      rcases this with rfl | rfl
      · rw [show (1 - 2 * 0 : Int) = 1 by decide, Int.mul_one]; omega
      · rw [show (1 - 2 * 1 : Int) = -1 by decide, Int.mul_neg_one]; omega
    refine ⟨.inl (by decide), .inr ⟨by omega, by omega⟩, _, d, rfl, d0, by omega, fun H9 r s9 hr9 => ?_⟩
    obtain ⟨l1, l2, l3⟩ := low_is (t := t * (1 - 2 * x)) (u := d) (by omega)
    exact q _ _ _ ((b17.trans b8).trans (same_but s9)) (u8.same s9) ⟨r, rfl, hr9⟩ ⟨l1.1, by omega, by omega⟩
def DnP (p : P2) : Prop := Dn p.1 ∧ Dn p.2
def spSpot (K : PySem.W.Frag) : Sp := fun vs H Q _ => ∃ (u : Addr) (k : Nat), vs = [.ref u] ∧ Urn H u (k + 16) ∧ ∀ H' v p, But u H H' → Urn H' u k → PP K H' v p → DnP p → Q v H'
theorem ok__law_spot (T : Txt K mg A) : FnOk P w K mg base CX0 4 A.f__law_spot A.d__law_spot ["vase"] (spSpot K) := by
  refine T._law_spot.F.ok sc__law_spot (fun vs H Q E h => ?_) (fun cdv A' outer s H vs Q E hr h => ?_)
  · obtain ⟨_, _, rfl, _⟩ := h; rfl
  · obtain ⟨u, k, rfl, hu, q⟩ := h
    refine ⟨_, (pss_one (ps_ret (pe_tup (pa_cons (pe_call (ok__law_drawn T) (hr.mono (by decide)) (by rfl) T._law_drawn.g T._law_drawn.F.kp T._law_drawn.b .nil pass0 (pa_cons (pv 0) pa_nil)) (pa_cons (pe_call (ok__law_drawn T) (hr.mono (by decide)) (by rfl) T._law_drawn.g T._law_drawn.F.kp T._law_drawn.b .nil pass0 (pa_cons (pv 0) pa_nil)) pa_nil))))), ?_⟩
    walk_at "vc"
    refine ⟨u, k + 8, rfl, hu, fun H1 v1 q1 b1 u1 h1 d1 => ?_⟩
    obtain ⟨cu, yu, eu⟩ := u1.at
    refine ⟨u, k, rfl, u1, fun H2 v2 q2 b2 u2 h2 d2 => ⟨by decide, fun r hr => ?_⟩⟩
    exact q _ _ (q1, q2) ((b1.trans b2).trans (same_but (same_upd hr))) (u2.same (same_upd hr)) (pp_new hr (h1.but b2 eu) h2) ⟨d1, d2⟩
end
end Odd
namespace Odd
open PySem PySem.Spec PyProof.Rows L2
local macro_rules | `(tactic| walk_at "vc") => `(tactic| simp only [tSeq, tAsg, gName, tCB, tCons, tNil, tVar, tC, tOp, tUn, rI0, rI, rU, tTup, tLst, tIfS, tTest, tB, tRet, tNext, rGcd, L2.start, List.map, List.set, List.replicate, List.cons_append, List.nil_append, List.length_cons, List.length_nil, List.getElem?_cons_succ, List.getElem?_cons_zero, Option.some.injEq, exists_eq_left', exists_eq_left, List.append_nil, List.cons.injEq, V.int.injEq, exists_and_left, and_true, true_and, and_assoc, exists_const, V.bl.injEq, V.ref.injEq, Nat.sub_self, Nat.reduceAdd, Nat.reduceSub, List.replicate_succ, List.replicate_zero, tAnd, tOr, tNot, tAndV, tOrV, tNotV, tIf, tCall, tCallK, tDrop, rEq, rNe, decide_eq_true_eq, Bool.not_eq_true', decide_eq_false_iff_not, Bool.false_eq_true, if_true, if_false, reduceIte, reduceCtorEq, tMkLow, tRaiseLow, rIsB, rNotB, tBreak, tPar, gSub, rSetL, tChain, gTup, gCons, gNil, gSeq, cx_K, cx_Kn, optV, V.str.injEq, Bool.not_true, Bool.not_false, false_and, and_false, or_false, false_or, exists_false, tCallN, tCallS, tPairs])
/-- what is walked is a list or a tuple -/
def iAny (K : PySem.W.Frag) (tl : TE) : TI := fun σ H R => tl σ H fun x H1 => ∃ a, x = .ref a ∧ (((∃ xs, SqL K H1 a xs) ∧ R (Itl K a) H1) ∨ ((∃ xs, SqT K H1 a xs) ∧ R (Itt K a) H1))
theorem pi_any {X : Cx} {tg l : Expr} {v : Nat} (hl : PE X l (tVar v)) : PI X tg l (iAny X.K (tVar v)) := by
  refine ⟨fun pins s σ H R I h => ?_⟩
  obtain ⟨x, hx, a, rfl, h⟩ := h
  rcases h with ⟨hs, q⟩ | ⟨hs, q⟩
  · exact (pi_list (tg := tg) hl).run pins s σ H R I ⟨_, hx, a, rfl, hs, q⟩
  · exact (pi_tup (tg := tg) hl).run pins s σ H R I ⟨_, hx, a, rfl, hs, q⟩
/-- each value is a point or none, as the truths tell -/
inductive Judg (K : PySem.W.Frag) (H : Hp) : List V → List Bool → Prop
  | nil : Judg K H [] []
  | yes {v : V} {vs : List V} {bs : List Bool} {p : P2} (h : Pt K H v p) (t : Judg K H vs bs) : Judg K H (v :: vs) (true :: bs)
  | no {v : V} {vs : List V} {bs : List Bool} (h : BadP K H v) (t : Judg K H vs bs) : Judg K H (v :: vs) (false :: bs)
theorem Judg.at {K : PySem.W.Frag} {H : Hp} {vs : List V} {bs : List Bool} (j : Judg K H vs bs) : ∀ {i : Nat} {x : V}, vs[i]? = some x → ∃ b, bs[i]? = some b ∧ ((b = true ∧ ∃ p, Pt K H x p) ∨ (b = false ∧ BadP K H x)) := by
  induction j with
  | nil => intro i x h; simp at h
  | @yes v vs bs p h t ih =>
    intro i x e
    cases i with
    | zero =>
      obtain rfl := Option.some.inj e
      exact ⟨true, rfl, .inl ⟨rfl, p, h⟩⟩
    | succ i => exact ih (i := i) e
  | @no v vs bs h t ih =>
    intro i x e
    cases i with
    | zero =>
      obtain rfl := Option.some.inj e
      exact ⟨false, rfl, .inr ⟨rfl, h⟩⟩
    | succ i => exact ih (i := i) e
theorem Judg.len {K : PySem.W.Frag} {H : Hp} : ∀ {vs : List V} {bs : List Bool}, Judg K H vs bs → bs.length = vs.length
  | _, _, .nil => rfl
  | _, _, .yes h t => congrArg Nat.succ t.len
  | _, _, .no h t => congrArg Nat.succ t.len
section
variable {P : Program} {w : World} {K : PySem.W.Frag} {mg : Str → Option Value} {base : Heap} {A : Ads}
def spArePoints (K : PySem.W.Frag) : Sp := fun vs H Q _ => ∃ v lo hi, vs = [v, .int lo, .int hi] ∧
  ((∃ U, TyN K H v U ∧ U ≠ "list" ∧ U ≠ "tuple" ∧ RetV H (.bl false) Q) ∨
   (∃ p xs, v = .ref p ∧ Sq K H p xs ∧ ¬ (lo ≤ xs.length ∧ (xs.length : Int) ≤ hi) ∧ RetV H (.bl false) Q) ∨
   (∃ p xs bs, v = .ref p ∧ Sq K H p xs ∧ (lo ≤ xs.length ∧ (xs.length : Int) ≤ hi) ∧ xs.length ≤ 1000 ∧ Judg K H xs bs ∧ RetV H (.bl (bs.all id)) Q))
theorem ok_are_points (T : Txt K mg A) : FnOk P w K mg base CX0 5 A.f_are_points A.d_are_points ["value", "least", "most"] (spArePoints K) := by
  refine T.are_points.F.ok sc_are_points (fun vs H Q E h => ?_) (fun cdv A' outer s H vs Q E hr h => ?_)
  · obtain ⟨_, _, _, rfl, _⟩ := h; rfl
  · obtain ⟨v, lo, hi, rfl, h⟩ := h
    refine ⟨_, (pss_cons (ps_if (PW.pt (pw_or (pt_not (pt_val (pe_call (ok_is_row T) (hr.mono (by decide)) (by rfl) T.is_row.g T.is_row.F.kp T.is_row.b .nil pass0 (pa_cons (pv 0) pa_nil)))) (pw_or1 (pt_not (pt_val (pe_call (ok_is_within T) (hr.mono (by decide)) (by rfl) T.is_within.g T.is_within.F.kp T.is_within.b .nil pass0 (pa_cons (pe_callB call_len_seq (by rfl) T.n_len bt_len (pa_cons (pv 0) pa_nil)) (pa_cons (pv 1) (pa_cons (pv 2) pa_nil))))))))) (pss_one (ps_ret pe_bl)) pss_nil)
      (pss_one (ps_ret (pe_callB (cr_all rfl) (by rfl) T.n_all bt_all (pa_cons (pe_lc (own := [("item", 3)]) (g := gName 3) (tt := tYes) rfl sc_are_points.nd (pi_any (pv 0)) (blkOk_by (N := ["value", "least", "most", "item"]) (sc := defScope s_are_points) (by decide +kernel)) (fun _ _ _ _ _ => pg_name (i := 3) sc_are_points.nd rfl (Or.inl rfl)) (fun _ _ _ _ _ => pts_nil) (fun _ _ _ _ _ => pe_call (ok_is_point T) (hr.mono (by decide)) (by rfl) T.is_point.g T.is_point.F.kp T.is_point.b .nil pass0 (pa_cons (pv 3) pa_nil))) pa_nil))))), ?_⟩
    refine seq_by fun N hN => ?_
    walk_at "vc"
    rcases h with ⟨U, hU, h1, h2, q⟩ | ⟨p, xs, rfl, hx, hl, q⟩ | ⟨p, xs, bs, rfl, hx, hl, hm, hj, q⟩
    · refine ⟨v, U, rfl, hU, fun H1 s1 => ⟨_, rfl, ?_⟩⟩
      rw [beq_false_of_ne h1, beq_false_of_ne h2]
      exact iteN (q H1 s1)
    · obtain ⟨U, hU, e⟩ := hx.ty
      refine ⟨_, U, rfl, hU, fun H1 s1 => ⟨_, rfl, ?_⟩⟩
      rw [e]
      refine iteF' rfl ⟨p, rfl, xs, hx.same s1, _, some lo, some hi, rfl, .inr ⟨_, rfl, fun H2 s2 => ⟨_, rfl, ?_⟩⟩⟩
      have eb : ((some lo).all (fun l => decide (l ≤ (xs.length : Int))) && (some hi).all (fun m => decide ((xs.length : Int) ≤ m))) = false := by
        rw [Option.all_some, Option.all_some, ← Bool.decide_and]
        exact decide_eq_false hl
      rw [eb]
      exact iteN (q H2 (s1.trans s2))
    · obtain ⟨U, hU, e⟩ := hx.ty
      refine ⟨_, U, rfl, hU, fun H1 s1 => ⟨_, rfl, ?_⟩⟩
      rw [e]
      refine iteF' rfl ⟨p, rfl, xs, hx.same s1, _, some lo, some hi, rfl, .inr ⟨_, rfl, fun H2 s2 => ⟨_, rfl, ?_⟩⟩⟩
      have eb : ((some lo).all (fun l => decide (l ≤ (xs.length : Int))) && (some hi).all (fun m => decide ((xs.length : Int) ≤ m))) = true := by
        rw [Option.all_some, Option.all_some, ← Bool.decide_and]
        exact decide_eq_true hl
      rw [eb]
      refine iteF' rfl ?_
      have s02 := s1.trans s2
      subst hN
      have hlen := hj.len
      -- the truths, one by one
      have key : ∀ D : Addr, H2 D = none → ∀ i x H3, xs[i]? = some x → (Same H2 H3 ∧ H3 D = some (.lst ((bs.take i).map V.bl))) →
          gName 3 x (wipe [some (.ref p), some (.int lo), some (.int hi), none] [3]) H3 fun σ2 H4 => wipe σ2 [3] = wipe [some (.ref p), some (.int lo), some (.int hi), none] [3] ∧ tYes σ2 H4 fun b H5 =>
            if b = true then tCall (spIsPoint K) [] E0 (tCons (tVar 3) tNil) σ2 H5 fun y H6 => ∃ acc, H6 D = some (.lst acc) ∧ acc.length < sizeLine ∧ (fun i H => Same H2 H ∧ H D = some (.lst ((bs.take i).map V.bl))) (i + 1) (upd H6 D (.lst (acc ++ [y]))) else (fun i H => Same H2 H ∧ H D = some (.lst ((bs.take i).map V.bl))) (i + 1) H5 := by
        rintro D hD i x H3 hx ⟨s3, e3⟩
        obtain ⟨b, hb, hbx⟩ := hj.at hx
        refine ⟨rfl, ?_⟩
        simp only [tYes, if_true]
        have st := s02.trans s3
        have fin : ∀ H6, Same H3 H6 → ∃ acc, H6 D = some (.lst acc) ∧ acc.length < sizeLine ∧ Same H2 (upd H6 D (.lst (acc ++ [.bl b]))) ∧ upd H6 D (.lst (acc ++ [.bl b])) D = some (.lst ((bs.take (i + 1)).map V.bl)) := by
          intro H6 s6
          refine ⟨_, s6 _ _ e3, ?_, fun c o ec => ?_, ?_⟩
          · rw [List.length_map, List.length_take]
            exact small1000 (by omega)
          · rw [upd_ne (ne_of_none ec hD)]
            exact s6 _ _ (s3 _ _ ec)
          · rw [upd_same, List.take_add_one, hb, List.map_append]
            rfl
        rcases hbx with ⟨rfl, pt, hp⟩ | ⟨rfl, hp⟩
        · exact ⟨x, rfl, x, rfl, .inl ⟨pt, hp.same st, fun H6 s6 => fin H6 s6⟩⟩
        · exact ⟨x, rfl, x, rfl, .inr ⟨hp.same st, fun H6 s6 => fin H6 s6⟩⟩
      have last : ∀ D H', H2 D = none → (Same H2 H' ∧ H' D = some (.lst ((bs.take xs.length).map V.bl))) → ∃ (a : Addr) (bs' : List Bool), [V.ref D] = [V.ref a] ∧ SqL K H' a (bs'.map V.bl) ∧ Q (.bl (bs'.all id)) H' := by
        rintro D H' hD ⟨s3, e3⟩
        rw [← hlen, List.take_length] at e3
        exact ⟨D, bs, rfl, sl_of e3, q H' (s02.trans s3)⟩
      refine ⟨_, rfl, p, rfl, ?_⟩
      rcases hx.same s02 with hs | hs
      · refine .inl ⟨⟨_, hs⟩, fun D hD => ?_⟩
        exact lc_list (xs := xs) (fun i H3 => Same H2 H3 ∧ H3 D = some (.lst ((bs.take i).map V.bl))) ⟨same_upd hD, upd_same⟩ (fun i H3 _ h => h.1.seq hs) (key D hD) (fun H' h => last D H' hD h)
      · refine .inr ⟨⟨_, hs⟩, fun D hD => ?_⟩
        exact lc_tup (xs := xs) (fun i H3 => Same H2 H3 ∧ H3 D = some (.lst ((bs.take i).map V.bl))) ⟨same_upd hD, upd_same⟩ (fun i H3 _ h => same_tup h.1 hs) (key D hD) (fun H' h => last D H' hD h)
end
end Odd
namespace Odd
open PySem PySem.Spec PyProof.Rows L2
local macro_rules | `(tactic| walk_at "vc") => `(tactic| simp only [tSeq, tAsg, gName, tCB, tCons, tNil, tVar, tC, tOp, tUn, rI0, rI, rU, tTup, tLst, tIfS, tTest, tB, tRet, tNext, rGcd, L2.start, List.map, List.set, List.replicate, List.cons_append, List.nil_append, List.length_cons, List.length_nil, List.getElem?_cons_succ, List.getElem?_cons_zero, Option.some.injEq, exists_eq_left', exists_eq_left, List.append_nil, List.cons.injEq, V.int.injEq, exists_and_left, and_true, true_and, and_assoc, exists_const, V.bl.injEq, V.ref.injEq, Nat.sub_self, Nat.reduceAdd, Nat.reduceSub, List.replicate_succ, List.replicate_zero, tAnd, tOr, tNot, tAndV, tOrV, tNotV, tIf, tCall, tCallK, tDrop, rEq, rNe, decide_eq_true_eq, Bool.not_eq_true', decide_eq_false_iff_not, Bool.false_eq_true, if_true, if_false, reduceIte, reduceCtorEq, tMkLow, tRaiseLow, rIsB, rNotB, tBreak, tPar, gSub, rSetL, tChain, gTup, gCons, gNil, gSeq, cx_K, cx_Kn, optV, V.str.injEq, Bool.not_true, Bool.not_false, false_and, and_false, or_false, false_or, exists_false, tCallN, tCallS, tPairs])
theorem ix_tupK {X : Cx} {K : PySem.W.Frag} (e : X.K = K) : IxR X (rIxT K) := by subst e; exact ix_tup
theorem ix_listK {X : Cx} {K : PySem.W.Frag} (e : X.K = K) : IxR X (rIxL K) := by subst e; exact ix_list
theorem call_list_ofK {X : Cx} {K : PySem.W.Frag} (e : X.K = K) : CallR X (.type "list") (fun xs H Q => ∃ p ys, xs = [.ref p] ∧ (SqL K H p ys ∨ SqT K H p ys) ∧ ∀ l, H l = none → Q (.ref l) (upd H l (.lst ys))) := by subst e; exact call_list_of
abbrev Nums (K : PySem.W.Frag) (H : Hp) : List V → List (Int × Int) → Prop := Paired (Num K H)
theorem Nums.but {K : PySem.W.Frag} {u : Addr} {H H' : Hp} {c : Addr} {ys : List V} (s : But u H H') (hu : H u = some (.lst (.ref c :: ys))) : ∀ {vs : List V} {qs : List (Int × Int)}, Nums K H vs qs → Nums K H' vs qs
  | _, _, .nil => .nil
  | _, _, .cons h t => .cons (h.but s hu) (Nums.but s hu t)
theorem Nums.snoc {K : PySem.W.Frag} {H : Hp} {x : V} {q : Int × Int} (h : Num K H x q) : ∀ {vs : List V} {qs : List (Int × Int)}, Nums K H vs qs → Nums K H (vs ++ [x]) (qs ++ [q])
  | _, _, .nil => .cons h .nil
  | _, _, .cons h' t => .cons h' (Nums.snoc h t)
theorem Nums.same {K : PySem.W.Frag} {H H' : Hp} (s : Same H H') : ∀ {vs : List V} {qs : List (Int × Int)}, Nums K H vs qs → Nums K H' vs qs
  | _, _, .nil => .nil
  | _, _, .cons h t => .cons (h.same s) (Nums.same s t)
theorem Nums.len {K : PySem.W.Frag} {H : Hp} : ∀ {vs : List V} {qs : List (Int × Int)}, Nums K H vs qs → vs.length = qs.length
  | _, _, .nil => rfl
  | _, _, .cons _ t => congrArg (· + 1) (Nums.len t)
theorem Urn.off {H0 H : Hp} {u D : Addr} {o : HO} {j k : Nat} (h0 : Urn H0 u j) (b : But u H0 H) (hD : H0 D = none) (h : Urn H u k) : Urn (upd H D o) u k := by
  obtain ⟨c0, n0, r0, cs0, a1, a2, _⟩ := h0
  obtain ⟨c, n, r, cs, b1, b2, b3⟩ := h
  obtain ⟨ys, e⟩ := b.2 _ _ a1
  rw [b1] at e
  cases e
  exact ⟨_, n, r, cs, by rw [upd_ne (ne_of_none a1 hD)]; exact b1, by rw [upd_ne (ne_of_none a2 hD)]; exact b2, b3⟩
theorem but_app {H : Hp} {D : Addr} {ys zs : List V} (h : H D = some (.lst ys)) : But D H (upd H D (.lst (ys ++ zs))) :=
  ⟨fun b nb o e => by rw [upd_ne nb]; exact e, fun c' y e => by rw [h] at e; cases e; exact ⟨y ++ zs, upd_same⟩⟩
theorem But.off {u D : Addr} {H0 H : Hp} {o : HO} (b : But u H0 H) (hD : H0 D = none) (nDu : D ≠ u) : But u H0 (upd H D o) :=
  ⟨fun c nc o' e => by rw [upd_ne (ne_of_none e hD)]; exact b.1 c nc o' e, fun c ys e => by rw [upd_ne nDu.symm]; exact b.2 c ys e⟩
theorem Num.grow {K : PySem.W.Frag} {D : Addr} {H : Hp} {v : V} {q : Int × Int} {ys zs : List V} (e : H D = some (.lst ys)) (l : ys.length ≠ 2) (h : Num K H v q) : Num K (upd H D (.lst (ys ++ zs))) v q := by
  cases h with
  | int n => exact .int n
  | sq h c => exact .sq (h.but (but_app e) e (by intro z; rw [← z] at l; exact l rfl)) c
theorem Nums.grow {K : PySem.W.Frag} {D : Addr} {H : Hp} {ys zs : List V} (e : H D = some (.lst ys)) (l : ys.length ≠ 2) : ∀ {vs : List V} {qs : List (Int × Int)}, Nums K H vs qs → Nums K (upd H D (.lst (ys ++ zs))) vs qs
  | _, _, .nil => .nil
  | _, _, .cons h t => .cons (h.grow e l) (Nums.grow e l t)
section
variable {P : Program} {w : World} {K : PySem.W.Frag} {mg : Str → Option Value} {base : Heap} {A : Ads}
def spPassed (K : PySem.W.Frag) : Sp := fun vs H Q _ => ∃ (u : Addr) (v : V) (p : P2) (k : Nat), vs = [.ref u, v] ∧ PP K H v p ∧ CanonP p ∧ Urn H u (k + 5) ∧ ∀ H' z, But u H H' → Urn H' u k → Pt K H' z p → (∀ r, z = .ref r → H r = none) → Q z H'
theorem ok__law_passed (T : Txt K mg A) : FnOk P w K mg base CX0 2 A.f__law_passed A.d__law_passed ["vase", "spot"] (spPassed K) := by
  refine T._law_passed.F.ok sc__law_passed (fun vs H Q E h => ?_) (fun cdv A' outer s H vs Q E hr h => ?_)
  · obtain ⟨_, _, _, _, rfl, _⟩ := h; rfl
  · obtain ⟨u, v, ⟨q0, q1⟩, k, rfl, ⟨b, x, y, rfl, hb, hx, hy⟩, hc, hu, q⟩ := h
    refine ⟨_, (pss_cons (ps_setLc (i := 2) (own := [("pair", 3)]) (g := gName 3) (tt := tYes) rfl sc__law_passed.nd rfl rfl (sw_true rfl rfl rfl (by decide +kernel)) (pi_tup (pv 1)) (blkOk_by (N := ["vase", "spot", "parts", "pair"]) (sc := defScope s__law_passed) (by decide +kernel)) (fun _ _ _ _ _ => pg_name (i := 3) sc__law_passed.nd rfl (Or.inl rfl)) (fun _ _ _ _ _ => pts_nil) (fun _ _ _ _ _ => (pe_ifExp (PW.pt (pw_and (pt_cmpR op_eq (pe_ix (ix_tupK (K := K) rfl) (pv 3) pe_int (fun _ _ => rfl)) pe_int (nomark _)) (pw_and1 (pt_cmpR op_eq (pe_call (ok__law_fill T) (hr.mono (by decide)) (by rfl) T._law_fill.g T._law_fill.F.kp T._law_fill.b .nil pass0 (pa_cons (pv 0) (pa_cons pe_int pa_nil))) pe_int (nomark _))))) (pe_ix (ix_tupK (K := K) rfl) (pv 3) pe_int (fun _ _ => rfl)) (pe_ifExp (pt_cmpR op_eq (pe_call (ok__law_fill T) (hr.mono (by decide)) (by rfl) T._law_fill.g T._law_fill.F.kp T._law_fill.b .nil pass0 (pa_cons (pv 0) (pa_cons pe_int pa_nil))) pe_int (nomark _)) (pe_callTy (call_list_ofK (K := K) rfl) (by rfl) T.n_list bt_list (pa_cons (pv 3) pa_nil)) (pv 3)))))
      (pss_one (ps_ret (pe_ifExp (pt_cmpR op_eq (pe_call (ok__law_fill T) (hr.mono (by decide)) (by rfl) T._law_fill.g T._law_fill.F.kp T._law_fill.b .nil pass0 (pa_cons (pv 0) (pa_cons pe_int pa_nil))) pe_int (nomark _)) (pv 2) (pe_tup (pa_cons (pe_ix ix_list (pv 2) pe_int (fun _ _ => rfl)) (pa_cons (pe_ix ix_list (pv 2) pe_int (fun _ _ => rfl)) pa_nil))))))), ?_⟩
    refine seq_by fun N hN => ?_
    obtain ⟨c0, y0, e0⟩ := hu.at
    refine ⟨_, rfl, b, rfl, ⟨_, hb⟩, fun D hD => ?_⟩
    have nDu : D ≠ u := (ne_of_none e0 hD).symm
    have sD := same_upd (o := .lst []) hD
    refine lc_tup (xs := [x, y]) (fun i H3 => But u H H3 ∧ Urn H3 u (k + 1 + 2 * (2 - i)) ∧ ∃ ys, H3 D = some (.lst ys) ∧ Nums K H3 ys ([q0, q1].take i)) ⟨same_but sD, hu.same sD, [], upd_same, .nil⟩ (fun i H3 _ h => h.1.tup e0 hb) ?_ ?_
    · rintro i z H3 hz ⟨b3, u3, ys, e3, n3⟩
      refine ⟨rfl, ?_⟩
      -- the pair of this turn
      obtain ⟨a, d, pz, rfl, hpz, hi, hcz⟩ : ∃ (a d : Int) (pz : Addr), z = .ref pz ∧ SqT K H pz [.int a, .int d] ∧ ([q0, q1][i]? = some (a, d)) ∧ Canon (a, d) := by
        match i, hz with
        | 0, hz =>
          obtain rfl := Option.some.inj hz
          obtain ⟨pz, rfl, h⟩ := hx
          exact ⟨q0.1, q0.2, pz, rfl, h, rfl, hc.1⟩
        | 1, hz =>
          obtain rfl := Option.some.inj hz
          obtain ⟨pz, rfl, h⟩ := hy
          exact ⟨q1.1, q1.2, pz, rfl, h, rfl, hc.2⟩
      have hi2 : i < 2 := by
        rcases Nat.lt_or_ge i 2 with l | l
        · exact l
        · rw [List.getElem?_eq_none (by simpa using l)] at hi
          cases hi
      have fin : ∀ H4 w4, But u H3 H4 → Urn H4 u (k + 1 + 2 * (2 - (i + 1))) → Num K H4 w4 (a, d) → ∃ acc, H4 D = some (.lst acc) ∧ acc.length < sizeLine ∧ But u H (upd H4 D (.lst (acc ++ [w4]))) ∧ Urn (upd H4 D (.lst (acc ++ [w4]))) u (k + 1 + 2 * (2 - (i + 1))) ∧
          ∃ ys, upd H4 D (.lst (acc ++ [w4])) D = some (.lst ys) ∧ Nums K (upd H4 D (.lst (acc ++ [w4]))) ys ([q0, q1].take (i + 1)) := by
        intro H4 w4 b4 u4 n4
        obtain ⟨c3, y3, e3'⟩ := u3.at
        have e4 := b4.1 _ nDu _ e3
        have n34 := n3.but b4 e3'
        have hl : ys.length = i := by rw [n3.len, List.length_take]; simp only [List.length_cons, List.length_nil]; omega
        refine ⟨ys, e4, ?_, (b3.trans b4).off hD nDu, Urn.off hu (b3.trans b4) hD u4, _, upd_same, ?_⟩
        · exact small1000 (by omega)
        · rw [List.take_add_one, hi]
          exact Nums.snoc (n4.grow e4 (by omega)) (n34.grow e4 (by omega))
      have hpz3 : SqT K H3 pz [.int a, .int d] := b3.tup e0 hpz
      simp only [tYes, if_true]
      walk_at "vc"
      obtain ⟨c3, y3, e3'⟩ := u3.at
      have u3' : Urn H3 u (k + 1 + 2 * (2 - (i + 1)) + 1 + 1) := u3.mono (by omega)
      refine ⟨V.ref pz, rfl, ixT hpz3 rfl ⟨rfl, ?_⟩⟩
      split
      · rename_i hd
        obtain rfl : d = 1 := by injection hd
        refine ⟨V.ref u, rfl, u, 2, _, rfl, by decide, by decide, u3', fun H4 m4 b4 u4 w0 w1 => ⟨rfl, ?_⟩⟩
        split
        · refine ⟨V.ref pz, rfl, ixT (b4.tup e3' hpz3) rfl ?_⟩
          exact fin _ _ b4 (u4.mono (by omega)) (.int a)
        · rename_i z4
          refine ⟨V.ref u, rfl, u, 3, _, rfl, by decide, by decide, u4, fun H5 m5 b5 u5 x0 x1 => ⟨rfl, ?_⟩⟩
          split
          · refine ⟨V.ref pz, rfl, pz, rfl, _, .inr ((b4.trans b5).tup e3' hpz3), fun l hl => ?_⟩
            have sl := same_upd (o := .lst [.int a, .int 1]) hl
            exact fin _ _ ((b4.trans b5).trans (same_but sl)) (u5.same sl) (.sq (.inl (sl_of upd_same)) hcz)
          · exact ⟨V.ref pz, rfl, fin _ _ (b4.trans b5) u5 (.sq (.inr ((b4.trans b5).tup e3' hpz3)) hcz)⟩
      · rename_i z4
        refine ⟨V.ref u, rfl, u, 3, _, rfl, by decide, by decide, (u3'.mono (Nat.le_succ _)), fun H5 m5 b5 u5 x0 x1 => ⟨rfl, ?_⟩⟩
        split
        · refine ⟨V.ref pz, rfl, pz, rfl, _, .inr (((But.refl u H3).trans b5).tup e3' hpz3), fun l hl => ?_⟩
          have sl := same_upd (o := .lst [.int a, .int d]) hl
          exact fin _ _ (((But.refl u H3).trans b5).trans (same_but sl)) (u5.same sl) (.sq (.inl (sl_of upd_same)) hcz)
        · exact ⟨V.ref pz, rfl, fin _ _ ((But.refl u H3).trans b5) u5 (.sq (.inr (((But.refl u H3).trans b5).tup e3' hpz3)) hcz)⟩
    · rintro H3 ⟨b3, u3, ys, e3, n3⟩
      obtain ⟨v1, ys, rfl, h1, n3⟩ : ∃ v1 t, ys = v1 :: t ∧ Num K H3 v1 q0 ∧ Nums K H3 t [q1] := by
        cases n3 with
        | cons h t => exact ⟨_, _, rfl, h, t⟩
      obtain ⟨v2, rfl, h2⟩ : ∃ v2, ys = [v2] ∧ Num K H3 v2 q1 := by
        cases n3 with
        | cons h t => cases t with | nil => exact ⟨_, rfl, h⟩
      subst hN
      walk_at "vc"
      obtain ⟨c3, y3, e3'⟩ := u3.at
      refine ⟨u, 2, k, rfl, by decide, by decide, u3.mono (by simp), fun H4 m4 b4 u4 w0 w1 => ⟨rfl, ?_⟩⟩
      have e4 := b4.1 _ nDu _ e3
      split
      · exact q _ _ (b3.trans b4) u4 ⟨D, v1, v2, rfl, .inl (sl_of e4), h1.but b4 e3', h2.but b4 e3'⟩ (fun r z => by cases z; exact hD)
      · refine ixL (sl_of e4) rfl (ixL (sl_of e4) rfl ⟨by decide, fun r hr => ?_⟩)
        have sr := same_upd (o := .tup [v1, v2]) hr
        exact q _ _ ((b3.trans b4).trans (same_but sr)) (u4.same sr) ⟨r, v1, v2, rfl, .inr (st_of upd_same), (h1.but b4 e3').same sr, (h2.but b4 e3').same sr⟩ (fun r' z => by
          cases z
          obtain ⟨c5, y5, e5⟩ := u4.at
          cases e : H r with
          | none => rfl
          | some o =>
            have := (b3.trans b4).1 r (ne_of_none e5 hr).symm o e
            rw [hr] at this
            cases this)
end
end Odd
namespace Odd
open PySem PySem.Spec PyProof.Rows L2
local macro_rules | `(tactic| walk_at "vc") => `(tactic| simp only [tSeq, tAsg, gName, tCB, tCons, tNil, tVar, tC, tOp, tUn, rI0, rI, rU, tTup, tLst, tIfS, tTest, tB, tRet, tNext, rGcd, L2.start, List.map, List.set, List.replicate, List.cons_append, List.nil_append, List.length_cons, List.length_nil, List.getElem?_cons_succ, List.getElem?_cons_zero, Option.some.injEq, exists_eq_left', exists_eq_left, List.append_nil, List.cons.injEq, V.int.injEq, exists_and_left, and_true, true_and, and_assoc, exists_const, V.bl.injEq, V.ref.injEq, Nat.sub_self, Nat.reduceAdd, Nat.reduceSub, List.replicate_succ, List.replicate_zero, tAnd, tOr, tNot, tAndV, tOrV, tNotV, tIf, tCall, tCallK, tDrop, rEq, rNe, decide_eq_true_eq, Bool.not_eq_true', decide_eq_false_iff_not, Bool.false_eq_true, if_true, if_false, reduceIte, reduceCtorEq, tMkLow, tRaiseLow, rIsB, rNotB, tBreak, tPar, gSub, rSetL, tChain, gTup, gCons, gNil, gSeq, cx_K, cx_Kn, optV, V.str.injEq, Bool.not_true, Bool.not_false, false_and, and_false, or_false, false_or, exists_false, tCallN, tCallS, tPairs])
section
variable {P : Program} {w : World} {K : PySem.W.Frag} {mg : Str → Option Value} {base : Heap} {A : Ads}
def spDone (K : PySem.W.Frag) (C : Addr) : Sp := fun vs H Q E => ∃ (way : Int) (v u : V), vs = [.int way, v, u] ∧ (0 ≤ way ∧ way ≤ 5) ∧ ((∃ p q, Pt K H v p ∧ Pt K H u q ∧ SmP 900 p ∧ SmP 900 q ∧ ∀ H' x, Same H H' → Q x H') ∨ (BadP K H v ∧ RaiseP H C (.str "one") E) ∨ (∃ p, Pt K H v p ∧ BadP K H u ∧ RaiseP H C (.str "other") E))
theorem ok__law_done (T : Txt K mg A) : FnOk P w K mg base (L2.CX P w) 8 A.f__law_done A.d__law_done ["way", "one", "other"] (spDone K A.c_BadPoint) := by
  refine T._law_done.F.okX sc__law_done (fun vs H Q E h => ?_) (fun cdv A' outer s H vs Q E hr h => ?_)
  · obtain ⟨_, _, _, rfl, _⟩ := h; rfl
  · obtain ⟨way, v, u, rfl, hw, h⟩ := h
    refine ⟨_, (pss_cons (ps_if (pt_cmpR op_lt (pv 0) pe_int (nomark _)) (pss_one (ps_ret (pe_ifExp (pt_cmpR op_eq (pv 0) pe_int (nomark _)) (pe_call (ok_added T) (hr.mono (by decide)) (by rfl) T.added.g T.added.F.kp T.added.b .nil (passes_call (takes_of rfl rfl rfl rfl) (fun _ _ _ _ h => h)) (pa_cons (pv 1) (pa_cons (pv 2) pa_nil))) (pe_ifExp (pt_cmpR op_eq (pv 0) pe_int (nomark _)) (pe_call (ok_taken T) (hr.mono (by decide)) (by rfl) T.taken.g T.taken.F.kp T.taken.b .nil (passes_call (takes_of rfl rfl rfl rfl) (fun _ _ _ _ h => h)) (pa_cons (pv 1) (pa_cons (pv 2) pa_nil))) (pe_call (ok_cross T) (hr.mono (by decide)) (by rfl) T.cross.g T.cross.F.kp T.cross.b .nil (passes_call (takes_of rfl rfl rfl rfl) (fun _ _ _ _ h => h)) (pa_cons (pv 1) (pa_cons (pv 2) pa_nil))))))) pss_nil)
      (pss_one (ps_ret (pe_ifExp (pt_cmpR op_eq (pv 0) pe_int (nomark _)) (pe_call (ok_dot T) (hr.mono (by decide)) (by rfl) T.dot.g T.dot.F.kp T.dot.b .nil (passes_call (takes_of rfl rfl rfl rfl) (fun _ _ _ _ h => h)) (pa_cons (pv 1) (pa_cons (pv 2) pa_nil))) (pe_ifExp (pt_cmpR op_eq (pv 0) pe_int (nomark _)) (pe_call (ok_squared T) (hr.mono (by decide)) (by rfl) T.squared.g T.squared.F.kp T.squared.b .nil (passes_call (takes_of rfl rfl rfl rfl) (fun _ _ _ _ h => h)) (pa_cons (pv 1) (pa_cons (pv 2) pa_nil))) (pe_call (ok_between T) (hr.mono (by decide)) (by rfl) T.between.g T.between.F.kp T.between.b .nil (passes_call (takes_of rfl rfl rfl rfl) (fun _ _ _ _ h => h)) (pa_cons (pv 1) (pa_cons (pv 2) (pa_cons (pe_tup (pa_cons pe_int (pa_cons pe_int pa_nil))) pa_nil))))))))), ?_⟩
    have pts : ∀ R : P2 → P2 → Hp → VK → Prop, (∀ p q, (∀ H' x, Same H H' → Q x H') → R p q H Q) → spPts K A.c_BadPoint R [v, u] H Q E := by
      intro R hR
      refine ⟨v, u, rfl, ?_⟩
      rcases h with ⟨p, q, h1, h2, h3, h4, r⟩ | h | h
      · exact .inl ⟨p, q, h1, h2, h3, h4, hR p q r⟩
      · exact .inr (.inl h)
      · exact .inr (.inr h)
    have pp : ∀ f, spPts K A.c_BadPoint (rPP K f) [v, u] H Q E := fun f => pts _ fun p q r H' x s _ => r H' x s
    have pn : ∀ f, spPts K A.c_BadPoint (rPN K f) [v, u] H Q E := fun f => pts _ fun p q r H' x s _ => r H' _ s
    refine seq_by fun N hN => ?_
    walk_at "vc"
    have hw' : way = 0 ∨ way = 1 ∨ way = 2 ∨ way = 3 ∨ way = 4 ∨ way = 5 := by omega
    rcases hw' with rfl | rfl | rfl | rfl | rfl | rfl
    · rw [if_pos (by decide)]
      exact ⟨rfl, by rw [if_pos rfl]; exact pp _⟩
    · rw [if_pos (by decide)]
      exact ⟨rfl, by rw [if_neg (by decide)]; exact ⟨rfl, by rw [if_pos rfl]; exact pp _⟩⟩
    · rw [if_pos (by decide)]
      exact ⟨rfl, by rw [if_neg (by decide)]; exact ⟨rfl, by rw [if_neg (by decide)]; exact pn _⟩⟩
    · rw [if_neg (by decide)]
      subst hN
      walk_at "vc"
      exact ⟨rfl, pn _⟩
    · rw [if_neg (by decide)]
      subst hN
      walk_at "vc"
      exact ⟨rfl, by rw [if_neg (by decide)]; exact ⟨rfl, pn _⟩⟩
    · rw [if_neg (by decide)]
      subst hN
      walk_at "vc"
      refine ⟨rfl, ?_⟩
      rw [if_neg (by decide)]
      refine ⟨rfl, ?_⟩
      rw [if_neg (by decide)]
      refine ⟨by decide, fun b hb => ?_⟩
      have sb := same_upd (o := .tup [.int 1, .int 3]) hb
      refine ⟨v, u, .ref b, rfl, ?_⟩
      rcases h with ⟨p, q, h1, h2, h3, h4, r⟩ | ⟨h1, r⟩ | ⟨p, h1, h2, r⟩
      · exact .inl ⟨p, q, (1, 3), h1.same sb, h2.same sb, .sq (.inr (st_of upd_same)) ⟨by decide, by decide⟩, h3, h4, ⟨by decide, by decide⟩, fun H' x s _ => r H' x (sb.trans s)⟩
      · exact .inr (.inl ⟨h1.same sb, r.same sb⟩)
      · exact .inr (.inr (.inl ⟨p, h1.same sb, h2.same sb, r.same sb⟩))
def spPart (K : PySem.W.Frag) : Sp := fun vs H Q _ => ∃ (way : Int) (v u : V), vs = [.int way, v, u] ∧ (0 ≤ way ∧ way ≤ 5) ∧ ((∃ p q, Pt K H v p ∧ Pt K H u q ∧ SmP 900 p ∧ SmP 900 q ∧ RetV H .non Q) ∨ (BadP K H v ∧ RetV H (.str "one") Q) ∨ (∃ p, Pt K H v p ∧ BadP K H u ∧ RetV H (.str "other") Q))
theorem ok__law_part (T : Txt K mg A) : FnOk P w K mg base CX0 9 A.f__law_part A.d__law_part ["way", "one", "other"] (spPart K) := by
  refine T._law_part.F.ok sc__law_part (fun vs H Q E h => ?_) (fun cdv A' outer s H vs Q E hr h => ?_)
  · obtain ⟨_, _, _, rfl, _⟩ := h; rfl
  · obtain ⟨way, v, u, rfl, hw, h⟩ := h
    have hr1 : Room 8 _ := hr
    refine ⟨_, (pss_cons (ps_set (i := 3) sc__law_part.nd rfl (.inl rfl) pe_non)
      (pss_cons (ps_try_as (i := 4) (tb := fun W => tDrop (tCallS (spDone K A.c_BadPoint) (WE W) (tCons (tVar 0) (tCons (tVar 1) (tCons (tVar 2) tNil))))) (ts := fun a cls d => tAsg (tByLow A.c_BadPoint a cls d (tVar 4)) (gName 3)) (Wout := fun _ _ _ _ => False) rfl rfl sc__law_part.nd rfl rfl ⟨rfl, by decide, Or.inl T.low_BadPoint.gC⟩ takes0 (fun W pn xe tk _ => pss_one (ps_expr (by exact (pe_callS (ok__law_done T) hr1 rfl T._law_done.g T._law_done.F.kp T._law_done.b (fun σ => passAt tk σ) (by exact (pa_cons (pv 0) (pa_cons (pv 1) (pa_cons (pv 2) pa_nil)))))))) (fun a oe cls d pn hz hf => pss_one (ps_set (i := 3) sc__law_part.nd rfl (Or.inl rfl) (by exact (pe_byLow T.low_BadPoint hz hf (pv 4))))))
      (pss_one (ps_ret (pv 3))))), ?_⟩
    walk_at "vc"
    have ex : ∀ part, RetV H part Q → RaiseP H A.c_BadPoint part (WE
      (wAs K (Value.ref A.c_BadPoint) 4 (fun a cls d => tAsg (tByLow A.c_BadPoint a cls d (tVar 4)) (gName 3))
        (fun x x_1 x_2 x_3 => False) { nx := tRet (tVar 3) { nx := fun x H' => Q V.non H', rt := Q }, rt := Q })
      [some (V.int way), some v, some u, some V.non, none]) := by
      intro part r H' d s e
      refine ⟨true, T.low_BadPoint.te, fun _ a ha => ?_, fun z => Bool.noConfusion z⟩
      exact ⟨_, rfl, rfl, rfl, d, _, rfl, e, _, rfl, r H' s⟩
    refine ⟨way, v, u, rfl, hw, ?_⟩
    rcases h with ⟨p, q, h1, h2, h3, h4, r⟩ | ⟨h1, r⟩ | ⟨p, h1, h2, r⟩
    · exact .inl ⟨p, q, h1, h2, h3, h4, fun H' x s => r H' s⟩
    · exact .inr (.inl ⟨h1, ex _ r⟩)
    · exact .inr (.inr ⟨p, h1, h2, ex _ r⟩)
end
end Odd
namespace Odd
open PySem PySem.Spec PyProof.Rows L2
local macro_rules | `(tactic| walk_at "vc") => `(tactic| simp only [tSeq, tAsg, gName, tCB, tCons, tNil, tVar, tC, tOp, tUn, rI0, rI, rU, tTup, tLst, tIfS, tTest, tB, tRet, tNext, rGcd, L2.start, List.map, List.set, List.replicate, List.cons_append, List.nil_append, List.length_cons, List.length_nil, List.getElem?_cons_succ, List.getElem?_cons_zero, Option.some.injEq, exists_eq_left', exists_eq_left, List.append_nil, List.cons.injEq, V.int.injEq, exists_and_left, and_true, true_and, and_assoc, exists_const, V.bl.injEq, V.ref.injEq, Nat.sub_self, Nat.reduceAdd, Nat.reduceSub, List.replicate_succ, List.replicate_zero, tAnd, tOr, tNot, tAndV, tOrV, tNotV, tIf, tCall, tCallK, tDrop, rEq, rNe, decide_eq_true_eq, Bool.not_eq_true', decide_eq_false_iff_not, Bool.false_eq_true, if_true, if_false, reduceIte, reduceCtorEq, tMkLow, tRaiseLow, rIsB, rNotB, tBreak, tPar, gSub, rSetL, tChain, gTup, gCons, gNil, gSeq, cx_K, cx_Kn, optV, V.str.injEq, Bool.not_true, Bool.not_false, false_and, and_false, or_false, false_or, exists_false, tCallN, tCallS, tPairs])
section
variable {P : Program} {w : World} {K : PySem.W.Frag} {mg : Str → Option Value} {base : Heap} {A : Ads}
def RetW (H : Hp) (a b : Str) (Q : VK) : Prop := ∀ H' p, Same H H' → H' p = some (.tup [.str a, .str b]) → Q (.ref p) H'
def spOther (K : PySem.W.Frag) : Sp := fun vs H Q _ => ∃ (way : Int) (v u : V), vs = [.int way, v, u] ∧
  ((way = 0 ∧ BadP K H v ∧ RetW H "point" "vector" Q) ∨
  (way = 1 ∧ BadP K H v ∧ RetW H "point" "vector" Q) ∨
  (way = 1 ∧ ∃ p, Pt K H v p ∧ Bad K H u ∧ RetW H "number" "factor" Q) ∨
  (way = 2 ∧ Bad K H v ∧ RetW H "number" "x" Q) ∨
  (way = 2 ∧ ∃ a, Num K H v a ∧ Bad K H u ∧ RetW H "number" "y" Q) ∨
  (way = 3 ∧ BadP K H v ∧ RetW H "point" "other" Q) ∨
  (way = 3 ∧ ∃ p, Pt K H v p ∧ SmP 900 p ∧ Bad K H u ∧ RetW H "number" "share" Q) ∨
  (way = 1 ∧ ∃ p f, Pt K H v p ∧ Num K H u f ∧ SmP 900 p ∧ Sm 900 f ∧ RetV H .non Q))
theorem ok__law_other_part (T : Txt K mg A) : FnOk P w K mg base CX0 9 A.f__law_other_part A.d__law_other_part ["way", "one", "other"] (spOther K) := by
  refine T._law_other_part.F.ok sc__law_other_part (fun vs H Q E h => ?_) (fun cdv A' outer s H vs Q E hr h => ?_)
  · obtain ⟨_, _, _, rfl, _⟩ := h; rfl
  · obtain ⟨way, v, u, rfl, h⟩ := h
    have hr1 : Room 8 _ := hr
    refine ⟨_, (pss_cons (ps_set (i := 3) sc__law_other_part.nd rfl (.inl rfl) pe_non)
      (pss_cons (oddTry (i := 4) (tb := fun W => tSeq (tAsg (tIf (tTest (tOp rEq (tVar 0) (tC (.int 0)))) (tCallS (spQuarter K A.c_BadPoint) (WE W) (tCons (tVar 1) tNil)) (tIf (tTest (tOp rEq (tVar 0) (tC (.int 1)))) (tCallS (spScaled K A.c_BadPoint A.c_BadNumber) (WE W) (tCons (tVar 1) (tCons (tVar 2) tNil))) (tIf (tTest (tOp rEq (tVar 0) (tC (.int 2)))) (tCallS (spPoint K A.c_BadNumber) (WE W) (tCons (tVar 1) (tCons (tVar 2) tNil))) (tCallS (spBetween K A.c_BadPoint A.c_BadNumber) (WE W) (tCons (tTup (tCons (tC (.int 0)) (tCons (tC (.int 0)) tNil))) (tCons (tVar 1) (tCons (tVar 2) tNil))))))) (gName 3)) (tAsg (tC .non) (gName 3))) (Wout := fun _ _ _ _ => False) rfl rfl sc__law_other_part.nd rfl rfl takes0 (fun W pn xe tk _ => by exact (pss_cons (ps_set (i := 3) sc__law_other_part.nd rfl (Or.inl rfl) (by exact (pe_ifExp (pt_cmpR op_eq (pv 0) pe_int (nomark _)) (pe_callS (ok_quarter T) (hr1.mono (by decide)) rfl T.quarter.g T.quarter.F.kp T.quarter.b (fun σ => passAt tk σ) (pa_cons (pv 1) pa_nil)) (pe_ifExp (pt_cmpR op_eq (pv 0) pe_int (nomark _)) (pe_callS (ok_scaled T) (hr1.mono (by decide)) rfl T.scaled.g T.scaled.F.kp T.scaled.b (fun σ => passAt tk σ) (pa_cons (pv 1) (pa_cons (pv 2) pa_nil))) (pe_ifExp (pt_cmpR op_eq (pv 0) pe_int (nomark _)) (pe_callS (ok_point T) (hr1.mono (by decide)) rfl T.point.g T.point.F.kp T.point.b (fun σ => passAt tk σ) (pa_cons (pv 1) (pa_cons (pv 2) pa_nil))) (pe_callS (ok_between T) (hr1.mono (by decide)) rfl T.between.g T.between.F.kp T.between.b (fun σ => passAt tk σ) (pa_cons (pe_tup (pa_cons pe_int (pa_cons pe_int pa_nil))) (pa_cons (pv 1) (pa_cons (pv 2) pa_nil))))))))) (pss_one (ps_set (i := 3) sc__law_other_part.nd rfl (Or.inl rfl) pe_non)))) (by exact OddCls.one (c := .ref A.c_BadPoint) (ts := (fun a cls d => tAsg (tTup (tCons (tC (.str "point")) (tCons (tByLow A.c_BadPoint a cls d (tVar 4)) tNil))) (gName 3))) (by exact ⟨rfl, by decide, Or.inl T.low_BadPoint.gC⟩) (by exact fun a oe cls d pn hz hf => pss_one (ps_set (i := 3) sc__law_other_part.nd rfl (Or.inl rfl) (by exact (pe_tup (pa_cons pe_str (pa_cons (by exact pe_byLow T.low_BadPoint hz hf (pv 4)) pa_nil)))))) (by exact OddCls.one (c := .ref A.c_BadNumber) (ts := (fun a cls d => tAsg (tTup (tCons (tC (.str "number")) (tCons (tByLow A.c_BadNumber a cls d (tVar 4)) tNil))) (gName 3))) (by exact ⟨rfl, by decide, Or.inl T.low_BadNumber.gC⟩) (by exact fun a oe cls d pn hz hf => pss_one (ps_set (i := 3) sc__law_other_part.nd rfl (Or.inl rfl) (by exact (pe_tup (pa_cons pe_str (pa_cons (by exact pe_byLow T.low_BadNumber hz hf (pv 4)) pa_nil)))))) OddCls.nil)))
      (pss_one (ps_ret (pv 3))))), ?_⟩
    walk_at "vc"
    have exP : ∀ (part : Str) H0, Same H H0 → RetW H "point" part Q → RaiseP H0 A.c_BadPoint (.str part) (WE (oddWish K 4 (fun x x_1 x_2 x_3 => False)
            { nx := tRet (tVar 3) { nx := fun x H' => Q V.non H', rt := Q }, rt := Q }
            [(Value.ref A.c_BadPoint, fun a cls d => tAsg (tTup (tCons (tC (V.str "point")) (tCons (tByLow A.c_BadPoint a cls d (tVar 4)) tNil))) (gName 3)),
              (Value.ref A.c_BadNumber, fun a cls d => tAsg (tTup (tCons (tC (V.str "number")) (tCons (tByLow A.c_BadNumber a cls d (tVar 4)) tNil))) (gName 3))])
          [some (V.int way), some v, some u, some V.non, none]) := by
      intro part H0 s0 r H' d s e
      refine ⟨true, T.low_BadPoint.te, fun _ a ha => ?_, fun z => Bool.noConfusion z⟩
      refine ⟨_, rfl, rfl, rfl, d, _, rfl, e, (by show 2 ≤ sizeLine; decide), fun p hp => ⟨_, rfl, r _ p ((s0.trans s).trans (same_upd hp)) upd_same⟩⟩
    have exN : ∀ (part : Str) H0, Same H H0 → RetW H "number" part Q → RaiseP H0 A.c_BadNumber (.str part) (WE (oddWish K 4 (fun x x_1 x_2 x_3 => False)
            { nx := tRet (tVar 3) { nx := fun x H' => Q V.non H', rt := Q }, rt := Q }
            [(Value.ref A.c_BadPoint, fun a cls d => tAsg (tTup (tCons (tC (V.str "point")) (tCons (tByLow A.c_BadPoint a cls d (tVar 4)) tNil))) (gName 3)),
              (Value.ref A.c_BadNumber, fun a cls d => tAsg (tTup (tCons (tC (V.str "number")) (tCons (tByLow A.c_BadNumber a cls d (tVar 4)) tNil))) (gName 3))])
          [some (V.int way), some v, some u, some V.non, none]) := by
      intro part H0 s0 r H' d s e
      refine ⟨false, T.te_NP, fun z => Bool.noConfusion z, fun _ => ⟨true, T.low_BadNumber.te, fun _ a ha => ?_, fun z => Bool.noConfusion z⟩⟩
      refine ⟨_, rfl, rfl, rfl, d, _, rfl, e, (by show 2 ≤ sizeLine; decide), fun p hp => ⟨_, rfl, r _ p ((s0.trans s).trans (same_upd hp)) upd_same⟩⟩
    have s00 : Same H H := fun _ _ e => e
    rcases h with ⟨rfl, h1, r⟩ | ⟨rfl, h1, r⟩ | ⟨rfl, p, h1, h2, r⟩ | ⟨rfl, h1, r⟩ | ⟨rfl, a, h1, h2, r⟩ | ⟨rfl, h1, r⟩ | ⟨rfl, p, h1, h2, h3, r⟩ | ⟨rfl, p, f, h1, h2, h3, h4, r⟩
    · exact ⟨rfl, by rw [if_pos rfl]; exact ⟨v, rfl, .inr ⟨h1, exP _ _ s00 r⟩⟩⟩
    · refine ⟨rfl, ?_⟩
      rw [if_neg (by decide)]
      exact ⟨rfl, by rw [if_pos rfl]; exact ⟨v, u, rfl, .inr (.inl ⟨h1, exP _ _ s00 r⟩)⟩⟩
    · refine ⟨rfl, ?_⟩
      rw [if_neg (by decide)]
      exact ⟨rfl, by rw [if_pos rfl]; exact ⟨v, u, rfl, .inr (.inr ⟨p, h1, h2, exN _ _ s00 r⟩)⟩⟩
    · refine ⟨rfl, ?_⟩
      rw [if_neg (by decide)]
      refine ⟨rfl, ?_⟩
      rw [if_neg (by decide)]
      exact ⟨rfl, by rw [if_pos rfl]; exact ⟨v, u, rfl, .inr (.inl ⟨h1, exN _ _ s00 r⟩)⟩⟩
    · refine ⟨rfl, ?_⟩
      rw [if_neg (by decide)]
      refine ⟨rfl, ?_⟩
      rw [if_neg (by decide)]
      exact ⟨rfl, by rw [if_pos rfl]; exact ⟨v, u, rfl, .inr (.inr ⟨a, h1, h2, exN _ _ s00 r⟩)⟩⟩
    · refine ⟨rfl, ?_⟩
      rw [if_neg (by decide)]
      refine ⟨rfl, ?_⟩
      rw [if_neg (by decide)]
      refine ⟨rfl, ?_⟩
      rw [if_neg (by decide)]
      refine ⟨by decide, fun b hb => ?_⟩
      have sb := same_upd (o := .tup [.int 0, .int 0]) hb
      exact ⟨.ref b, v, u, rfl, .inr (.inr (.inl ⟨((0, 1), (0, 1)), ⟨b, .int 0, .int 0, rfl, .inr (st_of upd_same), .int 0, .int 0⟩, h1.same sb, exP _ _ sb r⟩))⟩
    · refine ⟨rfl, ?_⟩
      rw [if_neg (by decide)]
      refine ⟨rfl, ?_⟩
      rw [if_neg (by decide)]
      refine ⟨rfl, ?_⟩
      rw [if_neg (by decide)]
      refine ⟨by decide, fun b hb => ?_⟩
      have sb := same_upd (o := .tup [.int 0, .int 0]) hb
      exact ⟨.ref b, v, u, rfl, .inr (.inr (.inr ⟨((0, 1), (0, 1)), p, ⟨b, .int 0, .int 0, rfl, .inr (st_of upd_same), .int 0, .int 0⟩, h1.same sb, ⟨⟨by decide, by decide⟩, ⟨by decide, by decide⟩⟩, h2, h3.same sb, exN _ _ sb r⟩))⟩
    · refine ⟨rfl, ?_⟩
      rw [if_neg (by decide)]
      exact ⟨rfl, by rw [if_pos rfl]; exact ⟨v, u, rfl, .inl ⟨p, f, h1, h2, h3, h4, fun H' x s _ => r H' s⟩⟩⟩
end
end Odd
namespace Odd
open PySem PySem.Spec PyProof.Rows L2
local macro_rules | `(tactic| walk_at "vc") => `(tactic| simp only [tSeq, tAsg, gName, tCB, tCons, tNil, tVar, tC, tOp, tUn, rI0, rI, rU, tTup, tLst, tIfS, tTest, tB, tRet, tNext, rGcd, L2.start, List.map, List.set, List.replicate, List.cons_append, List.nil_append, List.length_cons, List.length_nil, List.getElem?_cons_succ, List.getElem?_cons_zero, Option.some.injEq, exists_eq_left', exists_eq_left, List.append_nil, List.cons.injEq, V.int.injEq, exists_and_left, and_true, true_and, and_assoc, exists_const, V.bl.injEq, V.ref.injEq, Nat.sub_self, Nat.reduceAdd, Nat.reduceSub, List.replicate_succ, List.replicate_zero, tAnd, tOr, tNot, tAndV, tOrV, tNotV, tIf, tCall, tCallK, tDrop, rEq, rNe, decide_eq_true_eq, Bool.not_eq_true', decide_eq_false_iff_not, Bool.false_eq_true, if_true, if_false, reduceIte, reduceCtorEq, tMkLow, tRaiseLow, rIsB, rNotB, tBreak, tPar, gSub, rSetL, tChain, gTup, gCons, gNil, gSeq, cx_K, cx_Kn, optV, V.str.injEq, Bool.not_true, Bool.not_false, false_and, and_false, or_false, false_or, exists_false, tCallN, tCallS, tPairs])
section
variable {P : Program} {w : World} {K : PySem.W.Frag} {mg : Str → Option Value} {base : Heap} {A : Ads}
theorem kb_added (T : Txt K mg A) : KBn K A.d_added ["one", "other"] 0 ["one", "other"] (fun _ ws => ws) (fun _ zs => zs) := fun_kb T.added.F fun _ _ _ _ _ _ ws hl => match ws, hl with | [_, _], _ => rfl
theorem kb_taken (T : Txt K mg A) : KBn K A.d_taken ["one", "other"] 0 ["one", "other"] (fun _ ws => ws) (fun _ zs => zs) := fun_kb T.taken.F fun _ _ _ _ _ _ ws hl => match ws, hl with | [_, _], _ => rfl
theorem kb_point (T : Txt K mg A) : KBn K A.d_point ["x", "y"] 0 ["x", "y"] (fun _ ws => ws) (fun _ zs => zs) := fun_kb T.point.F fun _ _ _ _ _ _ ws hl => match ws, hl with | [_, _], _ => rfl
theorem kb_cross (T : Txt K mg A) : KBn K A.d_cross ["one", "other"] 0 ["one", "other"] (fun _ ws => ws) (fun _ zs => zs) := fun_kb T.cross.F fun _ _ _ _ _ _ ws hl => match ws, hl with | [_, _], _ => rfl
theorem kb_dot (T : Txt K mg A) : KBn K A.d_dot ["one", "other"] 0 ["one", "other"] (fun _ ws => ws) (fun _ zs => zs) := fun_kb T.dot.F fun _ _ _ _ _ _ ws hl => match ws, hl with | [_, _], _ => rfl
theorem kb_squared (T : Txt K mg A) : KBn K A.d_squared ["one", "other"] 0 ["one", "other"] (fun _ ws => ws) (fun _ zs => zs) := fun_kb T.squared.F fun _ _ _ _ _ _ ws hl => match ws, hl with | [_, _], _ => rfl
theorem kb_quarter (T : Txt K mg A) : KBn K A.d_quarter ["vector"] 0 ["vector"] (fun _ ws => ws) (fun _ zs => zs) := fun_kb T.quarter.F fun _ _ _ _ _ _ ws hl => match ws, hl with | [_], _ => rfl
theorem kb_scaled (T : Txt K mg A) : KBn K A.d_scaled ["vector", "factor"] 0 ["vector", "factor"] (fun _ ws => ws) (fun _ zs => zs) := fun_kb T.scaled.F fun _ _ _ _ _ _ ws hl => match ws, hl with | [_, _], _ => rfl
theorem kb_between (T : Txt K mg A) : KBn K A.d_between ["one", "other", "share"] 0 ["one", "other", "share"] (fun _ ws => ws) (fun _ zs => zs) := fun_kb T.between.F fun _ _ _ _ _ _ ws hl => match ws, hl with | [_, _, _], _ => rfl
theorem kb_is_point (T : Txt K mg A) : KBn K A.d_is_point ["value"] 0 ["value"] (fun _ ws => ws) (fun _ zs => zs) := fun_kb T.is_point.F fun _ _ _ _ _ _ ws hl => match ws, hl with | [_], _ => rfl
theorem PP.but {K : PySem.W.Frag} {u : Addr} {H H' : Hp} {v : V} {p : P2} {ys : List V} (s : But u H H') (hu : H u = some (.lst ys)) (h : PP K H v p) : PP K H' v p := by
  obtain ⟨a, x, y, e, h, hx, hy⟩ := h
  exact ⟨a, x, y, e, s.tup hu h, hx.but s hu, hy.but s hu⟩
def dPr (q : Int × Int) : PyData := .tuple [.int q.1, .int q.2]
def dPP (p : P2) : PyData := .tuple [dPr p.1, dPr p.2]
theorem dp_pr {H : Hp} {v : V} {q : Int × Int} (h : Pr K H v q) : Dp K H v (dPr q) := by
  obtain ⟨p, rfl, h⟩ := h
  exact .tup h (.cons (.int _) (.cons (.int _) .nil))
theorem dp_pp {H : Hp} {v : V} {p : P2} (h : PP K H v p) : Dp K H v (dPP p) := by
  obtain ⟨a, x, y, rfl, h, hx, hy⟩ := h
  exact .tup h (.cons (dp_pr hx) (.cons (dp_pr hy) .nil))
theorem sh_pp (p : P2) : SeqAt.shaped (dPP p) = true := by
  simp [dPP, dPr, SeqAt.shaped, PyData.canLay0, PyData.canLayAll0, PyData.depth, PyData.depthAll]
theorem eqv_pp (p : P2) : PyData.eqv (dPP p) (dPP p) = true := by
  simp [dPP, dPr, PyData.eqv, PyData.eqvAll]
theorem len_pair (x y : PyData) (n : Nat) (hx : x.shown.length ≤ n) (hy : y.shown.length ≤ n) : (PyData.tuple [x, y]).shown.length ≤ 2 * n + 10 := by
  simp only [PyData.shown, PyData.shownAll]
  have e := join_length_add [x.shown, y.shown] (by simp)
  have e2 : piled [x.shown, y.shown] = x.shown.length + 2 + (y.shown.length + 2) := by simp [piled]
  unfold tupleText
  rw [strLen_append, strLen_append]
  have e1 : ((("(" : String) : Str)).length = 1 := rfl
  have e3 : (((if [x.shown, y.shown].length == 1 then ",)" else ")" : String) : Str)).length ≤ 2 := by split <;> decide
  omega
theorem log_lt {n : Nat} (h : n < 2 ^ 1900) : n.log2 < 1920 := by
  rcases Nat.eq_zero_or_pos n with rfl | z
  · decide
  · exact (Nat.log2_lt (by omega)).mpr (Nat.lt_of_lt_of_le h (Nat.pow_le_pow_right (by decide) (by decide)))
theorem len_int {a : Int} (h : a.natAbs < 2 ^ 1900) : (PyData.int a).shown.length ≤ 1921 := by
  simp only [PyData.shown]
  rw [PySem.ofString_length]
  exact PySem.int_text_length_le (k := 1920) (by decide) (log_lt h)
theorem repr_pr {H : Hp} {v : V} {q : Int × Int} {Q : VK} (h : Pr K H v q) (s : Sm 1900 q) (r : Q (.str (dPr q).shown) H) : rRepr K [v] H Q := by
  have hd := dp_pr h
  obtain ⟨a, rfl, _⟩ := h
  refine ⟨a, dPr q, rfl, hd, by simp [dPr, PyData.showable, PyData.showableAll, log_lt s.1, log_lt s.2], by simp [dPr, PyData.hasDict, PyData.hasDictAll], by simp [dPr, PyData.depth, PyData.depthAll], ?_, r⟩
  exact Nat.le_trans (len_pair _ _ 1921 (len_int s.1) (len_int s.2)) (by decide)
theorem repr_pp {H : Hp} {v : V} {p : P2} {Q : VK} (h : PP K H v p) (s : SmP 1900 p) (r : Q (.str (dPP p).shown) H) : rRepr K [v] H Q := by
  have hd := dp_pp h
  obtain ⟨a, x, y, rfl, _⟩ := h
  refine ⟨a, dPP p, rfl, hd, by simp [dPP, dPr, PyData.showable, PyData.showableAll, log_lt s.1.1, log_lt s.1.2, log_lt s.2.1, log_lt s.2.2], by simp [dPP, dPr, PyData.hasDict, PyData.hasDictAll], by simp [dPP, dPr, PyData.depth, PyData.depthAll], ?_, r⟩
  exact Nat.le_trans (len_pair _ _ 3852 (len_pair _ _ 1921 (len_int s.1.1) (len_int s.1.2)) (len_pair _ _ 1921 (len_int s.2.1) (len_int s.2.2))) (by decide)
theorem Pt.but {K : PySem.W.Frag} {u : Addr} {H H' : Hp} {v : V} {p : P2} {k : Nat} (s : But u H H') (hu : Urn H u k) (h : Pt K H v p) : Pt K H' v p := by
  obtain ⟨c, n, r, cells, e, _⟩ := hu
  obtain ⟨a, x, y, e', h, hx, hy⟩ := h
  exact ⟨a, x, y, e', h.but s e (by intro z; injection z with _ z; injection z with _ z; cases z), hx.but s e, hy.but s e⟩
theorem dn_sm {q : Int × Int} (h : Dn q) : Sm 60 q := ⟨h.2.1, Nat.lt_of_lt_of_le h.2.2 (Nat.pow_le_pow_right (by decide) (by decide))⟩
theorem dn_un {q : Int × Int} (h : Dn q) : Un 20 q := h.2.2
theorem Un.up {n m : Nat} {q : Int × Int} (h : n ≤ m) (s : Un n q) : Un m q := Nat.lt_of_lt_of_le s (Nat.pow_le_pow_right (by decide) h)
def Good (n m : Nat) (q : Int × Int) : Prop := Canon q ∧ Sm n q ∧ Un m q
theorem Good.up {n m n' m' : Nat} {q : Int × Int} (g : Good n m q) (h : n ≤ n') (h' : m ≤ m') : Good n' m' q := ⟨g.1, g.2.1.up h, g.2.2.up h'⟩
theorem good_dn {q : Int × Int} (h : Dn q) : Good 60 20 q := ⟨h.1, dn_sm h, dn_un h⟩
theorem good_mul {n m m' : Nat} {a b : Int × Int} (ga : Good n m a) (gb : Good n m' b) : Good (n + n) (m + m') (fMul a b) := ⟨fMul_canon ga.1 gb.1, fMul_sm ga.1 gb.1 ga.2.1 gb.2.1, fMul_un ga.1 gb.1 ga.2.2 gb.2.2⟩
theorem good_sub {n m m' : Nat} {a b : Int × Int} (ga : Good n m a) (gb : Good n m' b) : Good (n + n + 1) (m + m') (fSub a b) := ⟨fSub_canon ga.1 gb.1, fSub_sm ga.1 gb.1 ga.2.1 gb.2.1, fSub_un ga.1 gb.1 ga.2.2 gb.2.2⟩
theorem good_add {n m m' : Nat} {a b : Int × Int} (ga : Good n m a) (gb : Good n m' b) : Good (n + n + 1) (m + m') (fAdd a b) := ⟨fAdd_canon ga.1 gb.1, fAdd_sm ga.1 gb.1 ga.2.1 gb.2.1, fAdd_un ga.1 gb.1 ga.2.2 gb.2.2⟩
theorem fSub_flip {a b : Int × Int} (ca : Canon a) (cb : Canon b) : fSub a b = fNeg (fSub b a) := by
  have h0 : a.2 * b.2 ≠ 0 := Int.mul_ne_zero (canon_ne ca) (canon_ne cb)
  have h1 : b.2 * a.2 ≠ 0 := Int.mul_ne_zero (canon_ne cb) (canon_ne ca)
  have i1 : IsLow (a.1 * b.2 - b.1 * a.2) (a.2 * b.2) (fSub a b) := (low_is h0).1
  have i2 : IsLow (b.1 * a.2 - a.1 * b.2) (b.2 * a.2) (fSub b a) := (low_is h1).1
  refine IsLow.uniq h0 i1 ⟨fNeg_canon i2.1, ?_⟩
  have e := i2.2
  show -(fSub b a).1 * (a.2 * b.2) = (a.1 * b.2 - b.1 * a.2) * (fSub b a).2
  rw [Int.mul_comm a.2 b.2, Int.neg_mul, e, ← Int.neg_mul, Int.neg_sub]
theorem fMul_neg2 (a : Int × Int) : fMul (fNeg a) (fNeg a) = fMul a a := by
  unfold fMul fNeg
  rw [Int.neg_mul_neg]
theorem vSq_flip {p q : P2} (cp : CanonP p) (cq : CanonP q) : vSq p q = fAdd (fMul (fSub q.1 p.1) (fSub q.1 p.1)) (fMul (fSub q.2 p.2) (fSub q.2 p.2)) := by
  show fAdd (fMul (fSub p.1 q.1) (fSub p.1 q.1)) (fMul (fSub p.2 q.2) (fSub p.2 q.2)) = _
  rw [fSub_flip cp.1 cq.1, fSub_flip cp.2 cq.2, fMul_neg2, fMul_neg2]
theorem law2 {f : Int × Int → Int × Int → Int × Int} {H : Hp} {v u : V} {a b : Int × Int} {Q : VK} {E : XK} (hv : Pr K H v a) (hu : Pr K H u b) (ga : Good 4000 95 a) (gb : Good 4000 95 b) (r : ∀ H' x, Same H H' → Pr K H' x (f a b) → Q x H') : spLaw2 K f [v, u] H Q E :=
  ⟨v, u, a, b, rfl, hv, hu, ga.1, gb.1, ga.2.1, gb.2.1, ga.2.2, gb.2.2, fun H' p s h => r H' _ s ⟨p, rfl, h⟩⟩
theorem ne_pp {H : Hp} {x y : V} {p : P2} {Q : VK} (hx : PP K H x p) (hy : PP K H y p) (q : Q (.bl false) H) : rNeD K x y H Q := ⟨dPP p, dPP p, dp_pp hx, dp_pp hy, sh_pp p, sh_pp p, by rw [eqv_pp]; exact q⟩
theorem iteB {p q : Prop} (h : q) : if false = true then p else q := by rw [if_neg (by decide)]; exact h
def spSums : Sp := fun vs H Q _ => ∃ (u : Addr) (k : Nat), vs = [.ref u] ∧ Urn H u (k + 60) ∧ ∀ H', But u H H' → Urn H' u k → Q (.bl true) H'
theorem ok__law_sums_right (T : Txt K mg A) : GOk P w K mg base CX0 8 A.f__law_sums_right A.d__law_sums_right ["vase"] spSums := by
  refine gok T._law_sums_right.F sc__law_sums_right (fun vs H Q E h => ?_) (fun cdv A' outer s H vs Q E hg hr h => ?_)
  · obtain ⟨_, _, rfl, _⟩ := h; rfl
  · obtain ⟨u, k, rfl, hu, q⟩ := h
    refine ⟨_, (pss_cons (ps_asg (pe_tup (pa_cons (pe_call (ok__law_spot T) (hr.mono (by decide)) (by rfl) T._law_spot.g T._law_spot.F.kp T._law_spot.b .nil pass0 (pa_cons (pv 0) pa_nil)) (pa_cons (pe_call (ok__law_spot T) (hr.mono (by decide)) (by rfl) T._law_spot.g T._law_spot.F.kp T._law_spot.b .nil pass0 (pa_cons (pv 0) pa_nil)) (pa_cons (pe_call (ok__law_drawn T) (hr.mono (by decide)) (by rfl) T._law_drawn.g T._law_drawn.F.kp T._law_drawn.b .nil pass0 (pa_cons (pv 0) pa_nil)) pa_nil)))) (pg_tup rfl (pgs_cons (pg_tup rfl (pgs_cons (pg_name (i := 1) sc__law_sums_right.nd rfl (.inl rfl)) (pgs_cons (pg_name (i := 2) sc__law_sums_right.nd rfl (.inl rfl)) pgs_nil))) (pgs_cons (pg_tup rfl (pgs_cons (pg_name (i := 3) sc__law_sums_right.nd rfl (.inl rfl)) (pgs_cons (pg_name (i := 4) sc__law_sums_right.nd rfl (.inl rfl)) pgs_nil))) (pgs_cons (pg_name (i := 5) sc__law_sums_right.nd rfl (.inl rfl)) pgs_nil)))))
      (pss_cons (ps_if (pt_cmpR op_eq (pe_call (ok__law_fill T) (hr.mono (by decide)) (by rfl) T._law_fill.g T._law_fill.F.kp T._law_fill.b .nil pass0 (pa_cons (pv 0) (pa_cons pe_int pa_nil))) pe_int (nomark _)) (pss_one (ps_par (i := 3) (j := 4) rfl sc__law_sums_right.nd rfl rfl (by decide) rfl rfl (pa_cons (pv 1) (pa_cons (pv 2) pa_nil)) rfl)) pss_nil)
      (pss_cons (ps_par (i := 6) (j := 7) rfl sc__law_sums_right.nd rfl rfl (by decide) rfl rfl (pa_cons (pe_call (ok__law_passed T) (hr.mono (by decide)) (by rfl) T._law_passed.g T._law_passed.F.kp T._law_passed.b .nil pass0 (pa_cons (pv 0) (pa_cons (pe_tup (pa_cons (pv 1) (pa_cons (pv 2) pa_nil))) pa_nil))) (pa_cons (pe_call (ok__law_passed T) (hr.mono (by decide)) (by rfl) T._law_passed.g T._law_passed.F.kp T._law_passed.b .nil pass0 (pa_cons (pv 0) (pa_cons (pe_tup (pa_cons (pv 3) (pa_cons (pv 4) pa_nil))) pa_nil))) pa_nil)) rfl)
      (pss_cons (ps_par (i := 8) (j := 9) rfl sc__law_sums_right.nd rfl rfl (by decide) rfl rfl (pa_cons (pe_call (ok__law_less T) (hr.mono (by decide)) (by rfl) T._law_less.g T._law_less.F.kp T._law_less.b .nil pass0 (pa_cons (pv 3) (pa_cons (pv 1) pa_nil))) (pa_cons (pe_call (ok__law_less T) (hr.mono (by decide)) (by rfl) T._law_less.g T._law_less.F.kp T._law_less.b .nil pass0 (pa_cons (pv 4) (pa_cons (pv 2) pa_nil))) pa_nil)) rfl)
      (pss_cons (ps_if (PW.pt (pw_or (pt_cmpR (op_neD hr.units) (pe_callN0 (ok_added T) (hr.mono (by decide)) (by rfl) T.added.g T.added.F.kp (kb_added T) passL (pk_cons (pv 6) (pk_cons (pv 7) pk_nil))) (pe_tup (pa_cons (pe_call (ok__law_sum T) (hr.mono (by decide)) (by rfl) T._law_sum.g T._law_sum.F.kp T._law_sum.b .nil pass0 (pa_cons (pv 1) (pa_cons (pv 3) pa_nil))) (pa_cons (pe_call (ok__law_sum T) (hr.mono (by decide)) (by rfl) T._law_sum.g T._law_sum.F.kp T._law_sum.b .nil pass0 (pa_cons (pv 2) (pa_cons (pv 4) pa_nil))) pa_nil))) (nomark _)) (pw_or (pt_cmpR (op_neD hr.units) (pe_callN0 (ok_taken T) (hr.mono (by decide)) (by rfl) T.taken.g T.taken.F.kp (kb_taken T) passL (pk_cons (pv 7) (pk_cons (pv 6) pk_nil))) (pe_tup (pa_cons (pv 8) (pa_cons (pv 9) pa_nil))) (nomark _)) (pw_or1 (pt_cmpR (op_neD hr.units) (pe_callN0 (ok_point T) (hr.mono (by decide)) (by rfl) T.point.g T.point.F.kp (kb_point T) passL (pk_cons (pe_ix ix_any (pv 6) pe_int (fun _ _ => rfl)) (pk_cons (pe_ix ix_any (pv 6) pe_int (fun _ _ => rfl)) pk_nil))) (pe_tup (pa_cons (pv 1) (pa_cons (pv 2) pa_nil))) (nomark _)))))) (pss_one (ps_ret pe_bl)) pss_nil)
      (pss_cons (ps_if (PW.pt (pw_or (pt_cmpR op_ne (pe_callB (call_reprD hg hr.units) (by rfl) T.n_repr bt_repr (pa_cons (pe_callN0 (ok_cross T) (hr.mono (by decide)) (by rfl) T.cross.g T.cross.F.kp (kb_cross T) passL (pk_cons (pv 6) (pk_cons (pv 7) pk_nil))) pa_nil)) (pe_callB (call_reprD hg hr.units) (by rfl) T.n_repr bt_repr (pa_cons (pe_call (ok__law_less T) (hr.mono (by decide)) (by rfl) T._law_less.g T._law_less.F.kp T._law_less.b .nil pass0 (pa_cons (pe_call (ok__law_product T) (hr.mono (by decide)) (by rfl) T._law_product.g T._law_product.F.kp T._law_product.b .nil pass0 (pa_cons (pv 1) (pa_cons (pv 4) pa_nil))) (pa_cons (pe_call (ok__law_product T) (hr.mono (by decide)) (by rfl) T._law_product.g T._law_product.F.kp T._law_product.b .nil pass0 (pa_cons (pv 2) (pa_cons (pv 3) pa_nil))) pa_nil))) pa_nil)) (nomark _)) (pw_or1 (pt_cmpR op_ne (pe_callB (call_reprD hg hr.units) (by rfl) T.n_repr bt_repr (pa_cons (pe_callN0 (ok_dot T) (hr.mono (by decide)) (by rfl) T.dot.g T.dot.F.kp (kb_dot T) passL (pk_cons (pv 6) (pk_cons (pv 7) pk_nil))) pa_nil)) (pe_callB (call_reprD hg hr.units) (by rfl) T.n_repr bt_repr (pa_cons (pe_call (ok__law_sum T) (hr.mono (by decide)) (by rfl) T._law_sum.g T._law_sum.F.kp T._law_sum.b .nil pass0 (pa_cons (pe_call (ok__law_product T) (hr.mono (by decide)) (by rfl) T._law_product.g T._law_product.F.kp T._law_product.b .nil pass0 (pa_cons (pv 1) (pa_cons (pv 3) pa_nil))) (pa_cons (pe_call (ok__law_product T) (hr.mono (by decide)) (by rfl) T._law_product.g T._law_product.F.kp T._law_product.b .nil pass0 (pa_cons (pv 2) (pa_cons (pv 4) pa_nil))) pa_nil))) pa_nil)) (nomark _))))) (pss_one (ps_ret pe_bl)) pss_nil)
      (pss_cons (ps_if (PW.pt (pw_or (pt_cmpR op_ne (pe_callB (call_reprD hg hr.units) (by rfl) T.n_repr bt_repr (pa_cons (pe_callN0 (ok_squared T) (hr.mono (by decide)) (by rfl) T.squared.g T.squared.F.kp (kb_squared T) passL (pk_cons (pv 6) (pk_cons (pv 7) pk_nil))) pa_nil)) (pe_callB (call_reprD hg hr.units) (by rfl) T.n_repr bt_repr (pa_cons (pe_call (ok__law_sum T) (hr.mono (by decide)) (by rfl) T._law_sum.g T._law_sum.F.kp T._law_sum.b .nil pass0 (pa_cons (pe_call (ok__law_product T) (hr.mono (by decide)) (by rfl) T._law_product.g T._law_product.F.kp T._law_product.b .nil pass0 (pa_cons (pv 8) (pa_cons (pv 8) pa_nil))) (pa_cons (pe_call (ok__law_product T) (hr.mono (by decide)) (by rfl) T._law_product.g T._law_product.F.kp T._law_product.b .nil pass0 (pa_cons (pv 9) (pa_cons (pv 9) pa_nil))) pa_nil))) pa_nil)) (nomark _)) (pw_or1 (pt_cmpR op_ne (pe_callB (call_reprD hg hr.units) (by rfl) T.n_repr bt_repr (pa_cons (pe_callN0 (ok_quarter T) (hr.mono (by decide)) (by rfl) T.quarter.g T.quarter.F.kp (kb_quarter T) passL (pk_cons (pv 6) pk_nil)) pa_nil)) (pe_callB (call_reprD hg hr.units) (by rfl) T.n_repr bt_repr (pa_cons (pe_tup (pa_cons (pe_tup (pa_cons (pe_un un_neg (pe_ix ix_tup (pv 2) pe_int (fun _ _ => rfl))) (pa_cons (pe_ix ix_tup (pv 2) pe_int (fun _ _ => rfl)) pa_nil))) (pa_cons (pv 1) pa_nil))) pa_nil)) (nomark _))))) (pss_one (ps_ret pe_bl)) pss_nil)
      (pss_cons (ps_if (pt_cmpR op_ne (pe_callB (call_reprD hg hr.units) (by rfl) T.n_repr bt_repr (pa_cons (pe_callN0 (ok_scaled T) (hr.mono (by decide)) (by rfl) T.scaled.g T.scaled.F.kp (kb_scaled T) passL (pk_cons (pv 6) (pk_cons (pv 5) pk_nil))) pa_nil)) (pe_callB (call_reprD hg hr.units) (by rfl) T.n_repr bt_repr (pa_cons (pe_tup (pa_cons (pe_call (ok__law_product T) (hr.mono (by decide)) (by rfl) T._law_product.g T._law_product.F.kp T._law_product.b .nil pass0 (pa_cons (pv 1) (pa_cons (pv 5) pa_nil))) (pa_cons (pe_call (ok__law_product T) (hr.mono (by decide)) (by rfl) T._law_product.g T._law_product.F.kp T._law_product.b .nil pass0 (pa_cons (pv 2) (pa_cons (pv 5) pa_nil))) pa_nil))) pa_nil)) (nomark _)) (pss_one (ps_ret pe_bl)) pss_nil)
      (pss_cons (ps_set (i := 10) sc__law_sums_right.nd rfl (.inl rfl) (pe_tup (pa_cons (pe_call (ok__law_sum T) (hr.mono (by decide)) (by rfl) T._law_sum.g T._law_sum.F.kp T._law_sum.b .nil pass0 (pa_cons (pv 1) (pa_cons (pe_call (ok__law_product T) (hr.mono (by decide)) (by rfl) T._law_product.g T._law_product.F.kp T._law_product.b .nil pass0 (pa_cons (pv 8) (pa_cons (pv 5) pa_nil))) pa_nil))) (pa_cons (pe_call (ok__law_sum T) (hr.mono (by decide)) (by rfl) T._law_sum.g T._law_sum.F.kp T._law_sum.b .nil pass0 (pa_cons (pv 2) (pa_cons (pe_call (ok__law_product T) (hr.mono (by decide)) (by rfl) T._law_product.g T._law_product.F.kp T._law_product.b .nil pass0 (pa_cons (pv 9) (pa_cons (pv 5) pa_nil))) pa_nil))) pa_nil))))
      (pss_one (ps_ret (pe_and (pe_cmpR op_eq (pe_callB (call_reprD hg hr.units) (by rfl) T.n_repr bt_repr (pa_cons (pe_callN0 (ok_between T) (hr.mono (by decide)) (by rfl) T.between.g T.between.F.kp (kb_between T) passL (pk_cons (pv 6) (pk_cons (pv 7) (pk_cons (pe_callTy call_list_of (by rfl) T.n_list bt_list (pa_cons (pv 5) pa_nil)) pk_nil)))) pa_nil)) (pe_callB (call_reprD hg hr.units) (by rfl) T.n_repr bt_repr (pa_cons (pv 10) pa_nil)) (nomark _)) (pe_and (pe_cmpR op_isBl (pe_callN0 (ok_is_point T) (hr.mono (by decide)) (by rfl) T.is_point.g T.is_point.F.kp (kb_is_point T) pass0 (pk_cons (pv 6) pk_nil)) pe_bl (nomark _)) (pe_one (pe_cmpR op_isBl (pe_call (ok_is_point T) (hr.mono (by decide)) (by rfl) T.is_point.g T.is_point.F.kp T.is_point.b .nil pass0 (pa_cons (pv 10) pa_nil)) pe_bl (nomark _)))))))))))))))), ?_⟩
    refine seq_by fun N hN => ?_
    walk_at "vc"
    have rest : ∀ (H4 : Hp) (va vb vc vd vs : V) (p q4 : P2) (s3 : Int × Int), But u H H4 → Urn H4 u (k + 20) → Pr K H4 va p.1 → Pr K H4 vb p.2 → Pr K H4 vc q4.1 → Pr K H4 vd q4.2 → Pr K H4 vs s3 → DnP p → DnP q4 → Dn s3 → N [some (.ref u), some va, some vb, some vc, some vd, some vs, none, none, none, none, none] H4 := by
      intro H4 va vb vc vd vs p q4 s3 b4 u4 ha hb hc hd hs dp dq ds
      subst hN
      refine seq_by fun N hN => ?_
      have rest2 : ∀ (H5 : Hp) (vc vd : V) (q4 : P2), But u H H5 → Urn H5 u (k + 15) → Pr K H5 va p.1 → Pr K H5 vb p.2 → Pr K H5 vc q4.1 → Pr K H5 vd q4.2 → Pr K H5 vs s3 → DnP q4 → N [some (.ref u), some va, some vb, some vc, some vd, some vs, none, none, none, none, none] H5 := by
        clear hc hd dq ha hb hs b4 u4 H4 q4 vc vd
        intro H5 vc vd q4 b5 u5 ha hb hc hd hs dq
        subst hN
        refine seq_by fun N hN => ?_
        have rest3 : ∀ (H6 : Hp) (z1 z2 : V), But u H H6 → Urn H6 u k → Pr K H6 va p.1 → Pr K H6 vb p.2 → Pr K H6 vc q4.1 → Pr K H6 vd q4.2 → Pr K H6 vs s3 → Pt K H6 z1 p → Pt K H6 z2 q4 → N [some (.ref u), some va, some vb, some vc, some vd, some vs, some z1, some z2, none, none, none] H6 := by
          clear ha hb hc hd hs b5 u5 H5
          intro H6 z1 z2 b6 u6 ha hb hc hd hs hz1 hz2
          have fin : ∀ H', Same H6 H' → Q (.bl true) H' := fun H' s' => q H' (b6.trans (same_but s')) (u6.same s')
          clear b6 u6
          have xc : Canon (fSub q4.1 p.1) := fSub_canon dq.1.1 dp.1.1
          have yc : Canon (fSub q4.2 p.2) := fSub_canon dq.2.1 dp.2.1
          subst hN
          refine seq_by fun N hN => ?_
          walk_at "vc"
          refine ⟨vc, va, q4.1, p.1, rfl, hc, ha, dq.1.1, dp.1.1, (dn_sm dq.1).up (by decide), (dn_sm dp.1).up (by decide), (dn_un dq.1).up (by decide), (dn_un dp.1).up (by decide), fun H7 x s7 hx => ?_⟩
          refine ⟨vd, vb, q4.2, p.2, rfl, hd.same s7, hb.same s7, dq.2.1, dp.2.1, (dn_sm dq.2).up (by decide), (dn_sm dp.2).up (by decide), (dn_un dq.2).up (by decide), (dn_un dp.2).up (by decide), fun H8 y s8 hy => ?_⟩
          have s68 := s7.trans s8
          subst hN
          refine seq_by fun N hN => ?_
          walk_at "vc"
          have gpa := good_dn dp.1
          have gpb := good_dn dp.2
          have gqc := good_dn dq.1
          have gqd := good_dn dq.2
          have gs := good_dn ds
          have sp9 : SmP 900 p := ⟨gpa.2.1.up (by decide), gpb.2.1.up (by decide)⟩
          have sq9 : SmP 900 q4 := ⟨gqc.2.1.up (by decide), gqd.2.1.up (by decide)⟩
          have hx : Pr K H7 (.ref x) (fSub q4.1 p.1) := ⟨x, rfl, hx⟩
          have hy : Pr K H8 (.ref y) (fSub q4.2 p.2) := ⟨y, rfl, hy⟩
          refine ⟨z1, z2, rfl, .inl ⟨p, q4, hz1.same s68, hz2.same s68, sp9, sq9, fun H9 x1 s9 hx1 => ?_⟩⟩
          have s69 := s68.trans s9
          refine law2 (ha.same s69) (hc.same s69) (gpa.up (by decide) (by decide)) (gqc.up (by decide) (by decide)) fun H10 x2 s10 hx2 => ?_
          have s610 := s69.trans s10
          refine law2 (hb.same s610) (hd.same s610) (gpb.up (by decide) (by decide)) (gqd.up (by decide) (by decide)) fun H11 x3 s11 hx3 => ⟨by decide, fun r1 hr1 => ?_⟩
          have s12 := same_upd (o := .tup [x2, x3]) hr1
          refine ne_pp (hx1.same ((s10.trans s11).trans s12)) (pp_new hr1 (hx2.same s11) hx3) ⟨_, rfl, iteB ?_⟩
          have s612 := (s610.trans s11).trans s12
          have s812 := ((s9.trans s10).trans s11).trans s12
          refine ⟨z2, z1, rfl, .inl ⟨q4, p, hz2.same s612, hz1.same s612, sq9, sp9, fun H13 x4 s13 hx4 => ⟨by decide, fun r2 hr2 => ?_⟩⟩⟩
          have s14 := same_upd (o := .tup [.ref x, .ref y]) hr2
          refine ne_pp (hx4.same s14) (pp_new hr2 (hx.same (s8.trans (s812.trans s13))) (hy.same (s812.trans s13))) ⟨_, rfl, iteB ?_⟩
          have s614 := (s612.trans s13).trans s14
          have s814 := (s812.trans s13).trans s14
          have hz14 := hz1.same s614
          obtain ⟨za, zx, zy, rfl, hzs, hzx, hzy⟩ := hz14
          refine ⟨za, _, 0, zx, rfl, rfl, hzs, rfl, za, _, 1, zy, rfl, rfl, hzs, rfl, ?_⟩
          refine ⟨zx, zy, rfl, .inl ⟨p.1, p.2, hzx, hzy, fun H15 x5 s15 hx5 => ⟨by decide, fun r3 hr3 => ?_⟩⟩⟩
          have s16 := same_upd (o := .tup [va, vb]) hr3
          refine ne_pp (hx5.same s16) (pp_new hr3 (ha.same (s614.trans s15)) (hb.same (s614.trans s15))) ⟨_, rfl, iteB ?_⟩
          have s616 := (s614.trans s15).trans s16
          have s816 := (s814.trans s15).trans s16
          generalize upd H15 r3 (.tup [va, vb]) = H16 at *
          -- from here on all that is known is carried to H16
          have rest4 : ∀ (H6 : Hp), Same H16 H6 → Pr K H6 va p.1 → Pr K H6 vb p.2 → Pr K H6 vc q4.1 → Pr K H6 vd q4.2 → Pr K H6 vs s3 → Pt K H6 (.ref za) p → Pt K H6 z2 q4 → Pr K H6 (.ref x) (fSub q4.1 p.1) → Pr K H6 (.ref y) (fSub q4.2 p.2) → (∀ H', Same H6 H' → Q (.bl true) H') →
              N [some (.ref u), some va, some vb, some vc, some vd, some vs, some (.ref za), some z2, some (.ref x), some (.ref y), none] H6 := by
            clear fin ha hb hc hd hs hz1 hz2 hx hy s616 s816 s614 s814 s612 s812 s610 s69 s68 hx1 hx2 hx3 hx4 hx5 hzs hzx hzy s7 s8 s9 s10 s11 s12 s13 s14 s15 s16 hr3 hr2 hr1
            intro H6 _ ha hb hc hd hs hz1 hz2 hx hy fin
            have gx := good_sub gqc gpa
            have gy := good_sub gqd gpb
            subst hN
            refine seq_by fun N hN => ?_
            walk_at "vc"
            have gcr := good_sub (good_mul gpa gqd) (good_mul gpb gqc)
            have gdo := good_add (good_mul gpa gqc) (good_mul gpb gqd)
            refine ⟨.ref za, z2, rfl, .inl ⟨p, q4, hz1, hz2, sp9, sq9, fun H7 r1 s7 h1 => ?_⟩⟩
            refine repr_pr (q := vCross p q4) ⟨r1, rfl, h1⟩ (gcr.2.1.up (by decide)) ?_
            refine law2 (ha.same s7) (hd.same s7) (gpa.up (by decide) (by decide)) (gqd.up (by decide) (by decide)) fun H8 x2 s8 hx2 => ?_
            refine law2 (hb.same (s7.trans s8)) (hc.same (s7.trans s8)) (gpb.up (by decide) (by decide)) (gqc.up (by decide) (by decide)) fun H9 x3 s9 hx3 => ?_
            refine law2 (hx2.same s9) hx3 ((good_mul gpa gqd).up (by decide) (by decide)) ((good_mul gpb gqc).up (by decide) (by decide)) fun H10 x4 s10 hx4 => ?_
            refine repr_pr hx4 (gcr.2.1.up (by decide)) ⟨rfl, ?_⟩
            rw [if_neg (fun z => z rfl)]
            have s610 := ((s7.trans s8).trans s9).trans s10
            refine ⟨.ref za, z2, rfl, .inl ⟨p, q4, hz1.same s610, hz2.same s610, sp9, sq9, fun H11 r2 s11 h2 => ?_⟩⟩
            refine repr_pr (q := vDot p q4) ⟨r2, rfl, h2⟩ (gdo.2.1.up (by decide)) ?_
            have s611 := s610.trans s11
            refine law2 (ha.same s611) (hc.same s611) (gpa.up (by decide) (by decide)) (gqc.up (by decide) (by decide)) fun H12 x5 s12 hx5 => ?_
            refine law2 (hb.same (s611.trans s12)) (hd.same (s611.trans s12)) (gpb.up (by decide) (by decide)) (gqd.up (by decide) (by decide)) fun H13 x6 s13 hx6 => ?_
            refine law2 (hx5.same s13) hx6 ((good_mul gpa gqc).up (by decide) (by decide)) ((good_mul gpb gqd).up (by decide) (by decide)) fun H14 x7 s14 hx7 => ?_
            refine repr_pr hx7 (gdo.2.1.up (by decide)) ⟨rfl, ?_⟩
            rw [if_neg (fun z => z rfl)]
            have s614 := ((s611.trans s12).trans s13).trans s14
            clear hx2 hx3 hx4 hx5 hx6 hx7 h1 h2 s7 s8 s9 s10 s11 s12 s13 s14 s610 s611
            have rest5 : ∀ (H6 : Hp), Pr K H6 va p.1 → Pr K H6 vb p.2 → Pr K H6 vc q4.1 → Pr K H6 vd q4.2 → Pr K H6 vs s3 → Pt K H6 (.ref za) p → Pt K H6 z2 q4 → Pr K H6 (.ref x) (fSub q4.1 p.1) → Pr K H6 (.ref y) (fSub q4.2 p.2) → (∀ H', Same H6 H' → Q (.bl true) H') →
                N [some (.ref u), some va, some vb, some vc, some vd, some vs, some (.ref za), some z2, some (.ref x), some (.ref y), none] H6 := by
              clear fin ha hb hc hd hs hz1 hz2 hx hy s614
              intro H6 ha hb hc hd hs hz1 hz2 hx hy fin
              subst hN
              refine seq_by fun N hN => ?_
              walk_at "vc"
              have gsq := good_add (good_mul gx gx) (good_mul gy gy)
              refine ⟨.ref za, z2, rfl, .inl ⟨p, q4, hz1, hz2, sp9, sq9, fun H7 r1 s7 h1 => ?_⟩⟩
              rw [vSq_flip ⟨dp.1.1, dp.2.1⟩ ⟨dq.1.1, dq.2.1⟩] at h1
              refine repr_pr ⟨r1, rfl, h1⟩ (gsq.2.1.up (by decide)) ?_
              refine law2 (hx.same s7) (hx.same s7) (gx.up (by decide) (by decide)) (gx.up (by decide) (by decide)) fun H8 x2 s8 hx2 => ?_
              refine law2 (hy.same (s7.trans s8)) (hy.same (s7.trans s8)) (gy.up (by decide) (by decide)) (gy.up (by decide) (by decide)) fun H9 x3 s9 hx3 => ?_
              refine law2 (hx2.same s9) hx3 ((good_mul gx gx).up (by decide) (by decide)) ((good_mul gy gy).up (by decide) (by decide)) fun H10 x4 s10 hx4 => ?_
              refine repr_pr hx4 (gsq.2.1.up (by decide)) ⟨rfl, ?_⟩
              rw [if_neg (fun z => z rfl)]
              have s610 := ((s7.trans s8).trans s9).trans s10
              have nb : Sm 1900 (fNeg p.2) := ⟨by show (-p.2.1).natAbs < _; rw [Int.natAbs_neg]; exact (gpb.2.1.up (by decide : 60 ≤ 1900)).1, (gpb.2.1.up (by decide : 60 ≤ 1900)).2⟩
              refine ⟨.ref za, rfl, .inl ⟨p, hz1.same s610, fun H11 v11 s11 h11 => ?_⟩⟩
              refine repr_pp h11 ⟨nb, gpa.2.1.up (by decide)⟩ ?_
              have s611 := s610.trans s11
              obtain ⟨pb, rfl, hpb⟩ := hb.same s611
              refine ixT hpb rfl ⟨_, rfl, ixT hpb rfl ⟨by decide, fun r3 hr3 => ⟨by decide, fun r4 hr4 => ?_⟩⟩⟩
              have s12 := same_upd (o := .tup [.int (-p.2.1), .int p.2.2]) hr3
              have s13 := same_upd (o := .tup [.ref r3, va]) hr4
              refine repr_pp (p := vTurn p) (pp_new hr4 ⟨r3, rfl, st_of upd_same⟩ (ha.same (s611.trans s12))) ⟨nb, gpa.2.1.up (by decide)⟩ ⟨rfl, ?_⟩
              rw [if_neg (fun z => z rfl)]
              have s613 := (s611.trans s12).trans s13
              generalize upd (upd H11 r3 (.tup [.int (-p.2.1), .int p.2.2])) r4 (.tup [.ref r3, va]) = H13 at *
              clear hx2 hx3 hx4 h1 s7 s8 s9 s10 s610 hr3 hr4
              have rest6 : ∀ (H6 : Hp) (vb : V), Pr K H6 va p.1 → Pr K H6 vb p.2 → Pr K H6 vc q4.1 → Pr K H6 vd q4.2 → Pr K H6 vs s3 → Pt K H6 (.ref za) p → Pt K H6 z2 q4 → Pr K H6 (.ref x) (fSub q4.1 p.1) → Pr K H6 (.ref y) (fSub q4.2 p.2) → (∀ H', Same H6 H' → Q (.bl true) H') →
                  N [some (.ref u), some va, some vb, some vc, some vd, some vs, some (.ref za), some z2, some (.ref x), some (.ref y), none] H6 := by
                clear fin ha hb hc hd hs hz1 hz2 hx hy s613 h11 hpb s12 s13 s11 s611
                intro H6 vb ha hb hc hd hs hz1 hz2 hx hy fin
                subst hN
                refine seq_by fun N hN => ?_
                walk_at "vc"
                have gas := good_mul gpa gs
                have gbs := good_mul gpb gs
                have sms : SmP 1900 (vMul p s3) := ⟨gas.2.1.up (by decide), gbs.2.1.up (by decide)⟩
                have ns : Num K H6 vs s3 := hs.num gs.1
                refine ⟨.ref za, vs, rfl, .inl ⟨p, s3, hz1, ns, sp9, gs.2.1.up (by decide), fun H7 v7 s7 h7 => ?_⟩⟩
                refine repr_pp h7 sms ?_
                refine law2 (ha.same s7) (hs.same s7) (gpa.up (by decide) (by decide)) (gs.up (by decide) (by decide)) fun H8 x2 s8 hx2 => ?_
                refine law2 (hb.same (s7.trans s8)) (hs.same (s7.trans s8)) (gpb.up (by decide) (by decide)) (gs.up (by decide) (by decide)) fun H9 x3 s9 hx3 => ⟨by decide, fun r4 hr4 => ?_⟩
                have s10 := same_upd (o := .tup [x2, x3]) hr4
                refine repr_pp (p := vMul p s3) (pp_new hr4 (hx2.same s9) hx3) sms ⟨rfl, ?_⟩
                rw [if_neg (fun z => z rfl)]
                have s610 := ((s7.trans s8).trans s9).trans s10
                have rest7 : ∀ (H6 : Hp), Pr K H6 va p.1 → Pr K H6 vb p.2 → Pr K H6 vc q4.1 → Pr K H6 vd q4.2 → Pr K H6 vs s3 → Pt K H6 (.ref za) p → Pt K H6 z2 q4 → Pr K H6 (.ref x) (fSub q4.1 p.1) → Pr K H6 (.ref y) (fSub q4.2 p.2) → (∀ H', Same H6 H' → Q (.bl true) H') →
                    N [some (.ref u), some va, some vb, some vc, some vd, some vs, some (.ref za), some z2, some (.ref x), some (.ref y), none] H6 := by
                  clear fin ha hb hc hd hs hz1 hz2 hx hy s610 h7 hx2 hx3 hr4 s7 s8 s9 s10 ns
                  intro H6 ha hb hc hd hs hz1 hz2 hx hy fin
                  subst hN
                  refine seq_by fun N hN => ?_
                  walk_at "vc"
                  have gxs := good_mul (gx.up (n' := 121) (m' := 40) (by decide) (by decide)) (gs.up (n' := 121) (m' := 20) (by decide) (by decide))
                  have gys := good_mul (gy.up (n' := 121) (m' := 40) (by decide) (by decide)) (gs.up (n' := 121) (m' := 20) (by decide) (by decide))
                  refine law2 hx hs (gx.up (by decide) (by decide)) (gs.up (by decide) (by decide)) fun H7 x1 s7 h1 => ?_
                  refine law2 (ha.same s7) h1 (gpa.up (by decide) (by decide)) (gxs.up (by decide) (by decide)) fun H8 x2 s8 h2 => ?_
                  have s68 := s7.trans s8
                  refine law2 (hy.same s68) (hs.same s68) (gy.up (by decide) (by decide)) (gs.up (by decide) (by decide)) fun H9 x3 s9 h3 => ?_
                  have s69 := s68.trans s9
                  refine law2 (hb.same s69) h3 (gpb.up (by decide) (by decide)) (gys.up (by decide) (by decide)) fun H10 x4 s10 h4 => ⟨by decide, fun r5 hr5 => ?_⟩
                  have s11 := same_upd (o := .tup [x2, x4]) hr5
                  have hdue : PP K _ (.ref r5) (vBetween p q4 s3) := pp_new hr5 (h2.same (s9.trans s10)) h4
                  have s611 := (s69.trans s10).trans s11
                  generalize upd H10 r5 (.tup [x2, x4]) = H11 at *
                  subst hN
                  walk_at "vc"
                  have sdue : SmP 1900 (vBetween p q4 s3) := ⟨(good_add (gpa.up (n' := 242) (m' := 20) (by decide) (by decide)) gxs).2.1.up (by decide), (good_add (gpb.up (n' := 242) (m' := 20) (by decide) (by decide)) gys).2.1.up (by decide)⟩
                  have cdue : CanonP (vBetween p q4 s3) := ⟨(good_add (gpa.up (n' := 242) (m' := 20) (by decide) (by decide)) gxs).1, (good_add (gpb.up (n' := 242) (m' := 20) (by decide) (by decide)) gys).1⟩
                  obtain ⟨ps, rfl, hps⟩ := hs.same s611
                  refine ⟨ps, rfl, _, .inr hps, fun l hl => ?_⟩
                  have s12 := same_upd (o := .lst [.int s3.1, .int s3.2]) hl
                  have s612 := s611.trans s12
                  refine ⟨.ref za, z2, .ref l, rfl, .inl ⟨p, q4, s3, hz1.same s612, hz2.same s612, .sq (.inl (sl_of upd_same)) gs.1, sp9, sq9, gs.2.1.up (by decide), fun H13 v13 s13 h13 => ?_⟩⟩
                  have s613 := s612.trans s13
                  have hdue' := hdue.same (s12.trans s13)
                  refine repr_pp h13 sdue (repr_pp hdue' sdue ⟨rfl, ?_⟩)
                  rw [if_pos rfl]
                  refine ⟨_, rfl, .inl ⟨p, hz1.same s613, fun H14 s14 => ⟨true, rfl, ?_⟩⟩⟩
                  rw [if_pos rfl]
                  have hd14 := hdue'.same s14
                  obtain ⟨da, dx, dy, e, hds, hdx, hdy⟩ := hd14
                  refine ⟨_, rfl, .inl ⟨vBetween p q4 s3, ⟨da, dx, dy, e, .inr hds, hdx.num cdue.1, hdy.num cdue.2⟩, fun H15 s15 => ⟨true, rfl, fin H15 ((s613.trans s14).trans s15)⟩⟩⟩
                exact rest7 _ (ha.same s610) (hb.same s610) (hc.same s610) (hd.same s610) (hs.same s610) (hz1.same s610) (hz2.same s610) (hx.same s610) (hy.same s610) fun H' s' => fin H' (s610.trans s')
              exact rest6 H13 _ (ha.same s613) (hb.same s613) (hc.same s613) (hd.same s613) (hs.same s613) (hz1.same s613) (hz2.same s613) (hx.same s613) (hy.same s613) fun H' s' => fin H' (s613.trans s')
            exact rest5 H14 (ha.same s614) (hb.same s614) (hc.same s614) (hd.same s614) (hs.same s614) (hz1.same s614) (hz2.same s614) (hx.same s614) (hy.same s614) fun H' s' => fin H' (s614.trans s')
          exact rest4 H16 (fun _ _ e => e) (ha.same s616) (hb.same s616) (hc.same s616) (hd.same s616) (hs.same s616) (hz1.same s616) (hz2.same s616) (hx.same (s8.trans s816)) (hy.same s816) fun H' s' => fin H' (s616.trans s')
        walk_at "vc"
        refine ⟨by decide, fun b hb' => ?_⟩
        have sb := same_upd (o := .tup [va, vb]) hb'
        have hbt : SqT K (upd H5 b (.tup [va, vb])) b [va, vb] := st_of upd_same
        generalize upd H5 b (.tup [va, vb]) = G5 at *
        have ub := u5.same sb
        obtain ⟨c5, y5, e5⟩ := ub.at
        refine ⟨u, _, p, k + 10, rfl, ⟨b, va, vb, rfl, hbt, ha.same sb, hb.same sb⟩, ⟨dp.1.1, dp.2.1⟩, ub, fun H6 z1 b6 u6 hz1 _ => ⟨by decide, fun d hd' => ?_⟩⟩
        have sd := same_upd (o := .tup [vc, vd]) hd'
        have hdt : SqT K (upd H6 d (.tup [vc, vd])) d [vc, vd] := st_of upd_same
        generalize upd H6 d (.tup [vc, vd]) = G6 at *
        have ud := u6.same sd
        obtain ⟨c6, y6, e6⟩ := ud.at
        have m56 : ∀ {v : V} {r : Int × Int}, Pr K H5 v r → Pr K G6 v r := fun h => ((h.same sb).but b6 e5).same sd
        refine ⟨u, _, q4, k, rfl, ⟨d, vc, vd, rfl, hdt, m56 hc, m56 hd⟩, ⟨dq.1.1, dq.2.1⟩, ud.mono (by omega), fun H7 z2 b7 u7 hz2 _ => ?_⟩
        exact rest3 H7 z1 z2 ((((b5.trans (same_but sb)).trans b6).trans (same_but sd)).trans b7) u7 ((m56 ha).but b7 e6) ((m56 hb).but b7 e6) ((m56 hc).but b7 e6) ((m56 hd).but b7 e6) ((m56 hs).but b7 e6) ((hz1.same sd).but b7 ud) hz2
      walk_at "vc"
      obtain ⟨c4, y4, e4⟩ := u4.at
      refine ⟨u, 6, k + 19, rfl, by decide, by decide, u4, fun H5 m5 b5 u5 m0 m1 => ⟨rfl, ?_⟩⟩
      have ha' := ha.but b5 e4
      have hb' := hb.but b5 e4
      split
      · exact rest2 H5 _ _ p (b4.trans b5) (u5.mono (by omega)) ha' hb' ha' hb' (hs.but b5 e4) dp
      · exact rest2 H5 _ _ q4 (b4.trans b5) (u5.mono (by omega)) ha' hb' (hc.but b5 e4) (hd.but b5 e4) (hs.but b5 e4) dq
    refine ⟨u, k + 44, rfl, hu, fun H1 v1 p b1 u1 h1 d1 => ⟨u, k + 28, rfl, u1, fun H2 v2 p2 b2 u2 h2 d2 => ⟨u, k + 20, rfl, u2, fun H3 v3 s3 b3 u3 h3 d3 => ⟨by decide, fun r hr0 => ?_⟩⟩⟩⟩
    obtain ⟨c1, y1, e1⟩ := u1.at
    obtain ⟨c2, y2, e2⟩ := u2.at
    have sr := same_upd (o := .tup [v1, v2, v3]) hr0
    have h1' := ((h1.but b2 e1).but b3 e2).same sr
    have h2' := (h2.but b3 e2).same sr
    have h3' := h3.same sr
    have u3' := u3.same sr
    have b03 := ((b1.trans b2).trans b3).trans (same_but sr)
    generalize hG : upd H3 r (.tup [v1, v2, v3]) = G at *
    have hr1 : SqT K G r [v1, v2, v3] := by rw [← hG]; exact st_of upd_same
    obtain ⟨a1, x1, z1, rfl, t1, p1, p1'⟩ := h1'
    obtain ⟨a2, x2, z2, rfl, t2, p2', p2''⟩ := h2'
    exact ⟨_, hr1, rfl, _, _, rfl, _, rfl, _, t1, rfl, _, _, rfl, _, _, rfl, rfl, _, _, rfl, _, rfl, _, t2, rfl, _, _, rfl, _, _, rfl, rfl, _, _, rfl, rfl, rest G _ _ _ _ _ p p2 s3 b03 u3' p1 p1' p2' p2'' h3' d1 d2 d3⟩
end
end Odd
namespace Odd
open PySem PySem.Spec PyProof.Rows L2
local macro_rules | `(tactic| walk_at "vc") => `(tactic| simp only [tSeq, tAsg, gName, tCB, tCons, tNil, tVar, tC, tOp, tUn, rI0, rI, rU, tTup, tLst, tIfS, tTest, tB, tRet, tNext, rGcd, L2.start, List.map, List.set, List.replicate, List.cons_append, List.nil_append, List.length_cons, List.length_nil, List.getElem?_cons_succ, List.getElem?_cons_zero, Option.some.injEq, exists_eq_left', exists_eq_left, List.append_nil, List.cons.injEq, V.int.injEq, exists_and_left, and_true, true_and, and_assoc, exists_const, V.bl.injEq, V.ref.injEq, Nat.sub_self, Nat.reduceAdd, Nat.reduceSub, List.replicate_succ, List.replicate_zero, tAnd, tOr, tNot, tAndV, tOrV, tNotV, tIf, tCall, tCallK, tDrop, rEq, rNe, decide_eq_true_eq, Bool.not_eq_true', decide_eq_false_iff_not, Bool.false_eq_true, if_true, if_false, reduceIte, reduceCtorEq, tMkLow, tRaiseLow, rIsB, rNotB, tBreak, tPar, gSub, rSetL, tChain, gTup, gCons, gNil, gSeq, cx_K, cx_Kn, optV, V.str.injEq, Bool.not_true, Bool.not_false, false_and, and_false, or_false, false_or, exists_false, tCallN, tCallS, tPairs])
theorem same_upd2 {H : Hp} {p : Addr} {o o' : HO} (h : H p = none) : Same H (upd (upd H p o) p o') := fun b x e => by
  have n := ne_of_none e h
  rw [upd_ne n, upd_ne n]
  exact e
/-- the values that are no point -/
inductive BadV (K : PySem.W.Frag) (H : Hp) : V → Prop
  | non : BadV K H .non
  | tru : BadV K H (.bl true)
  | sev : BadV K H (.int 7)
  | str : BadV K H (.str "12")
  | t1 {p : Addr} (h : SqT K H p [.int 1]) : BadV K H (.ref p)
  | t3 {p : Addr} (h : SqT K H p [.int 1, .int 2, .int 3]) : BadV K H (.ref p)
  | tt {p r : Addr} (h : SqT K H p [.ref r, .int 1]) (h2 : SqT K H r [.int 2, .int 4]) : BadV K H (.ref p)
  | tb {p : Addr} (h : SqT K H p [.int 1, .bl true]) : BadV K H (.ref p)
  | ls {p : Addr} (h : SqL K H p [.int 1, .non]) : BadV K H (.ref p)
  | dc {p : Addr} {kvs : List (Key × V)} (h : H p = some (.dK kvs)) : BadV K H (.ref p)
  | em {p : Addr} (h : SqT K H p []) : BadV K H (.ref p)
theorem BadV.same {K : PySem.W.Frag} {H H' : Hp} {v : V} (s : Same H H') (h : BadV K H v) : BadV K H' v := by
  cases h with
  | non => exact .non
  | tru => exact .tru
  | sev => exact .sev
  | str => exact .str
  | t1 h => exact .t1 (same_tup s h)
  | t3 h => exact .t3 (same_tup s h)
  | tt h h2 => exact .tt (same_tup s h) (same_tup s h2)
  | tb h => exact .tb (same_tup s h)
  | ls h => exact .ls (s.seq h)
  | dc h => exact .dc (s _ _ h)
  | em h => exact .em (same_tup s h)
theorem BadV.but {K : PySem.W.Frag} {u c : Addr} {H H' : Hp} {v : V} {ys : List V} (s : But u H H') (hu : H u = some (.lst (.ref c :: ys))) (h : BadV K H v) : BadV K H' v := by
  cases h with
  | non => exact .non
  | tru => exact .tru
  | sev => exact .sev
  | str => exact .str
  | t1 h => exact .t1 (s.tup hu h)
  | t3 h => exact .t3 (s.tup hu h)
  | tt h h2 => exact .tt (s.tup hu h) (s.tup hu h2)
  | tb h => exact .tb (s.tup hu h)
  | ls h => exact .ls (s.lst hu (by intro z; cases z) h)
  | dc h => exact .dc (s.1 _ (ne_of h hu (by intro z; cases z)) _ h)
  | em h => exact .em (s.tup hu h)
theorem BadV.p {K : PySem.W.Frag} {H : Hp} {v : V} (h : BadV K H v) : BadP K H v := by
  cases h with
  | non => exact .scal .non (by decide) (by decide)
  | tru => exact .scal (.bl true) (by decide) (by decide)
  | sev => exact .scal (.int 7) (by decide) (by decide)
  | str => exact .scal (.str _) (by decide) (by decide)
  | t1 h => exact .len (.inr h) (by decide)
  | t3 h => exact .len (.inr h) (by decide)
  | tt h h2 => exact .fst (.inr h) (.low (.inr h2) (by rintro ⟨_, z⟩; exact absurd z (by decide)))
  | tb h => exact .snd (.inr h) (.int 1) (.scal (.bl true) (by decide) (by decide) (by decide))
  | ls h => exact .snd (.inl h) (.int 1) (.scal .non (by decide) (by decide) (by decide))
  | dc h => exact .scal (.dict h) (by decide) (by decide)
  | em h => exact .len (.inr h) (by decide)
theorem Num.grow2 {K : PySem.W.Frag} {D : Addr} {H : Hp} {v : V} {q : Int × Int} {ys zs : List V} (e : H D = some (.lst ys)) (l : ∀ a b : Int, [.int a, .int b] ≠ ys) (h : Num K H v q) : Num K (upd H D (.lst (ys ++ zs))) v q := by
  cases h with
  | int n => exact .int n
  | sq h c => exact .sq (h.but (but_app e) e (l _ _)) c
/-- the list of points at D, while it grows -/
def Row (K : PySem.W.Frag) (D : Addr) (H : Hp) (xs : List V) : Prop := ∀ x ∈ xs, ∃ (a : Addr) (y z : V) (p : P2), x = .ref a ∧ a ≠ D ∧ Sq K H a [y, z] ∧ Num K H y p.1 ∧ Num K H z p.2
theorem Row.but {K : PySem.W.Frag} {D u : Addr} {H H' : Hp} {xs : List V} {k : Nat} (s : But u H H') (hu : Urn H u k) (h : Row K D H xs) : Row K D H' xs := by
  obtain ⟨c, n, r, cells, e, _⟩ := hu
  intro x hx
  obtain ⟨a, y, z, p, e', n, h, hx, hy⟩ := h x hx
  exact ⟨a, y, z, p, e', n, h.but s e (by intro z; injection z with _ z; injection z with _ z; cases z), hx.but s e, hy.but s e⟩
theorem Row.same {K : PySem.W.Frag} {D : Addr} {H H' : Hp} {xs : List V} (s : Same H H') (h : Row K D H xs) : Row K D H' xs := by
  intro x hx
  obtain ⟨a, y, z, p, e', n, h, hx, hy⟩ := h x hx
  exact ⟨a, y, z, p, e', n, h.same s, hx.same s, hy.same s⟩
theorem all_rep (n : Nat) : (List.replicate n true).all id = true := by simp
theorem Row.judg {K : PySem.W.Frag} {D : Addr} {H : Hp} : ∀ {xs : List V}, Row K D H xs → Judg K H xs (List.replicate xs.length true)
  | [], _ => .nil
  | x :: xs, h => by
    obtain ⟨a, y, z, p, e, _, h1, h2, h3⟩ := h x (List.mem_cons_self)
    exact .yes (p := p) ⟨a, y, z, e, h1, h2, h3⟩ (Row.judg fun x hx => h x (List.mem_cons_of_mem _ hx))
theorem sq_off {K : PySem.W.Frag} {D a : Addr} {H : Hp} {o : HO} {xs : List V} (n : a ≠ D) (h : Sq K H a xs) : Sq K (upd H D o) a xs := by
  rcases h with ((h | ⟨o', h⟩) | h) | ((h | ⟨o', h⟩) | h)
  · exact .inl (.inl (.inl (by rw [upd_ne n]; exact h)))
  · exact .inl (.inl (.inr ⟨o', by rw [upd_ne n]; exact h⟩))
  · exact .inl (.inr h)
  · exact .inr (.inl (.inl (by rw [upd_ne n]; exact h)))
  · exact .inr (.inl (.inr ⟨o', by rw [upd_ne n]; exact h⟩))
  · exact .inr (.inr h)
theorem Row.grow {K : PySem.W.Frag} {D : Addr} {H : Hp} {ys zs xs : List V} (e : H D = some (.lst ys)) (l : ∀ a b : Int, [.int a, .int b] ≠ ys) (h : Row K D H xs) : Row K D (upd H D (.lst (ys ++ zs))) xs := by
  intro x hx
  obtain ⟨a, y, z, p, e', n, h, h2, h3⟩ := h x hx
  exact ⟨a, y, z, p, e', n, sq_off n h, h2.grow2 e l, h3.grow2 e l⟩
theorem Row.noint {K : PySem.W.Frag} {D : Addr} {H : Hp} {xs : List V} (h : Row K D H xs) : ∀ a b : Int, [.int a, .int b] ≠ xs := by
  rintro a b rfl
  obtain ⟨_, _, _, _, z, _⟩ := h (.int a) (List.mem_cons_self)
  cases z
theorem judg_mid {K : PySem.W.Frag} {D : Addr} {H : Hp} {b : V} {ys : List V} (hb : BadP K H b) (hy : Row K D H ys) : ∀ {xs : List V}, Row K D H xs → ∃ bs, Judg K H ((xs ++ [b]) ++ ys) bs ∧ bs.all id = false
  | [], _ => ⟨_, .no hb hy.judg, by simp⟩
  | x :: xs, h => by
    obtain ⟨a, y, z, p, e, _, h1, h2, h3⟩ := h x (List.mem_cons_self)
    obtain ⟨bs, j, e'⟩ := judg_mid (xs := xs) hb hy (fun x hx => h x (List.mem_cons_of_mem _ hx))
    exact ⟨_, .yes (p := p) ⟨a, y, z, e, h1, h2, h3⟩ j, by simpa using e'⟩
theorem cut_mem {xs : List V} {a b : Option Int} {x : V} (h : x ∈ cutV xs a b) : x ∈ xs := by
  unfold cutV at h
  exact List.mem_of_mem_drop (List.mem_of_mem_take h)
theorem cut_len {xs : List V} {a b : Option Int} : (cutV xs a b).length ≤ xs.length := by
  unfold cutV
  rw [List.length_take, List.length_drop]
  omega
theorem eqD_no {K : PySem.W.Frag} {H : Hp} {v : V} {p : Addr} {d : PyData} {Q : VK} (hd : Dp K H v d) (hp : SqT K H p []) (sd : SeqAt.shaped d = true) (e : PyData.eqv d (.tuple []) = false) (q : Q (.bl false) H) : rEqB K v (.ref p) H Q :=
  .inl ⟨d, .tuple [], hd, .tup hp .nil, sd, by decide +kernel, by rw [e]; exact q⟩
theorem BadV.last {K : PySem.W.Frag} {H : Hp} {v : V} (h : BadV K H v) : ∃ b : Bool, (∀ Q E, RetV H (.bl b) Q → spArePoints K [v, .int 0, .int 0] H Q E) ∧ ∀ H' p Q, Same H H' → SqT K H' p [] → Q (.bl b) H' → rEqB K v (.ref p) H' Q := by
  cases h with
  | non =>
    refine ⟨false, fun Q E r => ⟨_, 0, 0, rfl, .inl ⟨_, .non, by decide, by decide, r⟩⟩, fun H' p' Q s hp q => eqD_no (.non) hp (by decide +kernel) (by decide +kernel) q⟩
  | tru =>
    refine ⟨false, fun Q E r => ⟨_, 0, 0, rfl, .inl ⟨_, .bl true, by decide, by decide, r⟩⟩, fun H' p' Q s hp q => eqD_no (.bl true) hp (by decide +kernel) (by decide +kernel) q⟩
  | sev =>
    refine ⟨false, fun Q E r => ⟨_, 0, 0, rfl, .inl ⟨_, .int 7, by decide, by decide, r⟩⟩, fun H' p' Q s hp q => eqD_no (.int 7) hp (by decide +kernel) (by decide +kernel) q⟩
  | str =>
    refine ⟨false, fun Q E r => ⟨_, 0, 0, rfl, .inl ⟨_, .str _, by decide, by decide, r⟩⟩, fun H' p' Q s hp q => eqD_no (.str _) hp (by decide +kernel) (by decide +kernel) q⟩
  | t1 h =>
    refine ⟨false, fun Q E r => ⟨_, 0, 0, rfl, .inr (.inl ⟨_, _, rfl, .inr h, by simp, r⟩)⟩, fun H' p' Q s hp q => eqD_no (.tup (same_tup s h) (.cons (.int 1) .nil)) hp (by decide +kernel) (by decide +kernel) q⟩
  | t3 h =>
    refine ⟨false, fun Q E r => ⟨_, 0, 0, rfl, .inr (.inl ⟨_, _, rfl, .inr h, by simp, r⟩)⟩, fun H' p' Q s hp q => eqD_no (.tup (same_tup s h) (.cons (.int 1) (.cons (.int 2) (.cons (.int 3) .nil)))) hp (by decide +kernel) (by decide +kernel) q⟩
  | tt h h2 =>
    refine ⟨false, fun Q E r => ⟨_, 0, 0, rfl, .inr (.inl ⟨_, _, rfl, .inr h, by simp, r⟩)⟩, fun H' p' Q s hp q => eqD_no (.tup (same_tup s h) (.cons (.tup (same_tup s h2) (.cons (.int 2) (.cons (.int 4) .nil))) (.cons (.int 1) .nil))) hp (by decide +kernel) (by decide +kernel) q⟩
  | tb h =>
    refine ⟨false, fun Q E r => ⟨_, 0, 0, rfl, .inr (.inl ⟨_, _, rfl, .inr h, by simp, r⟩)⟩, fun H' p' Q s hp q => eqD_no (.tup (same_tup s h) (.cons (.int 1) (.cons (.bl true) .nil))) hp (by decide +kernel) (by decide +kernel) q⟩
  | ls h =>
    refine ⟨false, fun Q E r => ⟨_, 0, 0, rfl, .inr (.inl ⟨_, _, rfl, .inl h, by simp, r⟩)⟩, fun H' p' Q s hp q => eqD_no (.lst (s.seq h) (.cons (.int 1) (.cons .non .nil))) hp (by decide +kernel) (by decide +kernel) q⟩
  | dc h => exact ⟨false, fun Q E r => ⟨_, 0, 0, rfl, .inl ⟨_, .dict h, by decide, by decide, r⟩⟩, fun H' p' Q s hp q => .inr ⟨_, p', _, [], rfl, rfl, s _ _ h, hp, q⟩⟩
  | em h =>
    refine ⟨true, fun Q E r => ⟨_, 0, 0, rfl, .inr (.inr ⟨_, [], [], rfl, .inr h, ⟨by decide, by decide⟩, by decide, .nil, r⟩)⟩, fun H' p' Q s hp q => .inl ⟨.tuple [], .tuple [], .tup (same_tup s h) .nil, .tup hp .nil, by decide +kernel, by decide +kernel, ?_⟩⟩
    exact (show PyData.eqv (.tuple []) (.tuple []) = true by decide +kernel) ▸ q
def dW (a b : Str) : PyData := .tuple [.str a, .str b]
theorem dp_w {K : PySem.W.Frag} {H : Hp} {p : Addr} {a b : Str} (h : H p = some (.tup [.str a, .str b])) : Dp K H (.ref p) (dW a b) := .tup (st_of h) (.cons (.str a) (.cons (.str b) .nil))
def dSome : PyData := .list [dW "point" "vector", dW "point" "vector", dW "number" "factor", dW "number" "x", dW "number" "y", dW "point" "other", dW "number" "share", .none]
theorem sh_some : SeqAt.shaped dSome = true := by decide +kernel
theorem eqv_some : PyData.eqv dSome dSome = true := by decide +kernel
theorem dp_some {K : PySem.W.Frag} {H : Hp} {l q1 q2 q3 q4 q5 q6 q7 : Addr} (e : H l = some (.lst [.ref q1, .ref q2, .ref q3, .ref q4, .ref q5, .ref q6, .ref q7, .non]))
    (h1 : H q1 = some (.tup [.str "point", .str "vector"])) (h2 : H q2 = some (.tup [.str "point", .str "vector"])) (h3 : H q3 = some (.tup [.str "number", .str "factor"])) (h4 : H q4 = some (.tup [.str "number", .str "x"]))
    (h5 : H q5 = some (.tup [.str "number", .str "y"])) (h6 : H q6 = some (.tup [.str "point", .str "other"])) (h7 : H q7 = some (.tup [.str "number", .str "share"])) : Dp K H (.ref l) dSome :=
  .lst (sl_of e) (.cons (dp_w h1) (.cons (dp_w h2) (.cons (dp_w h3) (.cons (dp_w h4) (.cons (dp_w h5) (.cons (dp_w h6) (.cons (dp_w h7) (.cons .non .nil))))))))
section
variable {P : Program} {w : World} {K : PySem.W.Frag} {mg : Str → Option Value} {base : Heap} {A : Ads}
theorem kb_are_points (T : Txt K mg A) : KBn K A.d_are_points ["value", "least", "most"] 0 ["value", "least", "most"] (fun _ ws => ws) (fun _ zs => zs) := fun_kb T.are_points.F fun _ _ _ _ _ _ ws hl => match ws, hl with | [_, _, _], _ => rfl
def spLaw (K : PySem.W.Frag) : Sp := fun vs H Q _ => ∃ (a : Addr) (ns : List Int), vs = [.ref a] ∧ SqL K H a (ns.map V.int) ∧ ns.length ≤ 63 ∧ ∀ H', Q (.bl true) H'
theorem ok_law (T : Txt K mg A) : GOk P w K mg base CX0 10 A.f_law A.d_law ["script"] (spLaw K) := by
  refine gok T.law.F sc_law (fun vs H Q E h => ?_) (fun cdv A' outer s H vs Q E hg hr h => ?_)
  · obtain ⟨_, _, rfl, _⟩ := h; rfl
  · obtain ⟨a, ns, rfl, hS, hl, q⟩ := h
    refine ⟨_, (pss_cons (ps_set (i := 1) sc_law.nd rfl (.inr rfl) (pe_call (ok__law_vase T) (hr.mono (by decide)) (by rfl) T._law_vase.g T._law_vase.F.kp T._law_vase.b .nil pass0 (pa_cons (pv 0) pa_nil)))
      (pss_cons (ps_for PassesOwn.never rfl (pi_range1 rfl T.n_range (pa_cons (pe_op op_add pe_int (pe_call (ok__law_fill T) (hr.mono (by decide)) (by rfl) T._law_fill.g T._law_fill.F.kp T._law_fill.b .nil pass0 (pa_cons (pv 1) (pa_cons pe_int pa_nil)))) pa_nil)) (pg_name (i := 2) sc_law.nd rfl (.inl rfl)) (pss_one (ps_if (pt_not (pt_val (pe_callG (ok__law_sums_right T) hg (hr.mono (by decide)) (by rfl) T._law_sums_right.g T._law_sums_right.F.kp T._law_sums_right.b (pa_cons (pv 1) pa_nil)))) (pss_one (ps_ret pe_bl)) pss_nil)))
      (pss_cons (ps_par (i := 3) (j := 4) rfl sc_law.nd rfl rfl (by decide) rfl rfl (pa_cons (pe_call (ok__law_passed T) (hr.mono (by decide)) (by rfl) T._law_passed.g T._law_passed.F.kp T._law_passed.b .nil pass0 (pa_cons (pv 1) (pa_cons (pe_call (ok__law_spot T) (hr.mono (by decide)) (by rfl) T._law_spot.g T._law_spot.F.kp T._law_spot.b .nil pass0 (pa_cons (pv 1) pa_nil)) pa_nil))) (pa_cons (pe_call (ok__law_drawn T) (hr.mono (by decide)) (by rfl) T._law_drawn.g T._law_drawn.F.kp T._law_drawn.b .nil pass0 (pa_cons (pv 1) pa_nil)) pa_nil)) rfl)
      (pss_cons (ps_set (i := 5) sc_law.nd rfl (.inl rfl) (pe_call (ok__law_one_of T) (hr.mono (by decide)) (by rfl) T._law_one_of.g T._law_one_of.F.kp T._law_one_of.b .nil pass0 (pa_cons (pv 1) (pa_cons (pe_lst (pa_cons pe_non (pa_cons pe_bl (pa_cons pe_int (pa_cons pe_str (pa_cons (pe_tup (pa_cons pe_int pa_nil)) (pa_cons (pe_tup (pa_cons pe_int (pa_cons pe_int (pa_cons pe_int pa_nil)))) (pa_cons (pe_tup (pa_cons (pe_tup (pa_cons pe_int (pa_cons pe_int pa_nil))) (pa_cons pe_int pa_nil))) (pa_cons (pe_tup (pa_cons pe_int (pa_cons pe_bl pa_nil))) (pa_cons (pe_lst (pa_cons pe_int (pa_cons pe_non pa_nil))) (pa_cons (pe_disp (pps_cons pe_int pe_int (pps_cons pe_int pe_int pps_nil)) rfl rfl (by simp) (by decide)) (pa_cons (pe_tup pa_nil) pa_nil)))))))))))) pa_nil))))
      (pss_cons (ps_if (pt_cmpR op_notBl (pe_call (ok_is_point T) (hr.mono (by decide)) (by rfl) T.is_point.g T.is_point.F.kp T.is_point.b .nil pass0 (pa_cons (pv 5) pa_nil)) pe_bl (nomark _)) (pss_one (ps_ret pe_bl)) pss_nil)
      (pss_cons (ps_for PassesOwn.never rfl (pi_range1 rfl T.n_range (pa_cons pe_int pa_nil)) (pg_name (i := 6) sc_law.nd rfl (.inl rfl)) (pss_one (ps_if (PW.pt (pw_or (pt_cmpR op_ne (pe_call (ok__law_part T) (hr.mono (by decide)) (by rfl) T._law_part.g T._law_part.F.kp T._law_part.b .nil pass0 (pa_cons (pv 6) (pa_cons (pv 5) (pa_cons (pv 5) pa_nil)))) pe_str (nomark _)) (pw_or (pt_cmpR op_ne (pe_call (ok__law_part T) (hr.mono (by decide)) (by rfl) T._law_part.g T._law_part.F.kp T._law_part.b .nil pass0 (pa_cons (pv 6) (pa_cons (pv 3) (pa_cons (pv 5) pa_nil)))) pe_str (nomark _)) (pw_or1 (pt_cmpR op_notN (pe_call (ok__law_part T) (hr.mono (by decide)) (by rfl) T._law_part.g T._law_part.F.kp T._law_part.b .nil pass0 (pa_cons (pv 6) (pa_cons (pv 3) (pa_cons (pv 3) pa_nil)))) pe_non (nomark _)))))) (pss_one (ps_ret pe_bl)) pss_nil)))
      (pss_cons (ps_set (i := 7) sc_law.nd rfl (.inl rfl) (pe_call (ok__law_one_of T) (hr.mono (by decide)) (by rfl) T._law_one_of.g T._law_one_of.F.kp T._law_one_of.b .nil pass0 (pa_cons (pv 1) (pa_cons (pe_lst (pa_cons pe_non (pa_cons pe_str (pa_cons (pe_tup (pa_cons pe_int (pa_cons pe_int pa_nil))) (pa_cons pe_bl (pa_cons (pe_lst (pa_cons pe_int pa_nil)) (pa_cons (pe_tup (pa_cons pe_int (pa_cons pe_int pa_nil))) pa_nil))))))) pa_nil))))
      (pss_cons (ps_set (i := 8) sc_law.nd rfl (.inl rfl) (pe_lst (pa_cons (pe_call (ok__law_other_part T) (hr.mono (by decide)) (by rfl) T._law_other_part.g T._law_other_part.F.kp T._law_other_part.b .nil pass0 (pa_cons pe_int (pa_cons (pv 5) (pa_cons pe_int pa_nil)))) (pa_cons (pe_call (ok__law_other_part T) (hr.mono (by decide)) (by rfl) T._law_other_part.g T._law_other_part.F.kp T._law_other_part.b .nil pass0 (pa_cons pe_int (pa_cons (pv 5) (pa_cons (pv 7) pa_nil)))) (pa_cons (pe_call (ok__law_other_part T) (hr.mono (by decide)) (by rfl) T._law_other_part.g T._law_other_part.F.kp T._law_other_part.b .nil pass0 (pa_cons pe_int (pa_cons (pv 3) (pa_cons (pv 7) pa_nil)))) (pa_cons (pe_call (ok__law_other_part T) (hr.mono (by decide)) (by rfl) T._law_other_part.g T._law_other_part.F.kp T._law_other_part.b .nil pass0 (pa_cons pe_int (pa_cons (pv 7) (pa_cons (pv 7) pa_nil)))) pa_nil))))))
      (pss_cons (ps_set (i := 8) sc_law.nd rfl (.inl rfl) (pe_op op_cat (pv 8) (pe_lst (pa_cons (pe_call (ok__law_other_part T) (hr.mono (by decide)) (by rfl) T._law_other_part.g T._law_other_part.F.kp T._law_other_part.b .nil pass0 (pa_cons pe_int (pa_cons (pv 4) (pa_cons (pv 7) pa_nil)))) (pa_cons (pe_call (ok__law_other_part T) (hr.mono (by decide)) (by rfl) T._law_other_part.g T._law_other_part.F.kp T._law_other_part.b .nil pass0 (pa_cons pe_int (pa_cons (pv 5) (pa_cons (pv 7) pa_nil)))) (pa_cons (pe_call (ok__law_other_part T) (hr.mono (by decide)) (by rfl) T._law_other_part.g T._law_other_part.F.kp T._law_other_part.b .nil pass0 (pa_cons pe_int (pa_cons (pv 3) (pa_cons (pv 7) pa_nil)))) (pa_cons (pe_call (ok__law_other_part T) (hr.mono (by decide)) (by rfl) T._law_other_part.g T._law_other_part.F.kp T._law_other_part.b .nil pass0 (pa_cons pe_int (pa_cons (pv 3) (pa_cons (pv 4) pa_nil)))) pa_nil)))))))
      (pss_cons (ps_if (pt_cmpR (op_neD hr.units) (pv 8) (pe_lst (pa_cons (pe_tup (pa_cons pe_str (pa_cons pe_str pa_nil))) (pa_cons (pe_tup (pa_cons pe_str (pa_cons pe_str pa_nil))) (pa_cons (pe_tup (pa_cons pe_str (pa_cons pe_str pa_nil))) (pa_cons (pe_tup (pa_cons pe_str (pa_cons pe_str pa_nil))) (pa_cons (pe_tup (pa_cons pe_str (pa_cons pe_str pa_nil))) (pa_cons (pe_tup (pa_cons pe_str (pa_cons pe_str pa_nil))) (pa_cons (pe_tup (pa_cons pe_str (pa_cons pe_str pa_nil))) (pa_cons pe_non pa_nil))))))))) (nomark _)) (pss_one (ps_ret pe_bl)) pss_nil)
      (pss_cons (ps_par (i := 9) (j := 10) rfl sc_law.nd rfl rfl (by decide) rfl rfl (pa_cons (pe_lc (own := [("turn", 2)]) (g := gName 2) (tt := tYes) rfl sc_law.nd (pi_range1 (by rfl) T.n_range (pa_cons (pe_call (ok__law_fill T) (hr.mono (by decide)) (by rfl) T._law_fill.g T._law_fill.F.kp T._law_fill.b .nil pass0 (pa_cons (pv 1) (pa_cons pe_int pa_nil))) pa_nil)) (blkOk_by (N := ["script", "vase", "turn", "good", "number", "bad", "way", "odd", "some", "row", "at"]) (sc := defScope s_law) (by decide +kernel)) (fun _ _ _ _ _ => pg_name (i := 2) sc_law.nd rfl (Or.inl rfl)) (fun _ _ _ _ _ => pts_nil) (fun _ _ _ _ _ => pe_call (ok__law_passed T) (hr.mono (by decide)) (by rfl) T._law_passed.g T._law_passed.F.kp T._law_passed.b .nil pass0 (pa_cons (pv 1) (pa_cons (pe_call (ok__law_spot T) (hr.mono (by decide)) (by rfl) T._law_spot.g T._law_spot.F.kp T._law_spot.b .nil pass0 (pa_cons (pv 1) pa_nil)) pa_nil)))) (pa_cons (pe_call (ok__law_fill T) (hr.mono (by decide)) (by rfl) T._law_fill.g T._law_fill.F.kp T._law_fill.b .nil pass0 (pa_cons (pv 1) (pa_cons pe_int pa_nil))) pa_nil)) rfl)
      (pss_cons (ps_if (PW.pt (pw_or (pt_cmpR op_notBl (pe_call (ok_are_points T) (hr.mono (by decide)) (by rfl) T.are_points.g T.are_points.F.kp T.are_points.b .nil pass0 (pa_cons (pv 9) (pa_cons pe_int (pa_cons pe_int pa_nil)))) pe_bl (nomark _)) (pw_or (pt_cmpR op_notBl (pe_call (ok_are_points T) (hr.mono (by decide)) (by rfl) T.are_points.g T.are_points.F.kp T.are_points.b .nil pass0 (pa_cons (pe_callTy call_tuple_of (by rfl) T.n_tuple bt_tuple (pa_cons (pv 9) pa_nil)) (pa_cons (pe_op op_add (pe_callB call_len_seq (by rfl) T.n_len bt_len (pa_cons (pv 9) pa_nil)) pe_int) (pa_cons pe_int pa_nil)))) pe_bl (nomark _)) (pw_or1 (pt_cmpR op_notBl (pe_call (ok_are_points T) (hr.mono (by decide)) (by rfl) T.are_points.g T.are_points.F.kp T.are_points.b .nil pass0 (pa_cons (pv 9) (pa_cons pe_int (pa_cons (pe_op op_sub (pe_callB call_len_seq (by rfl) T.n_len bt_len (pa_cons (pv 9) pa_nil)) pe_int) pa_nil)))) pe_bl (nomark _)))))) (pss_one (ps_ret pe_bl)) pss_nil)
      (pss_one (ps_ret (pe_and (pe_cmpR op_isBl (pe_callN0 (ok_are_points T) (hr.mono (by decide)) (by rfl) T.are_points.g T.are_points.F.kp (kb_are_points T) pass0 (pk_cons (pe_op op_cat (pe_op op_cat (pe_slice sl_list (pv 9) po_none (po_some (pv 10))) (pe_lst (pa_cons (pv 5) pa_nil))) (pe_slice sl_list (pv 9) (po_some (pv 10)) po_none)) (pk_cons pe_int (pk_cons pe_int pk_nil)))) pe_bl (nomark _)) (pe_and (pe_cmpR op_eq (pe_call (ok_are_points T) (hr.mono (by decide)) (by rfl) T.are_points.g T.are_points.F.kp T.are_points.b .nil pass0 (pa_cons (pv 5) (pa_cons pe_int (pa_cons pe_int pa_nil)))) (pe_cmpR (op_eqB hr.units) (pv 5) (pe_tup pa_nil) (nomark _)) (nomark _)) (pe_one (pe_cmpR op_isBl (pe_call (ok_are_points T) (hr.mono (by decide)) (by rfl) T.are_points.g T.are_points.F.kp T.are_points.b .nil pass0 (pa_cons pe_str (pa_cons pe_int (pa_cons pe_int pa_nil)))) pe_bl (nomark _))))))))))))))))))), ?_⟩
    refine seq_by fun N hN => ?_
    walk_at "vc"
    refine ⟨a, ns, rfl, hS, hl, fun H1 u s1 u1 => ?_⟩
    clear hS s1 hl
    subst hN
    refine seq_by fun N hN => ?_
    refine ⟨_, rfl, u, 4, 899999, rfl, by decide, by decide, u1, fun H2 m b2 u2 m0 m1 => ⟨2, m, rfl, rfl, 2 + m, rfl, by omega, by omega, ?_⟩⟩
    have hm5 : (2 + m).toNat ≤ 5 := by omega
    refine for_range (n := (2 + m).toNat) (fun i σ H' => ∃ y, σ = [some (.ref a), some (.ref u), y, none, none, none, none, none, none, none, none] ∧ Urn H' u (800000 - 100 * i)) ⟨none, rfl, u2.mono (by omega)⟩ ?_ ?_
    · rintro i σ H' hi ⟨y, rfl, ui⟩
      walk_at "vc"
      exact ⟨u, 800000 - 100 * (i + 1), rfl, ui.mono (by omega), fun H3 b3 u3 => ⟨_, rfl, iteF' rfl u3⟩⟩
    · rintro σ H' ⟨y', rfl, ui⟩
      have u0 : Urn H' u 799000 := ui.mono (by omega)
      clear ui hm5 u1 u2 b2 m0 m1
      show N _ _
      subst hN
      refine seq_by fun N hN => ?_
      walk_at "vc"
      refine ⟨u, 798000, rfl, u0.mono (by omega), fun H1 v1 p b1 u1 hp dp => ?_⟩
      refine ⟨u, v1, p, 797000, rfl, hp, ⟨dp.1.1, dp.2.1⟩, u1.mono (by omega), fun H2 good b2 u2 hgood _ => ?_⟩
      refine ⟨u, 796000, rfl, u2.mono (by omega), fun H3 num s b3 u3 hnum ds => ?_⟩
      have hgood := hgood.but b3 u2
      clear b1 b2 b3 u1 u2 hp u0
      have smp : SmP 900 p := ⟨(dn_sm dp.1).up (by decide), (dn_sm dp.2).up (by decide)⟩
      have sms : Sm 900 s := (dn_sm ds).up (by decide)
      have cs := ds.1
      clear dp ds
      subst hN
      refine seq_by fun N hN => ?_
      walk_at "vc"
      refine ⟨by decide, fun p1 hp1 => ?_⟩
      have s1 := same_upd (o := .tup [.int 1]) hp1
      have e1 : upd H3 p1 (.tup [.int 1]) p1 = some (.tup [.int 1]) := upd_same
      generalize upd H3 p1 (.tup [.int 1]) = G1 at *
      refine ⟨by decide, fun p2 hp2 => ?_⟩
      have s2 := same_upd (o := .tup [.int 1, .int 2, .int 3]) hp2
      have e2 : upd G1 p2 (.tup [.int 1, .int 2, .int 3]) p2 = some (.tup [.int 1, .int 2, .int 3]) := upd_same
      generalize upd G1 p2 (.tup [.int 1, .int 2, .int 3]) = G2 at *
      refine ⟨by decide, fun p3 hp3 => ?_⟩
      have s3 := same_upd (o := .tup [.int 2, .int 4]) hp3
      have e3 : upd G2 p3 (.tup [.int 2, .int 4]) p3 = some (.tup [.int 2, .int 4]) := upd_same
      generalize upd G2 p3 (.tup [.int 2, .int 4]) = G3 at *
      refine ⟨by decide, fun p4 hp4 => ?_⟩
      have s4 := same_upd (o := .tup [.ref p3, .int 1]) hp4
      have e4 : upd G3 p4 (.tup [.ref p3, .int 1]) p4 = some (.tup [.ref p3, .int 1]) := upd_same
      generalize upd G3 p4 (.tup [.ref p3, .int 1]) = G4 at *
      refine ⟨by decide, fun p5 hp5 => ?_⟩
      have s5 := same_upd (o := .tup [.int 1, .bl true]) hp5
      have e5 : upd G4 p5 (.tup [.int 1, .bl true]) p5 = some (.tup [.int 1, .bl true]) := upd_same
      generalize upd G4 p5 (.tup [.int 1, .bl true]) = G5 at *
      refine ⟨by decide, fun p6 hp6 => ?_⟩
      have s6 := same_upd (o := .lst [.int 1, .non]) hp6
      have e6 : upd G5 p6 (.lst [.int 1, .non]) p6 = some (.lst [.int 1, .non]) := upd_same
      generalize upd G5 p6 (.lst [.int 1, .non]) = G6 at *
      simp only [tDisp, tPairs, tC]
      refine fun p7 hp7 => ⟨upd_same, [(.inl 0, .int 1), (.inl 1, .int 2)], rfl, by decide, ?_⟩
      have s7 := same_upd2 (o := .dK []) (o' := .dK (mergeK [] [(.inl 0, .int 1), (.inl 1, .int 2)])) hp7
      have e7 : upd (upd G6 p7 (.dK [])) p7 (.dK (mergeK [] [(.inl 0, .int 1), (.inl 1, .int 2)])) p7 = some (.dK (mergeK [] [(.inl 0, .int 1), (.inl 1, .int 2)])) := upd_same
      generalize upd (upd G6 p7 (.dK [])) p7 (.dK (mergeK [] [(.inl 0, .int 1), (.inl 1, .int 2)])) = G7 at *
      refine ⟨by decide, fun p8 hp8 => ?_⟩
      have s8 := same_upd (o := .tup []) hp8
      have e8 : upd G7 p8 (.tup []) p8 = some (.tup []) := upd_same
      generalize upd G7 p8 (.tup []) = G8 at *
      refine ⟨by decide, fun p9 hp9 => ?_⟩
      have s9 := same_upd (o := .lst [.non, .bl true, .int 7, .str "12", .ref p1, .ref p2, .ref p4, .ref p5, .ref p6, .ref p7, .ref p8]) hp9
      have S38 := ((((((s1.trans s2).trans s3).trans s4).trans s5).trans s6).trans s7).trans s8
      have u8 := u3.same S38
      obtain ⟨c8, y8, e8u⟩ := u8.at
      refine ⟨u, p9, _, 795000, rfl, (ne_of_none e8u hp9).symm, upd_same, by simp, by simp, (u8.mono (by omega)).same s9, fun H4 bad b4 u4 hv => ?_⟩
      have u9 := u8.same s9
      obtain ⟨c9, y9, e9u⟩ := u9.at
      have T8 := s9
      have T7 := s8.trans T8
      have T6 := s7.trans T7
      have T5 := s6.trans T6
      have T4 := s5.trans T5
      have T3 := s4.trans T4
      have T2 := s3.trans T3
      have T1 := s2.trans T2
      have hbad : BadV K H4 bad := by
        refine BadV.but b4 e9u ?_
        simp only [List.mem_cons, List.not_mem_nil, or_false] at hv
        rcases hv with rfl | rfl | rfl | rfl | rfl | rfl | rfl | rfl | rfl | rfl | rfl
        · exact .non
        · exact .tru
        · exact .sev
        · exact .str
        · exact .t1 (st_of (T1 _ _ e1))
        · exact .t3 (st_of (T2 _ _ e2))
        · exact .tt (st_of (T4 _ _ e4)) (st_of (T3 _ _ e3))
        · exact .tb (st_of (T5 _ _ e5))
        · exact .ls (sl_of (T6 _ _ e6))
        · exact .dc (T7 _ _ e7)
        · exact .em (st_of (T8 _ _ e8))
      have hgood4 := ((hgood.same S38).same s9).but b4 u9
      have hnum4 := ((hnum.same S38).same s9).but b4 e9u
      clear hgood hnum hv b4 u9 u8 u3 S38 T1 T2 T3 T4 T5 T6 T7 T8 e1 e2 e3 e4 e5 e6 e7 e8 s1 s2 s3 s4 s5 s6 s7 s8 s9 hp1 hp2 hp3 hp4 hp5 hp6 hp7 hp8 hp9 e8u e9u
      subst hN
      refine seq_by fun N hN => ?_
      walk_at "vc"
      refine ⟨bad, rfl, .inr ⟨hbad.p, fun H5 s5 => ?_⟩⟩
      refine ⟨_, rfl, ?_⟩
      rw [if_neg (fun z => z rfl)]
      have hbad5 := hbad.same s5
      have hgood5 := hgood4.same s5
      have hnum5 := hnum4.same s5
      have u5 := u4.same s5
      clear hbad hgood4 hnum4 u4 s5
      subst hN
      refine seq_by fun N hN => ?_
      refine ⟨6, rfl, by decide, by decide, ?_⟩
      refine for_range (n := 6) (fun i σ H' => ∃ y, σ = [some (.ref a), some (.ref u), y', some good, some num, some bad, y, none, none, none, none] ∧ Same H5 H') ⟨none, rfl, fun _ _ e => e⟩ ?_ ?_
      · rintro i σ H6 hi ⟨y, rfl, s6⟩
        have hw : 0 ≤ 0 + (i : Int) ∧ 0 + (i : Int) ≤ 5 := ⟨by omega, by omega⟩
        walk_at "vc"
        refine ⟨0 + (i : Int), bad, bad, rfl, hw, .inr (.inl ⟨hbad5.p.same s6, fun H7 s7 => ⟨rfl, ?_⟩⟩)⟩
        rw [if_neg (fun z => z rfl)]
        refine ⟨0 + (i : Int), good, bad, rfl, hw, .inr (.inr ⟨p, hgood5.same (s6.trans s7), hbad5.p.same (s6.trans s7), fun H8 s8 => ⟨rfl, ?_⟩⟩)⟩
        rw [if_neg (fun z => z rfl)]
        have s68 := (s6.trans s7).trans s8
        refine ⟨0 + (i : Int), good, good, rfl, hw, .inl ⟨p, p, hgood5.same s68, hgood5.same s68, smp, smp, fun H9 s9 => ?_⟩⟩
        exact s68.trans s9
      · rintro σ H6 ⟨y6, rfl, s6⟩
        show N _ _
        have hbad6 := hbad5.same s6
        have hgood6 := hgood5.same s6
        have hnum6 := hnum5.same s6
        have u6 := u5.same s6
        clear hbad5 hgood5 hnum5 u5 s6
        subst hN
        refine seq_by fun N hN => ?_
        walk_at "vc"
        refine ⟨by decide, fun p1 hp1 => ?_⟩
        have s1 := same_upd (o := .tup [.int 2, .int 4]) hp1
        have e1 : upd H6 p1 (.tup [.int 2, .int 4]) p1 = some (.tup [.int 2, .int 4]) := upd_same
        generalize upd H6 p1 (.tup [.int 2, .int 4]) = G1 at *
        refine ⟨by decide, fun p2 hp2 => ?_⟩
        have s2 := same_upd (o := .lst [.int 1]) hp2
        have e2 : upd G1 p2 (.lst [.int 1]) p2 = some (.lst [.int 1]) := upd_same
        generalize upd G1 p2 (.lst [.int 1]) = G2 at *
        refine ⟨by decide, fun p3 hp3 => ?_⟩
        have s3 := same_upd (o := .tup [.int 1, .int 0]) hp3
        have e3 : upd G2 p3 (.tup [.int 1, .int 0]) p3 = some (.tup [.int 1, .int 0]) := upd_same
        generalize upd G2 p3 (.tup [.int 1, .int 0]) = G3 at *
        refine ⟨by decide, fun p4 hp4 => ?_⟩
        have s4 := same_upd (o := .lst [.non, .str "1", .ref p1, .bl true, .ref p2, .ref p3]) hp4
        have S3 := (s1.trans s2).trans s3
        obtain ⟨c8, y8, e8u⟩ := (u6.same S3).at
        have u7 := (u6.same S3).same s4
        refine ⟨u, p4, _, 794000, rfl, (ne_of_none e8u hp4).symm, upd_same, by simp, by simp, u7.mono (by omega), fun H7 odd b7 u8 hv => ?_⟩
        obtain ⟨c9, y9, e9u⟩ := u7.at
        have hodd : Bad K H7 odd := by
          simp only [List.mem_cons, List.not_mem_nil, or_false] at hv
          rcases hv with rfl | rfl | rfl | rfl | rfl | rfl
          · exact .scal .non (by decide) (by decide) (by decide)
          · exact .scal (.str _) (by decide) (by decide) (by decide)
          · exact .low (.inr (b7.tup e9u (st_of (s4 _ _ (s3 _ _ (s2 _ _ e1)))))) (by rintro ⟨_, z⟩; exact absurd z (by decide))
          · exact .scal (.bl true) (by decide) (by decide) (by decide)
          · exact .len (.inl (b7.lst e9u (by intro z; cases z) (sl_of (s4 _ _ (s3 _ _ e2))))) (by decide)
          · exact .low (.inr (b7.tup e9u (st_of (s4 _ _ e3)))) (by rintro ⟨z, _⟩; exact absurd z (by decide))
        have S4 := S3.trans s4
        have hbad7 := (hbad6.same S4).but b7 e9u
        have hgood7 := (hgood6.same S4).but b7 u7
        have hnum7 := (hnum6.same S4).but b7 e9u
        clear hbad6 hgood6 hnum6 u6 u7 hv b7 S3 S4 s1 s2 s3 s4 e1 e2 e3 hp1 hp2 hp3 hp4 e8u e9u
        subst hN
        refine seq_by fun N hN => ?_
        walk_at "vc"
        have cg : CanonP p := hgood7.canon
        refine ⟨0, bad, .int 0, rfl, .inl ⟨rfl, hbad7.p, fun H8 q1 s8 e1 => ?_⟩⟩
        refine ⟨1, bad, odd, rfl, .inr (.inl ⟨rfl, hbad7.p.same s8, fun H9 q2 s9 e2 => ?_⟩)⟩
        have s79 := s8.trans s9
        refine ⟨1, good, odd, rfl, .inr (.inr (.inl ⟨rfl, p, hgood7.same s79, hodd.same s79, fun H10 q3 s10 e3 => ?_⟩))⟩
        have s710 := s79.trans s10
        refine ⟨2, odd, odd, rfl, .inr (.inr (.inr (.inl ⟨rfl, hodd.same s710, fun H11 q4 s11 e4 => ⟨by decide, fun l1 hl1 => ?_⟩⟩)))⟩
        have s12 := same_upd (o := .lst [.ref q1, .ref q2, .ref q3, .ref q4]) hl1
        have el1 : upd H11 l1 (.lst [.ref q1, .ref q2, .ref q3, .ref q4]) l1 = some (.lst [.ref q1, .ref q2, .ref q3, .ref q4]) := upd_same
        generalize upd H11 l1 (.lst [.ref q1, .ref q2, .ref q3, .ref q4]) = H12 at *
        have s712 := (s710.trans s11).trans s12
        have f1 := ((s9.trans s10).trans (s11.trans s12)) _ _ e1
        have f2 := (s10.trans (s11.trans s12)) _ _ e2
        have f3 := (s11.trans s12) _ _ e3
        have f4 := s12 _ _ e4
        have hbad12 := hbad7.same s712
        have hgood12 := hgood7.same s712
        have hodd12 := hodd.same s712
        have hnum12 := hnum7.same s712
        have u12 := u8.same s712
        clear hbad7 hgood7 hodd hnum7 u8 s712 s710 s79 s8 s9 s10 s11 s12 e1 e2 e3 e4 hl1
        subst hN
        refine seq_by fun N hN => ?_
        walk_at "vc"
        refine ⟨2, num, odd, rfl, .inr (.inr (.inr (.inr (.inl ⟨rfl, s, hnum12.num cs, hodd12, fun H13 q5 s13 e5 => ?_⟩))))⟩
        refine ⟨3, bad, odd, rfl, .inr (.inr (.inr (.inr (.inr (.inl ⟨rfl, hbad12.p.same s13, fun H14 q6 s14 e6 => ?_⟩)))))⟩
        have s1214 := s13.trans s14
        refine ⟨3, good, odd, rfl, .inr (.inr (.inr (.inr (.inr (.inr (.inl ⟨rfl, p, hgood12.same s1214, smp, hodd12.same s1214, fun H15 q7 s15 e7 => ?_⟩))))))⟩
        have s1215 := s1214.trans s15
        refine ⟨1, good, num, rfl, .inr (.inr (.inr (.inr (.inr (.inr (.inr ⟨rfl, p, s, hgood12.same s1215, (hnum12.same s1215).num cs, smp, sms, fun H16 s16 => ⟨by decide, fun l2 hl2 => ?_⟩⟩))))))⟩
        have s17 := same_upd (o := .lst [.ref q5, .ref q6, .ref q7, .non]) hl2
        have el2 : upd H16 l2 (.lst [.ref q5, .ref q6, .ref q7, .non]) l2 = some (.lst [.ref q5, .ref q6, .ref q7, .non]) := upd_same
        generalize upd H16 l2 (.lst [.ref q5, .ref q6, .ref q7, .non]) = H17 at *
        have s1217 := (s1215.trans s16).trans s17
        refine ⟨l1, l2, _, _, rfl, rfl, s1217 _ _ el1, el2, by simp [sizeLine], fun l3 hl3 => ?_⟩
        have s18 := same_upd (o := .lst ([.ref q1, .ref q2, .ref q3, .ref q4] ++ [.ref q5, .ref q6, .ref q7, .non])) hl3
        have el3 : upd H17 l3 (.lst ([.ref q1, .ref q2, .ref q3, .ref q4] ++ [.ref q5, .ref q6, .ref q7, .non])) l3 = some (.lst [.ref q1, .ref q2, .ref q3, .ref q4, .ref q5, .ref q6, .ref q7, .non]) := upd_same
        generalize upd H17 l3 (.lst ([.ref q1, .ref q2, .ref q3, .ref q4] ++ [.ref q5, .ref q6, .ref q7, .non])) = H18 at *
        have s1218 := s1217.trans s18
        have dsome : Dp K H18 (.ref l3) dSome := dp_some el3 (s1218 _ _ f1) (s1218 _ _ f2) (s1218 _ _ f3) (s1218 _ _ f4) (((s14.trans s15).trans ((s16.trans s17).trans s18)) _ _ e5) ((s15.trans ((s16.trans s17).trans s18)) _ _ e6) (((s16.trans s17).trans s18) _ _ e7)
        have el3' := el3
        have g1 := s1218 _ _ f1
        have g2 := s1218 _ _ f2
        have g3 := s1218 _ _ f3
        have g4 := s1218 _ _ f4
        have g5 := ((s14.trans s15).trans ((s16.trans s17).trans s18)) _ _ e5
        have g6 := (s15.trans ((s16.trans s17).trans s18)) _ _ e6
        have g7 := ((s16.trans s17).trans s18) _ _ e7
        have hbad18 := hbad12.same s1218
        have hgood18 := hgood12.same s1218
        have u18 := u12.same s1218
        clear hbad12 hgood12 hodd12 hnum12 u12 s1218 s1217 s1215 s1214 s13 s14 s15 s16 s17 s18 f1 f2 f3 f4 e5 e6 e7 el1 el2 el3 hl2 hl3 dsome
        subst hN
        refine seq_by fun N hN => ?_
        walk_at "vc"
        refine ⟨by decide, fun p1 hp1 => ?_⟩
        have s1 := same_upd (o := .tup [.str "point", .str "vector"]) hp1
        have e1 : upd H18 p1 (.tup [.str "point", .str "vector"]) p1 = some (.tup [.str "point", .str "vector"]) := upd_same
        generalize upd H18 p1 (.tup [.str "point", .str "vector"]) = G1 at *
        refine ⟨by decide, fun p2 hp2 => ?_⟩
        have s2 := same_upd (o := .tup [.str "point", .str "vector"]) hp2
        have e2 : upd G1 p2 (.tup [.str "point", .str "vector"]) p2 = some (.tup [.str "point", .str "vector"]) := upd_same
        generalize upd G1 p2 (.tup [.str "point", .str "vector"]) = G2 at *
        refine ⟨by decide, fun p3 hp3 => ?_⟩
        have s3 := same_upd (o := .tup [.str "number", .str "factor"]) hp3
        have e3 : upd G2 p3 (.tup [.str "number", .str "factor"]) p3 = some (.tup [.str "number", .str "factor"]) := upd_same
        generalize upd G2 p3 (.tup [.str "number", .str "factor"]) = G3 at *
        refine ⟨by decide, fun p4 hp4 => ?_⟩
        have s4 := same_upd (o := .tup [.str "number", .str "x"]) hp4
        have e4 : upd G3 p4 (.tup [.str "number", .str "x"]) p4 = some (.tup [.str "number", .str "x"]) := upd_same
        generalize upd G3 p4 (.tup [.str "number", .str "x"]) = G4 at *
        refine ⟨by decide, fun p5 hp5 => ?_⟩
        have s5 := same_upd (o := .tup [.str "number", .str "y"]) hp5
        have e5 : upd G4 p5 (.tup [.str "number", .str "y"]) p5 = some (.tup [.str "number", .str "y"]) := upd_same
        generalize upd G4 p5 (.tup [.str "number", .str "y"]) = G5 at *
        refine ⟨by decide, fun p6 hp6 => ?_⟩
        have s6 := same_upd (o := .tup [.str "point", .str "other"]) hp6
        have e6 : upd G5 p6 (.tup [.str "point", .str "other"]) p6 = some (.tup [.str "point", .str "other"]) := upd_same
        generalize upd G5 p6 (.tup [.str "point", .str "other"]) = G6 at *
        refine ⟨by decide, fun p7 hp7 => ?_⟩
        have s7 := same_upd (o := .tup [.str "number", .str "share"]) hp7
        have e7 : upd G6 p7 (.tup [.str "number", .str "share"]) p7 = some (.tup [.str "number", .str "share"]) := upd_same
        generalize upd G6 p7 (.tup [.str "number", .str "share"]) = G7 at *
        refine ⟨by decide, fun p8 hp8 => ?_⟩
        have s8 := same_upd (o := .lst [.ref p1, .ref p2, .ref p3, .ref p4, .ref p5, .ref p6, .ref p7, .non]) hp8
        have T7 := s8
        have T6 := s7.trans T7
        have T5 := s6.trans T6
        have T4 := s5.trans T5
        have T3 := s4.trans T4
        have T2 := s3.trans T3
        have T1 := s2.trans T2
        have T0 := s1.trans T1
        refine ⟨dSome, dSome, dp_some (T0 _ _ el3') (T0 _ _ g1) (T0 _ _ g2) (T0 _ _ g3) (T0 _ _ g4) (T0 _ _ g5) (T0 _ _ g6) (T0 _ _ g7), dp_some upd_same (T1 _ _ e1) (T2 _ _ e2) (T3 _ _ e3) (T4 _ _ e4) (T5 _ _ e5) (T6 _ _ e6) (T7 _ _ e7), sh_some, sh_some, ?_⟩
        rw [eqv_some]
        refine ⟨_, rfl, iteB ?_⟩
        have hbad19 := hbad18.same T0
        have hgood19 := hgood18.same T0
        have u19 := u18.same T0
        generalize upd G7 p8 (.lst [.ref p1, .ref p2, .ref p3, .ref p4, .ref p5, .ref p6, .ref p7, .non]) = H19 at *
        clear hbad18 hgood18 u18 T0 T1 T2 T3 T4 T5 T6 T7 s1 s2 s3 s4 s5 s6 s7 s8 e1 e2 e3 e4 e5 e6 e7 g1 g2 g3 g4 g5 g6 g7 el3' hp1 hp2 hp3 hp4 hp5 hp6 hp7 hp8
        subst hN
        refine seq_by fun N hN => ?_
        walk_at "vc"
        refine ⟨_, rfl, u, 5, 788000, rfl, by decide, by decide, u19.mono (by omega), fun H20 n b20 u20 n0 n1 => ⟨n, rfl, by omega, by omega, fun D hD => ?_⟩⟩
        have hbad20 : BadV K H20 bad := by
          obtain ⟨c9, y9, e9u⟩ := u19.at
          exact hbad19.but b20 e9u
        obtain ⟨c0, z0, e0⟩ := u20.at
        have nDu : D ≠ u := (ne_of_none e0 hD).symm
        have sD := same_upd (o := .lst []) hD
        clear hgood19 hbad19 u19 b20
        refine lc_range (lo := 0) (n := n.toNat) (fun i H3 => But u H20 H3 ∧ Urn H3 u (700000 + 100 * (5 - i)) ∧ ∃ xs, H3 D = some (.lst xs) ∧ xs.length = i ∧ Row K D H3 xs) ⟨same_but sD, (u20.same sD).mono (by omega), [], upd_same, rfl, fun x hx => absurd hx (by simp)⟩ ?_ ?_
        · rintro i H3 hi ⟨b3, u3, xs, e3, hl3, hr3⟩
          refine ⟨rfl, ?_⟩
          simp only [tYes, if_true]
          walk_at "vc"
          refine ⟨.ref u, rfl, .ref u, rfl, u, 700000 + 100 * (5 - (i + 1)) + 50, rfl, u3.mono (by omega), fun H4 v4 p4 b4 u4 h4 d4 => ?_⟩
          refine ⟨u, v4, p4, 700000 + 100 * (5 - (i + 1)), rfl, h4, ⟨d4.1.1, d4.2.1⟩, u4.mono (by omega), fun H5 z b5 u5 hz hzn => ?_⟩
          have e4 := b4.1 _ nDu _ e3
          have e5 := b5.1 _ nDu _ e4
          have r5 := (hr3.but b4 u3).but b5 u4
          refine ⟨xs, e5, small1000 (by omega), ((b3.trans b4).trans b5).off hD nDu, Urn.off u20 ((b3.trans b4).trans b5) hD u5, _, upd_same, by rw [List.length_append]; simp [hl3], ?_⟩
          intro x hx
          rcases List.mem_append.mp hx with hx | hx
          · exact Row.grow e5 r5.noint r5 x hx
          · obtain rfl := List.mem_singleton.mp hx
            obtain ⟨c, y, w', rfl, h1, h2, h3⟩ := hz
            have ncD : c ≠ D := fun z => by
              have := hzn c rfl
              rw [z, e4] at this
              cases this
            exact ⟨c, y, w', p4, rfl, ncD, sq_off ncD h1, h2.grow2 e5 r5.noint, h3.grow2 e5 r5.noint⟩
        · rintro H3 ⟨b3, u3, xs, e3, hl3, hr3⟩
          refine ⟨u, 6, 600000, rfl, by decide, by decide, u3.mono (by omega), fun H4 k b4 u4 k0 k1 => ?_⟩
          have e4 := b4.1 _ nDu _ e3
          have r4 := hr3.but b4 u3
          have hbad4 : BadV K H4 bad := by
            obtain ⟨c3, z3, e3u⟩ := u3.at
            exact (hbad20.but b3 e0).but b4 e3u
          have hlx : xs.length ≤ 4 := by omega
          clear hbad20 b3 u3 e3 hl3 hr3 b4 u4 sD e0 u20 hD
          subst hN
          refine seq_by fun N hN => ?_
          walk_at "vc"
          refine ⟨.ref D, 0, 4, rfl, .inr (.inr ⟨D, xs, _, rfl, .inl (sl_of e4), ⟨by omega, by omega⟩, by omega, r4.judg, fun H5 s5 => ⟨_, rfl, ?_⟩⟩)⟩
          rw [all_rep, if_neg (fun z => z rfl)]
          have e5 := s5 _ _ e4
          refine ⟨xs, .inl ⟨sl_of e5, fun l hl => ?_⟩⟩
          have sl := same_upd (o := .tup xs) hl
          refine ⟨xs, .inl (sl_of (sl _ _ e5)), ?_⟩
          refine ⟨.ref l, _, 9, rfl, .inr (.inl ⟨l, xs, rfl, .inr (st_of upd_same), by omega, fun H6 s6 => ⟨_, rfl, ?_⟩⟩)⟩
          rw [if_neg (fun z => z rfl)]
          have e6 := s6 _ _ (sl _ _ e5)
          refine ⟨xs, .inl (sl_of e6), .ref D, 0, _, rfl, .inr (.inl ⟨D, xs, rfl, .inl (sl_of e6), by omega, fun H7 s7 => ⟨_, rfl, ?_⟩⟩)⟩
          rw [if_neg (fun z => z rfl)]
          have s47 := ((s5.trans sl).trans s6).trans s7
          have e7 := s7 _ _ e6
          have r7 := r4.same s47
          have hbad7 := hbad4.same s47
          clear s47 s7 s6 s5 sl hl e4 e5 e6 r4 hbad4
          subst hN
          walk_at "vc"
          refine ⟨_, rfl, .int k, rfl, k, rfl, D, xs, rfl, sl_of e7, fun c1 hc1 => ?_⟩
          have t1 := same_upd (o := .lst (cutV xs none (some k))) hc1
          have g1 : upd H7 c1 (.lst (cutV xs none (some k))) c1 = some (.lst (cutV xs none (some k))) := upd_same
          generalize upd H7 c1 (.lst (cutV xs none (some k))) = G1 at *
          refine ⟨by decide, fun c2 hc2 => ?_⟩
          have t2 := same_upd (o := .lst [bad]) hc2
          have g2 : upd G1 c2 (.lst [bad]) c2 = some (.lst [bad]) := upd_same
          generalize upd G1 c2 (.lst [bad]) = G2 at *
          have l1 : (cutV xs none (some k)).length ≤ 4 := Nat.le_trans cut_len hlx
          have l2 : (cutV xs (some k) none).length ≤ 4 := Nat.le_trans cut_len hlx
          refine ⟨c1, c2, _, _, rfl, rfl, t2 _ _ g1, g2, Nat.le_of_lt (small1000 (by simp; omega)), fun c3 hc3 => ?_⟩
          have t3 := same_upd (o := .lst (cutV xs none (some k) ++ [bad])) hc3
          have g3 : upd G2 c3 (.lst (cutV xs none (some k) ++ [bad])) c3 = some (.lst (cutV xs none (some k) ++ [bad])) := upd_same
          generalize upd G2 c3 (.lst (cutV xs none (some k) ++ [bad])) = G3 at *
          refine ⟨_, rfl, .int k, rfl, k, rfl, D, xs, rfl, sl_of (t3 _ _ (t2 _ _ (t1 _ _ e7))), fun c4 hc4 => ?_⟩
          have t4 := same_upd (o := .lst (cutV xs (some k) none)) hc4
          have g4 : upd G3 c4 (.lst (cutV xs (some k) none)) c4 = some (.lst (cutV xs (some k) none)) := upd_same
          generalize upd G3 c4 (.lst (cutV xs (some k) none)) = G4 at *
          refine ⟨c3, c4, _, _, rfl, rfl, t4 _ _ g3, g4, Nat.le_of_lt (small1000 (by simp; omega)), fun c5 hc5 => ?_⟩
          have t5 := same_upd (o := .lst ((cutV xs none (some k) ++ [bad]) ++ cutV xs (some k) none)) hc5
          have g5 : upd G4 c5 (.lst ((cutV xs none (some k) ++ [bad]) ++ cutV xs (some k) none)) c5 = some (.lst ((cutV xs none (some k) ++ [bad]) ++ cutV xs (some k) none)) := upd_same
          generalize upd G4 c5 (.lst ((cutV xs none (some k) ++ [bad]) ++ cutV xs (some k) none)) = G5 at *
          have t15 := (((t1.trans t2).trans t3).trans t4).trans t5
          have hbad8 := hbad7.same t15
          have r8 := r7.same t15
          obtain ⟨bs, hj, hall⟩ := judg_mid (D := D) (ys := cutV xs (some k) none) hbad8.p (fun x hx => r8 x (cut_mem hx)) (xs := cutV xs none (some k)) (fun x hx => r8 x (cut_mem hx))
          refine ⟨.ref c5, 0, 9, rfl, .inr (.inr ⟨c5, _, bs, rfl, .inl (sl_of g5), ⟨by omega, by simp; omega⟩, by simp; omega, hj, fun H8 s8 => ⟨_, rfl, ?_⟩⟩)⟩
          rw [hall, if_pos rfl]
          obtain ⟨b, hb1, hb2⟩ := (hbad8.same s8).last
          refine hb1 _ _ fun H9 s9 => ⟨by decide, fun c6 hc6 => ?_⟩
          have s10 := same_upd (o := .tup []) hc6
          refine hb2 _ _ _ (s9.trans s10) (st_of upd_same) ⟨rfl, ?_⟩
          rw [if_pos rfl]
          exact ⟨_, 0, 3, rfl, .inl ⟨_, .str _, by decide, by decide, fun H11 s11 => ⟨_, rfl, q _⟩⟩⟩
end
end Odd
namespace Odd
open PySem PySem.Spec PyProof.Rows L2
theorem exm_self {K : PySem.W.Frag} {S : Addr} (h1 : PySem.W.subIn K (.ref S) (.type "BaseException") = some true) (h2 : PySem.W.isClsIn K S = true) (h3 : PySem.W.typeIn K (.ref S) = some (.type "type")) (h4 : PySem.W.subIn K (.ref S) (.ref S) = some true) :
    PySem.W.exmOne K (.ref S) (.ref S) = some true := by
  have e1 : (PySem.W.subIn K (.ref S) (.type "BaseException") == some true) = true := by rw [h1] <;> rfl
  have e2 : ((PySem.W.clsIn K S).isSome && PySem.W.typeIn K (.ref S) == some (.type "type")) = true := by
    have h2' : (PySem.W.clsIn K S).isSome = true := h2
    rw [h2', h3] <;> rfl
  show (if (PySem.W.subIn K (.ref S) (.type "BaseException") == some true) = true then (if ((PySem.W.clsIn K S).isSome && PySem.W.typeIn K (.ref S) == some (.type "type")) = true then PySem.W.subIn K (.ref S) (.ref S) else none) else none) = some true
  rw [if_pos e1, if_pos e2]
  exact h4
theorem exm_of {K : PySem.W.Frag} {S C : Addr} {b : Bool} (h1 : PySem.W.subIn K (.ref C) (.type "BaseException") = some true) (h2 : PySem.W.isClsIn K C = true) (h3 : PySem.W.typeIn K (.ref C) = some (.type "type")) (h4 : PySem.W.subIn K (.ref S) (.ref C) = some b) :
    PySem.W.exmOne K (.ref S) (.ref C) = some b := by
  have e1 : (PySem.W.subIn K (.ref C) (.type "BaseException") == some true) = true := by rw [h1] <;> rfl
  have e2 : ((PySem.W.clsIn K C).isSome && PySem.W.typeIn K (.ref C) == some (.type "type")) = true := by
    have h2' : (PySem.W.clsIn K C).isSome = true := h2
    rw [h2', h3] <;> rfl
  show (if (PySem.W.subIn K (.ref C) (.type "BaseException") == some true) = true then (if ((PySem.W.clsIn K C).isSome && PySem.W.typeIn K (.ref C) == some (.type "type")) = true then PySem.W.subIn K (.ref S) (.ref C) else none) else none) = some b
  rw [if_pos e1, if_pos e2]
  exact h4
theorem low_two {K : PySem.W.Frag} {h : Heap} {mg : Str → Option Value} {nxX qnX nxY qnY : Str} (X : K.In h) (G : h.Ns mainGlobals mg)
    {CX f1X NX COX : Addr} {nmX qX : Str} {bsX : List Value} {snX : List Str} {subX : List Value} {abX : Bool} {colX : Option Bool} {ddX : Option Addr} {m0X m1X m2X m3X m5X : Option Value} {p1X p2X q1X q2X q3X q4X : Pos}
    {od1X an1X : Option Addr} {sl1X : Array (Option Value)} {oc1X dc1X pm1X cd1X ct1X : Value}
    (aCX : PySem.W.nsIn K mainGlobals nxX = some (some (.ref CX)))
    (xLX : K.lookup CX = some (excClassObj nmX qX CX NX bsX [.ref COX, .type "ValueError", .type "Exception", .type "BaseException", .type "object"] true snX subX abX colX ddX m0X m1X m2X m3X m5X "ValueError.__new__"))
    (saX : PySem.W.findIn K (.ref CX) "__setattr__" = some (some (.builtin "object.__setattr__"))) (gaX : PySem.W.findIn K (.ref CX) "__getattribute__" = some (some (.builtin "BaseException.__getattribute__"))) (ggX : PySem.W.findIn K (.ref CX) "__getattr__" = some none) (nbX : PySem.W.findIn K (.ref CX) "part" = some none)
    (a1X : PySem.W.findIn K (.ref CX) "__init__" = some (some (.ref f1X))) (t1X : PySem.W.typeIn K (.ref f1X) = some (.type "function"))
    (l1X : K.lookup f1X = some ⟨oc1X, od1X, .func (PySem.W.fnOf "__init__" qnX (PySem.LowX.iA p1X p2X) (PySem.LowX.iB q1X q2X q3X q4X) PySem.LowX.iS .none .none dc1X pm1X an1X cd1X ct1X), sl1X⟩) (c1X : PySem.W.codeIn K cd1X qnX = true)
    (kCX : PySem.W.keepIn K (.ref CX) = true) (eCX : PySem.W.subIn K (.ref CX) (.type "BaseException") = some true) (tCX : PySem.W.typeIn K (.ref CX) = some (.type "type")) (hCX : PySem.W.hasDictIn K CX = true) (iCX : PySem.W.isClsIn K CX = true) (sCX : PySem.W.subIn K (.ref CX) (.ref CX) = some true)
    {CY f1Y NY COY : Addr} {nmY qY : Str} {bsY : List Value} {snY : List Str} {subY : List Value} {abY : Bool} {colY : Option Bool} {ddY : Option Addr} {m0Y m1Y m2Y m3Y m5Y : Option Value} {p1Y p2Y q1Y q2Y q3Y q4Y : Pos}
    {od1Y an1Y : Option Addr} {sl1Y : Array (Option Value)} {oc1Y dc1Y pm1Y cd1Y ct1Y : Value}
    (aCY : PySem.W.nsIn K mainGlobals nxY = some (some (.ref CY)))
    (xLY : K.lookup CY = some (excClassObj nmY qY CY NY bsY [.ref COY, .type "ValueError", .type "Exception", .type "BaseException", .type "object"] true snY subY abY colY ddY m0Y m1Y m2Y m3Y m5Y "ValueError.__new__"))
    (saY : PySem.W.findIn K (.ref CY) "__setattr__" = some (some (.builtin "object.__setattr__"))) (gaY : PySem.W.findIn K (.ref CY) "__getattribute__" = some (some (.builtin "BaseException.__getattribute__"))) (ggY : PySem.W.findIn K (.ref CY) "__getattr__" = some none) (nbY : PySem.W.findIn K (.ref CY) "part" = some none)
    (a1Y : PySem.W.findIn K (.ref CY) "__init__" = some (some (.ref f1Y))) (t1Y : PySem.W.typeIn K (.ref f1Y) = some (.type "function"))
    (l1Y : K.lookup f1Y = some ⟨oc1Y, od1Y, .func (PySem.W.fnOf "__init__" qnY (PySem.LowX.iA p1Y p2Y) (PySem.LowX.iB q1Y q2Y q3Y q4Y) PySem.LowX.iS .none .none dc1Y pm1Y an1Y cd1Y ct1Y), sl1Y⟩) (c1Y : PySem.W.codeIn K cd1Y qnY = true)
    (kCY : PySem.W.keepIn K (.ref CY) = true) (eCY : PySem.W.subIn K (.ref CY) (.type "BaseException") = some true) (tCY : PySem.W.typeIn K (.ref CY) = some (.type "type")) (hCY : PySem.W.hasDictIn K CY = true) (iCY : PySem.W.isClsIn K CY = true) (sCY : PySem.W.subIn K (.ref CY) (.ref CY) = some true)
    (sXY : PySem.W.subIn K (.ref CX) (.ref CY) = some false) :
    ∃ C fI C' fI', PySem.LowX.LowTxt nxX qnX K mg C fI ∧ PySem.LowX.LowTxt nxY qnY K mg C' fI' ∧ PySem.W.exmOne K (.ref C) (.ref C') = some false :=
  ⟨CX, f1X, CY, f1Y, { gC := PySem.W.mg_of X G aCX, cls := ⟨nmX, qX, NX, bsX, _, snX, subX, abX, colX, ddX, m0X, m1X, m2X, m3X, m5X, xLX, (show PySem.HandSPX.refsVE [.type "ValueError", .type "Exception", .type "BaseException", .type "object"] = true by decide +kernel)⟩, sa := saX, ga := gaX, gg := ggX, noN := nbX, iC := a1X, tC := t1X, kC := kCX, exC := eCX, tyC := tCX, hdC := hCX, te := exm_self eCX iCX tCX sCX, fn := ⟨_, _, _, _, _, _, _, _, _, _, _, _, _, _, l1X, c1X⟩ },
    { gC := PySem.W.mg_of X G aCY, cls := ⟨nmY, qY, NY, bsY, _, snY, subY, abY, colY, ddY, m0Y, m1Y, m2Y, m3Y, m5Y, xLY, (show PySem.HandSPX.refsVE [.type "ValueError", .type "Exception", .type "BaseException", .type "object"] = true by decide +kernel)⟩, sa := saY, ga := gaY, gg := ggY, noN := nbY, iC := a1Y, tC := t1Y, kC := kCY, exC := eCY, tyC := tCY, hdC := hCY, te := exm_self eCY iCY tCY sCY, fn := ⟨_, _, _, _, _, _, _, _, _, _, _, _, _, _, l1Y, c1Y⟩ }, exm_of eCY iCY tCY sXY⟩
theorem def_mk {K : PySem.W.Frag} {h : Heap} {mg : Str → Option Value} {x : Str} {st : Stmt} {ps : List Str} (X : K.In h) (G : h.Ns mainGlobals mg)
    (b : ∀ (kV doc pm : Value) (an : Option Addr) (cdv ct : Value) (us : List Value), us.length = ps.length → bindArgs (PySem.W.fnOf x x (defArgs st) (defBody st) (defScope st) .none kV doc pm an cdv ct) ⟨us, []⟩ = pure (ps.zip us))
    {f : Addr} {od an : Option Addr} {sl : Array (Option Value)} {oc kV dc pm cd ct : Value}
    (a : PySem.W.nsIn K mainGlobals x = some (some (.ref f))) (l : K.lookup f = some ⟨oc, od, .func (PySem.W.fnOf x x (defArgs st) (defBody st) (defScope st) .none kV dc pm an cd ct), sl⟩) (c : PySem.W.codeIn K cd x = true) (k : PySem.W.keepIn K (.ref f) = true) :
    ∃ f fd, DefOk K mg x st f fd ps := ⟨f, _, PySem.W.mg_of X G a, fun_mk l c k, (fun_mk l c k).binds b⟩
theorem low_mk {K : PySem.W.Frag} {h : Heap} {mg : Str → Option Value} {nx qn : Str} (X : K.In h) (G : h.Ns mainGlobals mg)
    {C f1 N CO : Addr} {nm q : Str} {bs : List Value} {sn : List Str} {sub : List Value} {ab : Bool} {col : Option Bool} {dd : Option Addr} {m0 m1 m2 m3 m5 : Option Value} {p1 p2 q1 q2 q3 q4 : Pos}
    {od1 an1 : Option Addr} {sl1 : Array (Option Value)} {oc1 dc1 pm1 cd1 ct1 : Value}
    (aC : PySem.W.nsIn K mainGlobals nx = some (some (.ref C)))
    (xL : K.lookup C = some (excClassObj nm q C N bs [.ref CO, .type "ValueError", .type "Exception", .type "BaseException", .type "object"] true sn sub ab col dd m0 m1 m2 m3 m5 "ValueError.__new__"))
    (sa : PySem.W.findIn K (.ref C) "__setattr__" = some (some (.builtin "object.__setattr__"))) (ga : PySem.W.findIn K (.ref C) "__getattribute__" = some (some (.builtin "BaseException.__getattribute__"))) (gg : PySem.W.findIn K (.ref C) "__getattr__" = some none) (nb : PySem.W.findIn K (.ref C) "part" = some none)
    (a1 : PySem.W.findIn K (.ref C) "__init__" = some (some (.ref f1))) (t1 : PySem.W.typeIn K (.ref f1) = some (.type "function"))
    (l1 : K.lookup f1 = some ⟨oc1, od1, .func (PySem.W.fnOf "__init__" qn (PySem.LowX.iA p1 p2) (PySem.LowX.iB q1 q2 q3 q4) PySem.LowX.iS .none .none dc1 pm1 an1 cd1 ct1), sl1⟩) (c1 : PySem.W.codeIn K cd1 qn = true)
    (kC : PySem.W.keepIn K (.ref C) = true) (eC : PySem.W.subIn K (.ref C) (.type "BaseException") = some true) (tC : PySem.W.typeIn K (.ref C) = some (.type "type")) (hC : PySem.W.hasDictIn K C = true) (iC : PySem.W.isClsIn K C = true) (sC : PySem.W.subIn K (.ref C) (.ref C) = some true) :
    ∃ C fI, PySem.LowX.LowTxt nx qn K mg C fI :=
  ⟨C, f1, { gC := PySem.W.mg_of X G aC, cls := ⟨nm, q, N, bs, _, sn, sub, ab, col, dd, m0, m1, m2, m3, m5, xL, (show PySem.HandSPX.refsVE [.type "ValueError", .type "Exception", .type "BaseException", .type "object"] = true by decide +kernel)⟩, sa := sa, ga := ga, gg := gg, noN := nb, iC := a1, tC := t1, kC := kC, exC := eC, tyC := tC, hdC := hC, te := exm_self eC iC tC sC, fn := ⟨_, _, _, _, _, _, _, _, _, _, _, _, _, _, l1, c1⟩ }⟩
theorem bi_lowest : ∀ (kV doc pm : Value) (an : Option Addr) (cdv ct : Value) (us : List Value), us.length = (["top", "under"] : List Str).length → bindArgs (PySem.W.fnOf "lowest" "lowest" (defArgs s_lowest) (defBody s_lowest) (defScope s_lowest) .none kV doc pm an cdv ct) ⟨us, []⟩ = pure ((["top", "under"] : List Str).zip us) := fun _ _ _ _ _ _ us hl => match us, hl with | [_, _], _ => rfl
theorem bi_pair_of : ∀ (kV doc pm : Value) (an : Option Addr) (cdv ct : Value) (us : List Value), us.length = (["value"] : List Str).length → bindArgs (PySem.W.fnOf "pair_of" "pair_of" (defArgs s_pair_of) (defBody s_pair_of) (defScope s_pair_of) .none kV doc pm an cdv ct) ⟨us, []⟩ = pure ((["value"] : List Str).zip us) := fun _ _ _ _ _ _ us hl => match us, hl with | [_], _ => rfl
theorem bi_negative : ∀ (kV doc pm : Value) (an : Option Addr) (cdv ct : Value) (us : List Value), us.length = (["value"] : List Str).length → bindArgs (PySem.W.fnOf "negative" "negative" (defArgs s_negative) (defBody s_negative) (defScope s_negative) .none kV doc pm an cdv ct) ⟨us, []⟩ = pure ((["value"] : List Str).zip us) := fun _ _ _ _ _ _ us hl => match us, hl with | [_], _ => rfl
theorem bi_sum_of : ∀ (kV doc pm : Value) (an : Option Addr) (cdv ct : Value) (us : List Value), us.length = (["one", "other"] : List Str).length → bindArgs (PySem.W.fnOf "sum_of" "sum_of" (defArgs s_sum_of) (defBody s_sum_of) (defScope s_sum_of) .none kV doc pm an cdv ct) ⟨us, []⟩ = pure ((["one", "other"] : List Str).zip us) := fun _ _ _ _ _ _ us hl => match us, hl with | [_, _], _ => rfl
theorem bi_difference : ∀ (kV doc pm : Value) (an : Option Addr) (cdv ct : Value) (us : List Value), us.length = (["one", "other"] : List Str).length → bindArgs (PySem.W.fnOf "difference" "difference" (defArgs s_difference) (defBody s_difference) (defScope s_difference) .none kV doc pm an cdv ct) ⟨us, []⟩ = pure ((["one", "other"] : List Str).zip us) := fun _ _ _ _ _ _ us hl => match us, hl with | [_, _], _ => rfl
theorem bi_product_of : ∀ (kV doc pm : Value) (an : Option Addr) (cdv ct : Value) (us : List Value), us.length = (["one", "other"] : List Str).length → bindArgs (PySem.W.fnOf "product_of" "product_of" (defArgs s_product_of) (defBody s_product_of) (defScope s_product_of) .none kV doc pm an cdv ct) ⟨us, []⟩ = pure ((["one", "other"] : List Str).zip us) := fun _ _ _ _ _ _ us hl => match us, hl with | [_, _], _ => rfl
theorem bi_is_integer : ∀ (kV doc pm : Value) (an : Option Addr) (cdv ct : Value) (us : List Value), us.length = (["value"] : List Str).length → bindArgs (PySem.W.fnOf "is_integer" "is_integer" (defArgs s_is_integer) (defBody s_is_integer) (defScope s_is_integer) .none kV doc pm an cdv ct) ⟨us, []⟩ = pure ((["value"] : List Str).zip us) := fun _ _ _ _ _ _ us hl => match us, hl with | [_], _ => rfl
theorem bi_is_within : ∀ (kV doc pm : Value) (an : Option Addr) (cdv ct : Value) (us : List Value), us.length = (["value", "least", "most"] : List Str).length → bindArgs (PySem.W.fnOf "is_within" "is_within" (defArgs s_is_within) (defBody s_is_within) (defScope s_is_within) .none kV doc pm an cdv ct) ⟨us, []⟩ = pure ((["value", "least", "most"] : List Str).zip us) := fun _ _ _ _ _ _ us hl => match us, hl with | [_, _, _], _ => rfl
theorem bi_is_row : ∀ (kV doc pm : Value) (an : Option Addr) (cdv ct : Value) (us : List Value), us.length = (["value"] : List Str).length → bindArgs (PySem.W.fnOf "is_row" "is_row" (defArgs s_is_row) (defBody s_is_row) (defScope s_is_row) .none kV doc pm an cdv ct) ⟨us, []⟩ = pure ((["value"] : List Str).zip us) := fun _ _ _ _ _ _ us hl => match us, hl with | [_], _ => rfl
theorem bi_is_pair : ∀ (kV doc pm : Value) (an : Option Addr) (cdv ct : Value) (us : List Value), us.length = (["value"] : List Str).length → bindArgs (PySem.W.fnOf "is_pair" "is_pair" (defArgs s_is_pair) (defBody s_is_pair) (defScope s_is_pair) .none kV doc pm an cdv ct) ⟨us, []⟩ = pure ((["value"] : List Str).zip us) := fun _ _ _ _ _ _ us hl => match us, hl with | [_], _ => rfl
theorem bi_is_number : ∀ (kV doc pm : Value) (an : Option Addr) (cdv ct : Value) (us : List Value), us.length = (["value"] : List Str).length → bindArgs (PySem.W.fnOf "is_number" "is_number" (defArgs s_is_number) (defBody s_is_number) (defScope s_is_number) .none kV doc pm an cdv ct) ⟨us, []⟩ = pure ((["value"] : List Str).zip us) := fun _ _ _ _ _ _ us hl => match us, hl with | [_], _ => rfl
theorem bi_is_point : ∀ (kV doc pm : Value) (an : Option Addr) (cdv ct : Value) (us : List Value), us.length = (["value"] : List Str).length → bindArgs (PySem.W.fnOf "is_point" "is_point" (defArgs s_is_point) (defBody s_is_point) (defScope s_is_point) .none kV doc pm an cdv ct) ⟨us, []⟩ = pure ((["value"] : List Str).zip us) := fun _ _ _ _ _ _ us hl => match us, hl with | [_], _ => rfl
theorem bi_are_points : ∀ (kV doc pm : Value) (an : Option Addr) (cdv ct : Value) (us : List Value), us.length = (["value", "least", "most"] : List Str).length → bindArgs (PySem.W.fnOf "are_points" "are_points" (defArgs s_are_points) (defBody s_are_points) (defScope s_are_points) .none kV doc pm an cdv ct) ⟨us, []⟩ = pure ((["value", "least", "most"] : List Str).zip us) := fun _ _ _ _ _ _ us hl => match us, hl with | [_, _, _], _ => rfl
theorem bi_point_of : ∀ (kV doc pm : Value) (an : Option Addr) (cdv ct : Value) (us : List Value), us.length = (["value"] : List Str).length → bindArgs (PySem.W.fnOf "point_of" "point_of" (defArgs s_point_of) (defBody s_point_of) (defScope s_point_of) .none kV doc pm an cdv ct) ⟨us, []⟩ = pure ((["value"] : List Str).zip us) := fun _ _ _ _ _ _ us hl => match us, hl with | [_], _ => rfl
theorem bi_joined : ∀ (kV doc pm : Value) (an : Option Addr) (cdv ct : Value) (us : List Value), us.length = (["one", "other"] : List Str).length → bindArgs (PySem.W.fnOf "joined" "joined" (defArgs s_joined) (defBody s_joined) (defScope s_joined) .none kV doc pm an cdv ct) ⟨us, []⟩ = pure ((["one", "other"] : List Str).zip us) := fun _ _ _ _ _ _ us hl => match us, hl with | [_, _], _ => rfl
theorem bi_way_between : ∀ (kV doc pm : Value) (an : Option Addr) (cdv ct : Value) (us : List Value), us.length = (["start", "end"] : List Str).length → bindArgs (PySem.W.fnOf "way_between" "way_between" (defArgs s_way_between) (defBody s_way_between) (defScope s_way_between) .none kV doc pm an cdv ct) ⟨us, []⟩ = pure ((["start", "end"] : List Str).zip us) := fun _ _ _ _ _ _ us hl => match us, hl with | [_, _], _ => rfl
theorem bi_stretched : ∀ (kV doc pm : Value) (an : Option Addr) (cdv ct : Value) (us : List Value), us.length = (["way", "factor"] : List Str).length → bindArgs (PySem.W.fnOf "stretched" "stretched" (defArgs s_stretched) (defBody s_stretched) (defScope s_stretched) .none kV doc pm an cdv ct) ⟨us, []⟩ = pure ((["way", "factor"] : List Str).zip us) := fun _ _ _ _ _ _ us hl => match us, hl with | [_, _], _ => rfl
theorem bi_turned : ∀ (kV doc pm : Value) (an : Option Addr) (cdv ct : Value) (us : List Value), us.length = (["way"] : List Str).length → bindArgs (PySem.W.fnOf "turned" "turned" (defArgs s_turned) (defBody s_turned) (defScope s_turned) .none kV doc pm an cdv ct) ⟨us, []⟩ = pure ((["way"] : List Str).zip us) := fun _ _ _ _ _ _ us hl => match us, hl with | [_], _ => rfl
theorem bi_cross_of : ∀ (kV doc pm : Value) (an : Option Addr) (cdv ct : Value) (us : List Value), us.length = (["one", "other"] : List Str).length → bindArgs (PySem.W.fnOf "cross_of" "cross_of" (defArgs s_cross_of) (defBody s_cross_of) (defScope s_cross_of) .none kV doc pm an cdv ct) ⟨us, []⟩ = pure ((["one", "other"] : List Str).zip us) := fun _ _ _ _ _ _ us hl => match us, hl with | [_, _], _ => rfl
theorem bi_dot_of : ∀ (kV doc pm : Value) (an : Option Addr) (cdv ct : Value) (us : List Value), us.length = (["one", "other"] : List Str).length → bindArgs (PySem.W.fnOf "dot_of" "dot_of" (defArgs s_dot_of) (defBody s_dot_of) (defScope s_dot_of) .none kV doc pm an cdv ct) ⟨us, []⟩ = pure ((["one", "other"] : List Str).zip us) := fun _ _ _ _ _ _ us hl => match us, hl with | [_, _], _ => rfl
theorem bi_moved : ∀ (kV doc pm : Value) (an : Option Addr) (cdv ct : Value) (us : List Value), us.length = (["start", "way", "share"] : List Str).length → bindArgs (PySem.W.fnOf "moved" "moved" (defArgs s_moved) (defBody s_moved) (defScope s_moved) .none kV doc pm an cdv ct) ⟨us, []⟩ = pure ((["start", "way", "share"] : List Str).zip us) := fun _ _ _ _ _ _ us hl => match us, hl with | [_, _, _], _ => rfl
theorem bi_number_in : ∀ (kV doc pm : Value) (an : Option Addr) (cdv ct : Value) (us : List Value), us.length = (["value", "part"] : List Str).length → bindArgs (PySem.W.fnOf "number_in" "number_in" (defArgs s_number_in) (defBody s_number_in) (defScope s_number_in) .none kV doc pm an cdv ct) ⟨us, []⟩ = pure ((["value", "part"] : List Str).zip us) := fun _ _ _ _ _ _ us hl => match us, hl with | [_, _], _ => rfl
theorem bi_point_in : ∀ (kV doc pm : Value) (an : Option Addr) (cdv ct : Value) (us : List Value), us.length = (["value", "part"] : List Str).length → bindArgs (PySem.W.fnOf "point_in" "point_in" (defArgs s_point_in) (defBody s_point_in) (defScope s_point_in) .none kV doc pm an cdv ct) ⟨us, []⟩ = pure ((["value", "part"] : List Str).zip us) := fun _ _ _ _ _ _ us hl => match us, hl with | [_, _], _ => rfl
theorem bi_point : ∀ (kV doc pm : Value) (an : Option Addr) (cdv ct : Value) (us : List Value), us.length = (["x", "y"] : List Str).length → bindArgs (PySem.W.fnOf "point" "point" (defArgs s_point) (defBody s_point) (defScope s_point) .none kV doc pm an cdv ct) ⟨us, []⟩ = pure ((["x", "y"] : List Str).zip us) := fun _ _ _ _ _ _ us hl => match us, hl with | [_, _], _ => rfl
theorem bi_added : ∀ (kV doc pm : Value) (an : Option Addr) (cdv ct : Value) (us : List Value), us.length = (["one", "other"] : List Str).length → bindArgs (PySem.W.fnOf "added" "added" (defArgs s_added) (defBody s_added) (defScope s_added) .none kV doc pm an cdv ct) ⟨us, []⟩ = pure ((["one", "other"] : List Str).zip us) := fun _ _ _ _ _ _ us hl => match us, hl with | [_, _], _ => rfl
theorem bi_taken : ∀ (kV doc pm : Value) (an : Option Addr) (cdv ct : Value) (us : List Value), us.length = (["one", "other"] : List Str).length → bindArgs (PySem.W.fnOf "taken" "taken" (defArgs s_taken) (defBody s_taken) (defScope s_taken) .none kV doc pm an cdv ct) ⟨us, []⟩ = pure ((["one", "other"] : List Str).zip us) := fun _ _ _ _ _ _ us hl => match us, hl with | [_, _], _ => rfl
theorem bi_scaled : ∀ (kV doc pm : Value) (an : Option Addr) (cdv ct : Value) (us : List Value), us.length = (["vector", "factor"] : List Str).length → bindArgs (PySem.W.fnOf "scaled" "scaled" (defArgs s_scaled) (defBody s_scaled) (defScope s_scaled) .none kV doc pm an cdv ct) ⟨us, []⟩ = pure ((["vector", "factor"] : List Str).zip us) := fun _ _ _ _ _ _ us hl => match us, hl with | [_, _], _ => rfl
theorem bi_quarter : ∀ (kV doc pm : Value) (an : Option Addr) (cdv ct : Value) (us : List Value), us.length = (["vector"] : List Str).length → bindArgs (PySem.W.fnOf "quarter" "quarter" (defArgs s_quarter) (defBody s_quarter) (defScope s_quarter) .none kV doc pm an cdv ct) ⟨us, []⟩ = pure ((["vector"] : List Str).zip us) := fun _ _ _ _ _ _ us hl => match us, hl with | [_], _ => rfl
theorem bi_cross : ∀ (kV doc pm : Value) (an : Option Addr) (cdv ct : Value) (us : List Value), us.length = (["one", "other"] : List Str).length → bindArgs (PySem.W.fnOf "cross" "cross" (defArgs s_cross) (defBody s_cross) (defScope s_cross) .none kV doc pm an cdv ct) ⟨us, []⟩ = pure ((["one", "other"] : List Str).zip us) := fun _ _ _ _ _ _ us hl => match us, hl with | [_, _], _ => rfl
theorem bi_dot : ∀ (kV doc pm : Value) (an : Option Addr) (cdv ct : Value) (us : List Value), us.length = (["one", "other"] : List Str).length → bindArgs (PySem.W.fnOf "dot" "dot" (defArgs s_dot) (defBody s_dot) (defScope s_dot) .none kV doc pm an cdv ct) ⟨us, []⟩ = pure ((["one", "other"] : List Str).zip us) := fun _ _ _ _ _ _ us hl => match us, hl with | [_, _], _ => rfl
theorem bi_squared : ∀ (kV doc pm : Value) (an : Option Addr) (cdv ct : Value) (us : List Value), us.length = (["one", "other"] : List Str).length → bindArgs (PySem.W.fnOf "squared" "squared" (defArgs s_squared) (defBody s_squared) (defScope s_squared) .none kV doc pm an cdv ct) ⟨us, []⟩ = pure ((["one", "other"] : List Str).zip us) := fun _ _ _ _ _ _ us hl => match us, hl with | [_, _], _ => rfl
theorem bi_between : ∀ (kV doc pm : Value) (an : Option Addr) (cdv ct : Value) (us : List Value), us.length = (["one", "other", "share"] : List Str).length → bindArgs (PySem.W.fnOf "between" "between" (defArgs s_between) (defBody s_between) (defScope s_between) .none kV doc pm an cdv ct) ⟨us, []⟩ = pure ((["one", "other", "share"] : List Str).zip us) := fun _ _ _ _ _ _ us hl => match us, hl with | [_, _, _], _ => rfl
theorem bi__law_vase : ∀ (kV doc pm : Value) (an : Option Addr) (cdv ct : Value) (us : List Value), us.length = (["script"] : List Str).length → bindArgs (PySem.W.fnOf "_law_vase" "_law_vase" (defArgs s__law_vase) (defBody s__law_vase) (defScope s__law_vase) .none kV doc pm an cdv ct) ⟨us, []⟩ = pure ((["script"] : List Str).zip us) := fun _ _ _ _ _ _ us hl => match us, hl with | [_], _ => rfl
theorem bi__law_fill : ∀ (kV doc pm : Value) (an : Option Addr) (cdv ct : Value) (us : List Value), us.length = (["vase", "many"] : List Str).length → bindArgs (PySem.W.fnOf "_law_fill" "_law_fill" (defArgs s__law_fill) (defBody s__law_fill) (defScope s__law_fill) .none kV doc pm an cdv ct) ⟨us, []⟩ = pure ((["vase", "many"] : List Str).zip us) := fun _ _ _ _ _ _ us hl => match us, hl with | [_, _], _ => rfl
theorem bi__law_one_of : ∀ (kV doc pm : Value) (an : Option Addr) (cdv ct : Value) (us : List Value), us.length = (["vase", "some"] : List Str).length → bindArgs (PySem.W.fnOf "_law_one_of" "_law_one_of" (defArgs s__law_one_of) (defBody s__law_one_of) (defScope s__law_one_of) .none kV doc pm an cdv ct) ⟨us, []⟩ = pure ((["vase", "some"] : List Str).zip us) := fun _ _ _ _ _ _ us hl => match us, hl with | [_, _], _ => rfl
theorem bi__law_shared : ∀ (kV doc pm : Value) (an : Option Addr) (cdv ct : Value) (us : List Value), us.length = (["one", "other"] : List Str).length → bindArgs (PySem.W.fnOf "_law_shared" "_law_shared" (defArgs s__law_shared) (defBody s__law_shared) (defScope s__law_shared) .none kV doc pm an cdv ct) ⟨us, []⟩ = pure ((["one", "other"] : List Str).zip us) := fun _ _ _ _ _ _ us hl => match us, hl with | [_, _], _ => rfl
theorem bi__law_low : ∀ (kV doc pm : Value) (an : Option Addr) (cdv ct : Value) (us : List Value), us.length = (["top", "under"] : List Str).length → bindArgs (PySem.W.fnOf "_law_low" "_law_low" (defArgs s__law_low) (defBody s__law_low) (defScope s__law_low) .none kV doc pm an cdv ct) ⟨us, []⟩ = pure ((["top", "under"] : List Str).zip us) := fun _ _ _ _ _ _ us hl => match us, hl with | [_, _], _ => rfl
theorem bi__law_sum : ∀ (kV doc pm : Value) (an : Option Addr) (cdv ct : Value) (us : List Value), us.length = (["one", "other"] : List Str).length → bindArgs (PySem.W.fnOf "_law_sum" "_law_sum" (defArgs s__law_sum) (defBody s__law_sum) (defScope s__law_sum) .none kV doc pm an cdv ct) ⟨us, []⟩ = pure ((["one", "other"] : List Str).zip us) := fun _ _ _ _ _ _ us hl => match us, hl with | [_, _], _ => rfl
theorem bi__law_product : ∀ (kV doc pm : Value) (an : Option Addr) (cdv ct : Value) (us : List Value), us.length = (["one", "other"] : List Str).length → bindArgs (PySem.W.fnOf "_law_product" "_law_product" (defArgs s__law_product) (defBody s__law_product) (defScope s__law_product) .none kV doc pm an cdv ct) ⟨us, []⟩ = pure ((["one", "other"] : List Str).zip us) := fun _ _ _ _ _ _ us hl => match us, hl with | [_, _], _ => rfl
theorem bi__law_less : ∀ (kV doc pm : Value) (an : Option Addr) (cdv ct : Value) (us : List Value), us.length = (["one", "other"] : List Str).length → bindArgs (PySem.W.fnOf "_law_less" "_law_less" (defArgs s__law_less) (defBody s__law_less) (defScope s__law_less) .none kV doc pm an cdv ct) ⟨us, []⟩ = pure ((["one", "other"] : List Str).zip us) := fun _ _ _ _ _ _ us hl => match us, hl with | [_, _], _ => rfl
theorem bi__law_drawn : ∀ (kV doc pm : Value) (an : Option Addr) (cdv ct : Value) (us : List Value), us.length = (["vase"] : List Str).length → bindArgs (PySem.W.fnOf "_law_drawn" "_law_drawn" (defArgs s__law_drawn) (defBody s__law_drawn) (defScope s__law_drawn) .none kV doc pm an cdv ct) ⟨us, []⟩ = pure ((["vase"] : List Str).zip us) := fun _ _ _ _ _ _ us hl => match us, hl with | [_], _ => rfl
theorem bi__law_spot : ∀ (kV doc pm : Value) (an : Option Addr) (cdv ct : Value) (us : List Value), us.length = (["vase"] : List Str).length → bindArgs (PySem.W.fnOf "_law_spot" "_law_spot" (defArgs s__law_spot) (defBody s__law_spot) (defScope s__law_spot) .none kV doc pm an cdv ct) ⟨us, []⟩ = pure ((["vase"] : List Str).zip us) := fun _ _ _ _ _ _ us hl => match us, hl with | [_], _ => rfl
theorem bi__law_passed : ∀ (kV doc pm : Value) (an : Option Addr) (cdv ct : Value) (us : List Value), us.length = (["vase", "spot"] : List Str).length → bindArgs (PySem.W.fnOf "_law_passed" "_law_passed" (defArgs s__law_passed) (defBody s__law_passed) (defScope s__law_passed) .none kV doc pm an cdv ct) ⟨us, []⟩ = pure ((["vase", "spot"] : List Str).zip us) := fun _ _ _ _ _ _ us hl => match us, hl with | [_, _], _ => rfl
theorem bi__law_done : ∀ (kV doc pm : Value) (an : Option Addr) (cdv ct : Value) (us : List Value), us.length = (["way", "one", "other"] : List Str).length → bindArgs (PySem.W.fnOf "_law_done" "_law_done" (defArgs s__law_done) (defBody s__law_done) (defScope s__law_done) .none kV doc pm an cdv ct) ⟨us, []⟩ = pure ((["way", "one", "other"] : List Str).zip us) := fun _ _ _ _ _ _ us hl => match us, hl with | [_, _, _], _ => rfl
theorem bi__law_part : ∀ (kV doc pm : Value) (an : Option Addr) (cdv ct : Value) (us : List Value), us.length = (["way", "one", "other"] : List Str).length → bindArgs (PySem.W.fnOf "_law_part" "_law_part" (defArgs s__law_part) (defBody s__law_part) (defScope s__law_part) .none kV doc pm an cdv ct) ⟨us, []⟩ = pure ((["way", "one", "other"] : List Str).zip us) := fun _ _ _ _ _ _ us hl => match us, hl with | [_, _, _], _ => rfl
theorem bi__law_other_part : ∀ (kV doc pm : Value) (an : Option Addr) (cdv ct : Value) (us : List Value), us.length = (["way", "one", "other"] : List Str).length → bindArgs (PySem.W.fnOf "_law_other_part" "_law_other_part" (defArgs s__law_other_part) (defBody s__law_other_part) (defScope s__law_other_part) .none kV doc pm an cdv ct) ⟨us, []⟩ = pure ((["way", "one", "other"] : List Str).zip us) := fun _ _ _ _ _ _ us hl => match us, hl with | [_, _, _], _ => rfl
theorem bi__law_sums_right : ∀ (kV doc pm : Value) (an : Option Addr) (cdv ct : Value) (us : List Value), us.length = (["vase"] : List Str).length → bindArgs (PySem.W.fnOf "_law_sums_right" "_law_sums_right" (defArgs s__law_sums_right) (defBody s__law_sums_right) (defScope s__law_sums_right) .none kV doc pm an cdv ct) ⟨us, []⟩ = pure ((["vase"] : List Str).zip us) := fun _ _ _ _ _ _ us hl => match us, hl with | [_], _ => rfl
theorem bi_law : ∀ (kV doc pm : Value) (an : Option Addr) (cdv ct : Value) (us : List Value), us.length = (["script"] : List Str).length → bindArgs (PySem.W.fnOf "law" "law" (defArgs s_law) (defBody s_law) (defScope s_law) .none kV doc pm an cdv ct) ⟨us, []⟩ = pure ((["script"] : List Str).zip us) := fun _ _ _ _ _ _ us hl => match us, hl with | [_], _ => rfl
end Odd
open PySem PySem.W PyProof.Rows
set_option maxHeartbeats 0 in
theorem PySem.Challenge.cw_oddsquares_k02_points_and_vectors_holds : PySem.Challenge.rw_oddsquares_k02_points_and_vectors.Holds := by
  w_on; o_law; k_head; (case hw => w_witness2)
  k_fill
  refine Odd.walk_ofG (l := PySem.Challenge.rw_oddsquares_k02_points_and_vectors) (n := 63) (k := 10) (x := "script") (sp := fun w => Odd.spLaw _) rfl (by decide) rfl ⟨rfl, by decide, by decide⟩ (fun w h Y => PySem.W.kIn_of Y) ?F (fun _ _ a ns hl hS => ⟨a, ns, rfl, hS, hl, fun _ => rfl⟩)
  case F =>
    intro w mg fa h KX G hmg
    obtain ⟨f_lowest, d_lowest, D_lowest⟩ : ∃ f fd, Odd.DefOk _ mg "lowest" Odd.s_lowest f fd _ := by
      refine' Odd.def_mk KX G Odd.bi_lowest ?a_lowest ?l_lowest ?c_lowest ?k_lowest
      (case a_lowest => k_is); (case l_lowest => k_is); (case c_lowest => k_is); (case k_lowest => k_is)
    obtain ⟨f_pair_of, d_pair_of, D_pair_of⟩ : ∃ f fd, Odd.DefOk _ mg "pair_of" Odd.s_pair_of f fd _ := by
      refine' Odd.def_mk KX G Odd.bi_pair_of ?a_pair_of ?l_pair_of ?c_pair_of ?k_pair_of
      (case a_pair_of => k_is); (case l_pair_of => k_is); (case c_pair_of => k_is); (case k_pair_of => k_is)
    obtain ⟨f_negative, d_negative, D_negative⟩ : ∃ f fd, Odd.DefOk _ mg "negative" Odd.s_negative f fd _ := by
      refine' Odd.def_mk KX G Odd.bi_negative ?a_negative ?l_negative ?c_negative ?k_negative
      (case a_negative => k_is); (case l_negative => k_is); (case c_negative => k_is); (case k_negative => k_is)
    obtain ⟨f_sum_of, d_sum_of, D_sum_of⟩ : ∃ f fd, Odd.DefOk _ mg "sum_of" Odd.s_sum_of f fd _ := by
      refine' Odd.def_mk KX G Odd.bi_sum_of ?a_sum_of ?l_sum_of ?c_sum_of ?k_sum_of
      (case a_sum_of => k_is); (case l_sum_of => k_is); (case c_sum_of => k_is); (case k_sum_of => k_is)
    obtain ⟨f_difference, d_difference, D_difference⟩ : ∃ f fd, Odd.DefOk _ mg "difference" Odd.s_difference f fd _ := by
      refine' Odd.def_mk KX G Odd.bi_difference ?a_difference ?l_difference ?c_difference ?k_difference
      (case a_difference => k_is); (case l_difference => k_is); (case c_difference => k_is); (case k_difference => k_is)
    obtain ⟨f_product_of, d_product_of, D_product_of⟩ : ∃ f fd, Odd.DefOk _ mg "product_of" Odd.s_product_of f fd _ := by
      refine' Odd.def_mk KX G Odd.bi_product_of ?a_product_of ?l_product_of ?c_product_of ?k_product_of
      (case a_product_of => k_is); (case l_product_of => k_is); (case c_product_of => k_is); (case k_product_of => k_is)
    obtain ⟨f_is_integer, d_is_integer, D_is_integer⟩ : ∃ f fd, Odd.DefOk _ mg "is_integer" Odd.s_is_integer f fd _ := by
      refine' Odd.def_mk KX G Odd.bi_is_integer ?a_is_integer ?l_is_integer ?c_is_integer ?k_is_integer
      (case a_is_integer => k_is); (case l_is_integer => k_is); (case c_is_integer => k_is); (case k_is_integer => k_is)
    obtain ⟨f_is_within, d_is_within, D_is_within⟩ : ∃ f fd, Odd.DefOk _ mg "is_within" Odd.s_is_within f fd _ := by
      refine' Odd.def_mk KX G Odd.bi_is_within ?a_is_within ?l_is_within ?c_is_within ?k_is_within
      (case a_is_within => k_is); (case l_is_within => k_is); (case c_is_within => k_is); (case k_is_within => k_is)
    obtain ⟨f_is_row, d_is_row, D_is_row⟩ : ∃ f fd, Odd.DefOk _ mg "is_row" Odd.s_is_row f fd _ := by
      refine' Odd.def_mk KX G Odd.bi_is_row ?a_is_row ?l_is_row ?c_is_row ?k_is_row
      (case a_is_row => k_is); (case l_is_row => k_is); (case c_is_row => k_is); (case k_is_row => k_is)
    obtain ⟨f_is_pair, d_is_pair, D_is_pair⟩ : ∃ f fd, Odd.DefOk _ mg "is_pair" Odd.s_is_pair f fd _ := by
      refine' Odd.def_mk KX G Odd.bi_is_pair ?a_is_pair ?l_is_pair ?c_is_pair ?k_is_pair
      (case a_is_pair => k_is); (case l_is_pair => k_is); (case c_is_pair => k_is); (case k_is_pair => k_is)
    obtain ⟨f_is_number, d_is_number, D_is_number⟩ : ∃ f fd, Odd.DefOk _ mg "is_number" Odd.s_is_number f fd _ := by
      refine' Odd.def_mk KX G Odd.bi_is_number ?a_is_number ?l_is_number ?c_is_number ?k_is_number
      (case a_is_number => k_is); (case l_is_number => k_is); (case c_is_number => k_is); (case k_is_number => k_is)
    obtain ⟨f_is_point, d_is_point, D_is_point⟩ : ∃ f fd, Odd.DefOk _ mg "is_point" Odd.s_is_point f fd _ := by
      refine' Odd.def_mk KX G Odd.bi_is_point ?a_is_point ?l_is_point ?c_is_point ?k_is_point
      (case a_is_point => k_is); (case l_is_point => k_is); (case c_is_point => k_is); (case k_is_point => k_is)
    obtain ⟨f_are_points, d_are_points, D_are_points⟩ : ∃ f fd, Odd.DefOk _ mg "are_points" Odd.s_are_points f fd _ := by
      refine' Odd.def_mk KX G Odd.bi_are_points ?a_are_points ?l_are_points ?c_are_points ?k_are_points
      (case a_are_points => k_is); (case l_are_points => k_is); (case c_are_points => k_is); (case k_are_points => k_is)
    obtain ⟨f_point_of, d_point_of, D_point_of⟩ : ∃ f fd, Odd.DefOk _ mg "point_of" Odd.s_point_of f fd _ := by
      refine' Odd.def_mk KX G Odd.bi_point_of ?a_point_of ?l_point_of ?c_point_of ?k_point_of
      (case a_point_of => k_is); (case l_point_of => k_is); (case c_point_of => k_is); (case k_point_of => k_is)
    obtain ⟨f_joined, d_joined, D_joined⟩ : ∃ f fd, Odd.DefOk _ mg "joined" Odd.s_joined f fd _ := by
      refine' Odd.def_mk KX G Odd.bi_joined ?a_joined ?l_joined ?c_joined ?k_joined
      (case a_joined => k_is); (case l_joined => k_is); (case c_joined => k_is); (case k_joined => k_is)
    obtain ⟨f_way_between, d_way_between, D_way_between⟩ : ∃ f fd, Odd.DefOk _ mg "way_between" Odd.s_way_between f fd _ := by
      refine' Odd.def_mk KX G Odd.bi_way_between ?a_way_between ?l_way_between ?c_way_between ?k_way_between
      (case a_way_between => k_is); (case l_way_between => k_is); (case c_way_between => k_is); (case k_way_between => k_is)
    obtain ⟨f_stretched, d_stretched, D_stretched⟩ : ∃ f fd, Odd.DefOk _ mg "stretched" Odd.s_stretched f fd _ := by
      refine' Odd.def_mk KX G Odd.bi_stretched ?a_stretched ?l_stretched ?c_stretched ?k_stretched
      (case a_stretched => k_is); (case l_stretched => k_is); (case c_stretched => k_is); (case k_stretched => k_is)
    obtain ⟨f_turned, d_turned, D_turned⟩ : ∃ f fd, Odd.DefOk _ mg "turned" Odd.s_turned f fd _ := by
      refine' Odd.def_mk KX G Odd.bi_turned ?a_turned ?l_turned ?c_turned ?k_turned
      (case a_turned => k_is); (case l_turned => k_is); (case c_turned => k_is); (case k_turned => k_is)
    obtain ⟨f_cross_of, d_cross_of, D_cross_of⟩ : ∃ f fd, Odd.DefOk _ mg "cross_of" Odd.s_cross_of f fd _ := by
      refine' Odd.def_mk KX G Odd.bi_cross_of ?a_cross_of ?l_cross_of ?c_cross_of ?k_cross_of
      (case a_cross_of => k_is); (case l_cross_of => k_is); (case c_cross_of => k_is); (case k_cross_of => k_is)
    obtain ⟨f_dot_of, d_dot_of, D_dot_of⟩ : ∃ f fd, Odd.DefOk _ mg "dot_of" Odd.s_dot_of f fd _ := by
      refine' Odd.def_mk KX G Odd.bi_dot_of ?a_dot_of ?l_dot_of ?c_dot_of ?k_dot_of
      (case a_dot_of => k_is); (case l_dot_of => k_is); (case c_dot_of => k_is); (case k_dot_of => k_is)
    obtain ⟨f_moved, d_moved, D_moved⟩ : ∃ f fd, Odd.DefOk _ mg "moved" Odd.s_moved f fd _ := by
      refine' Odd.def_mk KX G Odd.bi_moved ?a_moved ?l_moved ?c_moved ?k_moved
      (case a_moved => k_is); (case l_moved => k_is); (case c_moved => k_is); (case k_moved => k_is)
    obtain ⟨f_number_in, d_number_in, D_number_in⟩ : ∃ f fd, Odd.DefOk _ mg "number_in" Odd.s_number_in f fd _ := by
      refine' Odd.def_mk KX G Odd.bi_number_in ?a_number_in ?l_number_in ?c_number_in ?k_number_in
      (case a_number_in => k_is); (case l_number_in => k_is); (case c_number_in => k_is); (case k_number_in => k_is)
    obtain ⟨f_point_in, d_point_in, D_point_in⟩ : ∃ f fd, Odd.DefOk _ mg "point_in" Odd.s_point_in f fd _ := by
      refine' Odd.def_mk KX G Odd.bi_point_in ?a_point_in ?l_point_in ?c_point_in ?k_point_in
      (case a_point_in => k_is); (case l_point_in => k_is); (case c_point_in => k_is); (case k_point_in => k_is)
    obtain ⟨f_point, d_point, D_point⟩ : ∃ f fd, Odd.DefOk _ mg "point" Odd.s_point f fd _ := by
      refine' Odd.def_mk KX G Odd.bi_point ?a_point ?l_point ?c_point ?k_point
      (case a_point => k_is); (case l_point => k_is); (case c_point => k_is); (case k_point => k_is)
    obtain ⟨f_added, d_added, D_added⟩ : ∃ f fd, Odd.DefOk _ mg "added" Odd.s_added f fd _ := by
      refine' Odd.def_mk KX G Odd.bi_added ?a_added ?l_added ?c_added ?k_added
      (case a_added => k_is); (case l_added => k_is); (case c_added => k_is); (case k_added => k_is)
    obtain ⟨f_taken, d_taken, D_taken⟩ : ∃ f fd, Odd.DefOk _ mg "taken" Odd.s_taken f fd _ := by
      refine' Odd.def_mk KX G Odd.bi_taken ?a_taken ?l_taken ?c_taken ?k_taken
      (case a_taken => k_is); (case l_taken => k_is); (case c_taken => k_is); (case k_taken => k_is)
    obtain ⟨f_scaled, d_scaled, D_scaled⟩ : ∃ f fd, Odd.DefOk _ mg "scaled" Odd.s_scaled f fd _ := by
      refine' Odd.def_mk KX G Odd.bi_scaled ?a_scaled ?l_scaled ?c_scaled ?k_scaled
      (case a_scaled => k_is); (case l_scaled => k_is); (case c_scaled => k_is); (case k_scaled => k_is)
    obtain ⟨f_quarter, d_quarter, D_quarter⟩ : ∃ f fd, Odd.DefOk _ mg "quarter" Odd.s_quarter f fd _ := by
      refine' Odd.def_mk KX G Odd.bi_quarter ?a_quarter ?l_quarter ?c_quarter ?k_quarter
      (case a_quarter => k_is); (case l_quarter => k_is); (case c_quarter => k_is); (case k_quarter => k_is)
    obtain ⟨f_cross, d_cross, D_cross⟩ : ∃ f fd, Odd.DefOk _ mg "cross" Odd.s_cross f fd _ := by
      refine' Odd.def_mk KX G Odd.bi_cross ?a_cross ?l_cross ?c_cross ?k_cross
      (case a_cross => k_is); (case l_cross => k_is); (case c_cross => k_is); (case k_cross => k_is)
    obtain ⟨f_dot, d_dot, D_dot⟩ : ∃ f fd, Odd.DefOk _ mg "dot" Odd.s_dot f fd _ := by
      refine' Odd.def_mk KX G Odd.bi_dot ?a_dot ?l_dot ?c_dot ?k_dot
      (case a_dot => k_is); (case l_dot => k_is); (case c_dot => k_is); (case k_dot => k_is)
    obtain ⟨f_squared, d_squared, D_squared⟩ : ∃ f fd, Odd.DefOk _ mg "squared" Odd.s_squared f fd _ := by
      refine' Odd.def_mk KX G Odd.bi_squared ?a_squared ?l_squared ?c_squared ?k_squared
      (case a_squared => k_is); (case l_squared => k_is); (case c_squared => k_is); (case k_squared => k_is)
    obtain ⟨f_between, d_between, D_between⟩ : ∃ f fd, Odd.DefOk _ mg "between" Odd.s_between f fd _ := by
      refine' Odd.def_mk KX G Odd.bi_between ?a_between ?l_between ?c_between ?k_between
      (case a_between => k_is); (case l_between => k_is); (case c_between => k_is); (case k_between => k_is)
    obtain ⟨f__law_vase, d__law_vase, D__law_vase⟩ : ∃ f fd, Odd.DefOk _ mg "_law_vase" Odd.s__law_vase f fd _ := by
      refine' Odd.def_mk KX G Odd.bi__law_vase ?a__law_vase ?l__law_vase ?c__law_vase ?k__law_vase
      (case a__law_vase => k_is); (case l__law_vase => k_is); (case c__law_vase => k_is); (case k__law_vase => k_is)
    obtain ⟨f__law_fill, d__law_fill, D__law_fill⟩ : ∃ f fd, Odd.DefOk _ mg "_law_fill" Odd.s__law_fill f fd _ := by
      refine' Odd.def_mk KX G Odd.bi__law_fill ?a__law_fill ?l__law_fill ?c__law_fill ?k__law_fill
      (case a__law_fill => k_is); (case l__law_fill => k_is); (case c__law_fill => k_is); (case k__law_fill => k_is)
    obtain ⟨f__law_one_of, d__law_one_of, D__law_one_of⟩ : ∃ f fd, Odd.DefOk _ mg "_law_one_of" Odd.s__law_one_of f fd _ := by
      refine' Odd.def_mk KX G Odd.bi__law_one_of ?a__law_one_of ?l__law_one_of ?c__law_one_of ?k__law_one_of
      (case a__law_one_of => k_is); (case l__law_one_of => k_is); (case c__law_one_of => k_is); (case k__law_one_of => k_is)
    obtain ⟨f__law_shared, d__law_shared, D__law_shared⟩ : ∃ f fd, Odd.DefOk _ mg "_law_shared" Odd.s__law_shared f fd _ := by
      refine' Odd.def_mk KX G Odd.bi__law_shared ?a__law_shared ?l__law_shared ?c__law_shared ?k__law_shared
      (case a__law_shared => k_is); (case l__law_shared => k_is); (case c__law_shared => k_is); (case k__law_shared => k_is)
    obtain ⟨f__law_low, d__law_low, D__law_low⟩ : ∃ f fd, Odd.DefOk _ mg "_law_low" Odd.s__law_low f fd _ := by
      refine' Odd.def_mk KX G Odd.bi__law_low ?a__law_low ?l__law_low ?c__law_low ?k__law_low
      (case a__law_low => k_is); (case l__law_low => k_is); (case c__law_low => k_is); (case k__law_low => k_is)
    obtain ⟨f__law_sum, d__law_sum, D__law_sum⟩ : ∃ f fd, Odd.DefOk _ mg "_law_sum" Odd.s__law_sum f fd _ := by
      refine' Odd.def_mk KX G Odd.bi__law_sum ?a__law_sum ?l__law_sum ?c__law_sum ?k__law_sum
      (case a__law_sum => k_is); (case l__law_sum => k_is); (case c__law_sum => k_is); (case k__law_sum => k_is)
    obtain ⟨f__law_product, d__law_product, D__law_product⟩ : ∃ f fd, Odd.DefOk _ mg "_law_product" Odd.s__law_product f fd _ := by
      refine' Odd.def_mk KX G Odd.bi__law_product ?a__law_product ?l__law_product ?c__law_product ?k__law_product
      (case a__law_product => k_is); (case l__law_product => k_is); (case c__law_product => k_is); (case k__law_product => k_is)
    obtain ⟨f__law_less, d__law_less, D__law_less⟩ : ∃ f fd, Odd.DefOk _ mg "_law_less" Odd.s__law_less f fd _ := by
      refine' Odd.def_mk KX G Odd.bi__law_less ?a__law_less ?l__law_less ?c__law_less ?k__law_less
      (case a__law_less => k_is); (case l__law_less => k_is); (case c__law_less => k_is); (case k__law_less => k_is)
    obtain ⟨f__law_drawn, d__law_drawn, D__law_drawn⟩ : ∃ f fd, Odd.DefOk _ mg "_law_drawn" Odd.s__law_drawn f fd _ := by
      refine' Odd.def_mk KX G Odd.bi__law_drawn ?a__law_drawn ?l__law_drawn ?c__law_drawn ?k__law_drawn
      (case a__law_drawn => k_is); (case l__law_drawn => k_is); (case c__law_drawn => k_is); (case k__law_drawn => k_is)
    obtain ⟨f__law_spot, d__law_spot, D__law_spot⟩ : ∃ f fd, Odd.DefOk _ mg "_law_spot" Odd.s__law_spot f fd _ := by
      refine' Odd.def_mk KX G Odd.bi__law_spot ?a__law_spot ?l__law_spot ?c__law_spot ?k__law_spot
      (case a__law_spot => k_is); (case l__law_spot => k_is); (case c__law_spot => k_is); (case k__law_spot => k_is)
    obtain ⟨f__law_passed, d__law_passed, D__law_passed⟩ : ∃ f fd, Odd.DefOk _ mg "_law_passed" Odd.s__law_passed f fd _ := by
      refine' Odd.def_mk KX G Odd.bi__law_passed ?a__law_passed ?l__law_passed ?c__law_passed ?k__law_passed
      (case a__law_passed => k_is); (case l__law_passed => k_is); (case c__law_passed => k_is); (case k__law_passed => k_is)
    obtain ⟨f__law_done, d__law_done, D__law_done⟩ : ∃ f fd, Odd.DefOk _ mg "_law_done" Odd.s__law_done f fd _ := by
      refine' Odd.def_mk KX G Odd.bi__law_done ?a__law_done ?l__law_done ?c__law_done ?k__law_done
      (case a__law_done => k_is); (case l__law_done => k_is); (case c__law_done => k_is); (case k__law_done => k_is)
    obtain ⟨f__law_part, d__law_part, D__law_part⟩ : ∃ f fd, Odd.DefOk _ mg "_law_part" Odd.s__law_part f fd _ := by
      refine' Odd.def_mk KX G Odd.bi__law_part ?a__law_part ?l__law_part ?c__law_part ?k__law_part
      (case a__law_part => k_is); (case l__law_part => k_is); (case c__law_part => k_is); (case k__law_part => k_is)
    obtain ⟨f__law_other_part, d__law_other_part, D__law_other_part⟩ : ∃ f fd, Odd.DefOk _ mg "_law_other_part" Odd.s__law_other_part f fd _ := by
      refine' Odd.def_mk KX G Odd.bi__law_other_part ?a__law_other_part ?l__law_other_part ?c__law_other_part ?k__law_other_part
      (case a__law_other_part => k_is); (case l__law_other_part => k_is); (case c__law_other_part => k_is); (case k__law_other_part => k_is)
    obtain ⟨f__law_sums_right, d__law_sums_right, D__law_sums_right⟩ : ∃ f fd, Odd.DefOk _ mg "_law_sums_right" Odd.s__law_sums_right f fd _ := by
      refine' Odd.def_mk KX G Odd.bi__law_sums_right ?a__law_sums_right ?l__law_sums_right ?c__law_sums_right ?k__law_sums_right
      (case a__law_sums_right => k_is); (case l__law_sums_right => k_is); (case c__law_sums_right => k_is); (case k__law_sums_right => k_is)
    obtain ⟨f_law, d_law, D_law⟩ : ∃ f fd, Odd.DefOk _ mg "law" Odd.s_law f fd _ := by
      refine' Odd.def_mk KX G Odd.bi_law ?a_law ?l_law ?c_law ?k_law
      (case a_law => k_is); (case l_law => k_is); (case c_law => k_is); (case k_law => k_is)
    obtain ⟨c_BadNumber, i_BadNumber, c_BadPoint, i_BadPoint, L_BadNumber, L_BadPoint, te_NP⟩ : ∃ C fI C' fI', PySem.LowX.LowTxt "BadNumber" "BadNumber.__init__" _ mg C fI ∧ PySem.LowX.LowTxt "BadPoint" "BadPoint.__init__" _ mg C' fI' ∧ PySem.W.exmOne _ (.ref C) (.ref C') = some false := by
      refine' Odd.low_two KX G ?aC_N ?xL_N ?sa_N ?ga_N ?gg_N ?nb_N ?a1_N ?t1_N ?l1_N ?c1_N ?kC_N ?eC_N ?tC_N ?hC_N ?iC_N ?sC_N ?aC_P ?xL_P ?sa_P ?ga_P ?gg_P ?nb_P ?a1_P ?t1_P ?l1_P ?c1_P ?kC_P ?eC_P ?tC_P ?hC_P ?iC_P ?sC_P ?sNP
      (case aC_N => k_is); (case xL_N => k_is); (case sa_N => k_is); (case ga_N => k_is); (case gg_N => k_is); (case nb_N => k_is); (case a1_N => k_is); (case t1_N => k_is); (case l1_N => k_is); (case c1_N => k_is); (case kC_N => k_is); (case eC_N => k_is); (case tC_N => k_is); (case hC_N => k_is); (case iC_N => k_is); (case sC_N => first | rfl | k_is)
      (case aC_P => k_is); (case xL_P => k_is); (case sa_P => k_is); (case ga_P => k_is); (case gg_P => k_is); (case nb_P => k_is); (case a1_P => k_is); (case t1_P => k_is); (case l1_P => k_is); (case c1_P => k_is); (case kC_P => k_is); (case eC_P => k_is); (case tC_P => k_is); (case hC_P => k_is); (case iC_P => k_is); (case sC_P => first | rfl | k_is)
      (case sNP => first | rfl | k_is)
    have n_len : mg "len" = none := by
      refine' PySem.W.mg_none_of KX G ?z_len
      (case z_len => k_is)
    have n_abs : mg "abs" = none := by
      refine' PySem.W.mg_none_of KX G ?z_abs
      (case z_abs => k_is)
    have n_repr : mg "repr" = none := by
      refine' PySem.W.mg_none_of KX G ?z_repr
      (case z_repr => k_is)
    have n_isinstance : mg "isinstance" = none := by
      refine' PySem.W.mg_none_of KX G ?z_isinstance
      (case z_isinstance => k_is)
    have n_int : mg "int" = none := by
      refine' PySem.W.mg_none_of KX G ?z_int
      (case z_int => k_is)
    have n_bool : mg "bool" = none := by
      refine' PySem.W.mg_none_of KX G ?z_bool
      (case z_bool => k_is)
    have n_list : mg "list" = none := by
      refine' PySem.W.mg_none_of KX G ?z_list
      (case z_list => k_is)
    have n_tuple : mg "tuple" = none := by
      refine' PySem.W.mg_none_of KX G ?z_tuple
      (case z_tuple => k_is)
    have n_range : mg "range" = none := by
      refine' PySem.W.mg_none_of KX G ?z_range
      (case z_range => k_is)
    have n_all : mg "all" = none := by
      refine' PySem.W.mg_none_of KX G ?z_all
      (case z_all => k_is)
    have g_gcd : mg "gcd" = some (.builtin "math.gcd") := by
      refine' PySem.W.mg_of KX G ?z_gcd
      (case z_gcd => k_is)
    have T : Odd.Txt _ mg ⟨f_lowest, d_lowest, f_pair_of, d_pair_of, f_negative, d_negative, f_sum_of, d_sum_of, f_difference, d_difference, f_product_of, d_product_of, f_is_integer, d_is_integer, f_is_within, d_is_within, f_is_row, d_is_row, f_is_pair, d_is_pair, f_is_number, d_is_number, f_is_point, d_is_point, f_are_points, d_are_points, f_point_of, d_point_of, f_joined, d_joined, f_way_between, d_way_between, f_stretched, d_stretched, f_turned, d_turned, f_cross_of, d_cross_of, f_dot_of, d_dot_of, f_moved, d_moved, f_number_in, d_number_in, f_point_in, d_point_in, f_point, d_point, f_added, d_added, f_taken, d_taken, f_scaled, d_scaled, f_quarter, d_quarter, f_cross, d_cross, f_dot, d_dot, f_squared, d_squared, f_between, d_between, f__law_vase, d__law_vase, f__law_fill, d__law_fill, f__law_one_of, d__law_one_of, f__law_shared, d__law_shared, f__law_low, d__law_low, f__law_sum, d__law_sum, f__law_product, d__law_product, f__law_less, d__law_less, f__law_drawn, d__law_drawn, f__law_spot, d__law_spot, f__law_passed, d__law_passed, f__law_done, d__law_done, f__law_part, d__law_part, f__law_other_part, d__law_other_part, f__law_sums_right, d__law_sums_right, f_law, d_law, c_BadNumber, i_BadNumber, c_BadPoint, i_BadPoint⟩ := ⟨D_lowest, D_pair_of, D_negative, D_sum_of, D_difference, D_product_of, D_is_integer, D_is_within, D_is_row, D_is_pair, D_is_number, D_is_point, D_are_points, D_point_of, D_joined, D_way_between, D_stretched, D_turned, D_cross_of, D_dot_of, D_moved, D_number_in, D_point_in, D_point, D_added, D_taken, D_scaled, D_quarter, D_cross, D_dot, D_squared, D_between, D__law_vase, D__law_fill, D__law_one_of, D__law_shared, D__law_low, D__law_sum, D__law_product, D__law_less, D__law_drawn, D__law_spot, D__law_passed, D__law_done, D__law_part, D__law_other_part, D__law_sums_right, D_law, L_BadNumber, L_BadPoint, n_len, n_abs, n_repr, n_isinstance, n_int, n_bool, n_list, n_tuple, n_range, n_all, g_gcd, te_NP⟩
    have e := hmg.symm.trans D_law.g
    cases e
    obtain ⟨oc, od, kV, doc, pm, an, cdv, ct, osl, rfl, lk, hcd⟩ := D_law.F.ex
    exact ⟨_, fun s v => .of_eq rfl, fun base _ _ => Odd.ok_law T⟩
#print axioms PySem.Challenge.cw_oddsquares_k02_points_and_vectors_holds
