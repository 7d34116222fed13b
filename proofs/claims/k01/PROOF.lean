import PyProof.Rows.All
import Wide.All
import OpenK.AllK
import Wide.FinOn
import HandS.ForMost
import HandS.ForExc
import HandS.Gcd
import HandS.Wide
import HandS.IsInst
import HandS.Style
import HandS.RaiseMore
import HandS.Defaults
import HandS.TryOnly
import PySem.Challenge.RW_oddsquares_k01_numbers_in_lowest_terms
set_option Elab.async false
set_option linter.all false
set_option maxRecDepth 100000
set_option maxHeartbeats 4000000
namespace Odd
open PySem PySem.Spec PyProof.Rows L2

/-! ### numbers -/
def Canon (p : Int × Int) : Prop := 1 ≤ p.2 ∧ Nat.gcd p.1.natAbs p.2.natAbs = 1
def IsLow (t u : Int) (p : Int × Int) : Prop := Canon p ∧ p.1 * u = t * p.2
def low (t u : Int) : Int × Int := if u < 0 then (t.fdiv (-(Nat.gcd t.natAbs u.natAbs : Int)), u.fdiv (-(Nat.gcd t.natAbs u.natAbs : Int))) else (t.fdiv (Nat.gcd t.natAbs u.natAbs : Int), u.fdiv (Nat.gcd t.natAbs u.natAbs : Int))

theorem low_pos {t u : Int} (h : 0 < u) : ∃ g : Int, 0 < g ∧ t = g * (low t u).1 ∧ u = g * (low t u).2 ∧ Nat.gcd (low t u).1.natAbs (low t u).2.natAbs = 1 := by
  have hg : 0 < Nat.gcd t.natAbs u.natAbs := Nat.gcd_pos_of_pos_right _ (by omega)
  have d1 : ((Nat.gcd t.natAbs u.natAbs : Nat) : Int) ∣ t := Int.ofNat_dvd_left.mpr (Nat.gcd_dvd_left _ _)
  have d2 : ((Nat.gcd t.natAbs u.natAbs : Nat) : Int) ∣ u := Int.ofNat_dvd_left.mpr (Nat.gcd_dvd_right _ _)
  have e1 := Int.mul_fdiv_cancel' d1
  have e2 := Int.mul_fdiv_cancel' d2
  have el : low t u = (t.fdiv (Nat.gcd t.natAbs u.natAbs : Int), u.fdiv (Nat.gcd t.natAbs u.natAbs : Int)) := by
    unfold low
    rw [if_neg (by omega)]
  refine ⟨(Nat.gcd t.natAbs u.natAbs : Int), by omega, ?_, ?_, ?_⟩
  · rw [el]; exact e1.symm
  · rw [el]; exact e2.symm
  · rw [el]
    have a1 : t.natAbs = Nat.gcd t.natAbs u.natAbs * (t.fdiv (Nat.gcd t.natAbs u.natAbs : Int)).natAbs := by
      have := congrArg Int.natAbs e1
      rw [Int.natAbs_mul] at this
      exact this.symm
    have a2 : u.natAbs = Nat.gcd t.natAbs u.natAbs * (u.fdiv (Nat.gcd t.natAbs u.natAbs : Int)).natAbs := by
      have := congrArg Int.natAbs e2
      rw [Int.natAbs_mul] at this
      exact this.symm
    have a3 : Nat.gcd t.natAbs u.natAbs = Nat.gcd t.natAbs u.natAbs * Nat.gcd (t.fdiv (Nat.gcd t.natAbs u.natAbs : Int)).natAbs (u.fdiv (Nat.gcd t.natAbs u.natAbs : Int)).natAbs := by
      rw [← Nat.gcd_mul_left, ← a1, ← a2]
    exact Nat.eq_of_mul_eq_mul_left hg (by rw [Nat.mul_one]; exact a3.symm)
theorem low_neg {t u : Int} (h : u < 0) : low t u = low (-t) (-u) := by
  unfold low
  rw [if_pos h, if_neg (by omega), Int.natAbs_neg, Int.natAbs_neg]
  have k : ∀ x : Int, x.fdiv (-((Nat.gcd t.natAbs u.natAbs : Nat) : Int)) = (-x).fdiv ((Nat.gcd t.natAbs u.natAbs : Nat) : Int) := fun x => by
    have q := Int.neg_fdiv_neg (-x) ((Nat.gcd t.natAbs u.natAbs : Nat) : Int)
    rw [Int.neg_neg] at q
    exact q
  rw [k t, k u]
theorem natAbs_mul_le {g x y : Int} (hg : g ≠ 0) (e : x = g * y) : y.natAbs ≤ x.natAbs := by
  rw [e, Int.natAbs_mul]
  exact Nat.le_mul_of_pos_left _ (by omega)
/-- what lowest makes -/
theorem low_is {t u : Int} (h : u ≠ 0) : IsLow t u (low t u) ∧ (low t u).1.natAbs ≤ t.natAbs ∧ (low t u).2.natAbs ≤ u.natAbs := by
  have pos : ∀ t u : Int, 0 < u → IsLow t u (low t u) ∧ (low t u).1.natAbs ≤ t.natAbs ∧ (low t u).2.natAbs ≤ u.natAbs := fun t u hu => by
    obtain ⟨g, hg, e1, e2, e3⟩ := low_pos (t := t) hu
    generalize low t u = q at *
    obtain ⟨a, b⟩ := q
    dsimp only at *
    have hb : 0 < b := by
      rcases Int.lt_or_le 0 b with x | x
      · exact x
      · have : g * b ≤ 0 := Int.mul_nonpos_of_nonneg_of_nonpos (by omega) x
        omega
    refine ⟨⟨⟨by show 1 ≤ b; omega, e3⟩, ?_⟩, natAbs_mul_le (by omega) e1, natAbs_mul_le (by omega) e2⟩
    show a * u = t * b
    rw [e1, e2, ← Int.mul_assoc, Int.mul_comm a g]
  rcases Int.lt_or_le 0 u with hu | hu
  · exact pos t u hu
  · have hn : u < 0 := by omega
    obtain ⟨⟨c, e⟩, l1, l2⟩ := pos (-t) (-u) (by omega)
    rw [low_neg hn]
    rw [Int.natAbs_neg] at l1 l2
    refine ⟨⟨c, ?_⟩, l1, l2⟩
    rw [Int.mul_neg, Int.neg_mul] at e
    omega
/-- two pairs in lowest terms that are the same number are the same pair -/
theorem canon_eq {p q : Int × Int} (hp : Canon p) (hq : Canon q) (e : p.1 * q.2 = q.1 * p.2) : p = q := by
  obtain ⟨a, b⟩ := p
  obtain ⟨c, d⟩ := q
  obtain ⟨hb, g1⟩ := hp
  obtain ⟨hd, g2⟩ := hq
  dsimp only at *
  have n : a.natAbs * d.natAbs = c.natAbs * b.natAbs := by
    have := congrArg Int.natAbs e
    rwa [Int.natAbs_mul, Int.natAbs_mul] at this
  have d1 : d.natAbs ∣ b.natAbs := (Nat.Coprime.symm g2 : Nat.Coprime d.natAbs c.natAbs).dvd_of_dvd_mul_left ⟨a.natAbs, by rw [← n, Nat.mul_comm]⟩
  have d2 : b.natAbs ∣ d.natAbs := (Nat.Coprime.symm g1 : Nat.Coprime b.natAbs a.natAbs).dvd_of_dvd_mul_left ⟨c.natAbs, by rw [n, Nat.mul_comm]⟩
  have ebd : b = d := by
    have := Nat.dvd_antisymm d2 d1
    omega
  subst ebd
  have : a = c := Int.eq_of_mul_eq_mul_right (by omega) e
  rw [this]
/-- the pair in lowest terms of a pair in lowest terms is itself -/
theorem IsLow.uniq {t u : Int} {p q : Int × Int} (hu : u ≠ 0) (hp : IsLow t u p) (hq : IsLow t u q) : p = q := by
  refine canon_eq hp.1 hq.1 ?_
  refine Int.eq_of_mul_eq_mul_right hu ?_
  have e1 := hp.2
  have e2 := hq.2
  calc p.1 * q.2 * u = (p.1 * u) * q.2 := by rw [Int.mul_assoc, Int.mul_comm q.2 u, ← Int.mul_assoc]
    _ = t * p.2 * q.2 := by rw [e1]
    _ = (t * q.2) * p.2 := by rw [Int.mul_assoc, Int.mul_comm p.2 q.2, ← Int.mul_assoc]
    _ = q.1 * u * p.2 := by rw [e2]
    _ = q.1 * p.2 * u := by rw [Int.mul_assoc, Int.mul_comm u p.2, ← Int.mul_assoc]

/-! ### rules -/
def CDivX (_ j : Int) : Prop := j ≠ 0 ∧ j.natAbs.log2 < 9000
theorem op_fdivX {X : Cx} : OpR X (binaryOp .FloorDiv) (rI CDivX fun i j => .int (i.fdiv j)) := opI fun i j _ _ _ _ _ hc q => floordiv_int hc.1 q (.inl (PyProof.noPylong_of_log2 hc.2))
theorem divx {j : Int} {b : Nat} (h : j ≠ 0) (hb : j.natAbs < 2 ^ b) (h0 : 0 < b) (h9 : b ≤ 9000) : CDivX i j := ⟨h, Nat.lt_of_lt_of_le (PySem.Flt.log2_lt_of h0 hb) h9⟩

/-! ### heaps -/
theorem same_upd {H : Hp} {p : Addr} {o : HO} (h : H p = none) : Same H (upd H p o) := fun b x e => by
  rw [upd_ne (ne_of_none e h)]
  exact e
theorem same_tup {K : PySem.W.Frag} {H H' : Hp} {a : Addr} {xs : List V} (e : Same H H') (h : SqT K H a xs) : SqT K H' a xs := by
  rcases h with (h | ⟨o, h⟩) | h
  · exact .inl (.inl (e _ _ h))
  · exact .inl (.inr ⟨o, e _ _ h⟩)
  · exact .inr h
/-- all but the object at u stands as it stood -/
def But (u : Addr) (H H' : Hp) : Prop := ∀ b, b ≠ u → ∀ o, H b = some o → H' b = some o
theorem same_but {u : Addr} {H H' : Hp} (s : Same H H') : But u H H' := fun b _ o e => s b o e
theorem But.trans {u : Addr} {H H1 H2 : Hp} (a : But u H H1) (b : But u H1 H2) : But u H H2 := fun c n o h => b c n o (a c n o h)
theorem But.refl (u : Addr) (H : Hp) : But u H H := fun _ _ _ h => h
theorem But.tup {K : PySem.W.Frag} {u : Addr} {H H' : Hp} {a : Addr} {xs : List V} {ys : List V} (s : But u H H') (hu : H u = some (.lst ys)) (h : SqT K H a xs) : SqT K H' a xs := by
  rcases h with (h | ⟨o, h⟩) | h
  · exact .inl (.inl (s _ (ne_of h hu (by intro z; cases z)) _ h))
  · exact .inl (.inr ⟨o, s _ (ne_of h hu (by intro z; cases z)) _ h⟩)
  · exact .inr h
theorem But.lst {K : PySem.W.Frag} {u : Addr} {H H' : Hp} {a : Addr} {xs : List V} {ys : List V} (s : But u H H') (hu : H u = some (.lst ys)) (d : xs ≠ ys) (h : SqL K H a xs) : SqL K H' a xs := by
  rcases h with (h | ⟨o, h⟩) | h
  · exact .inl (.inl (s _ (ne_of h hu (by intro z; injection z with z; exact d z)) _ h))
  · exact .inl (.inr ⟨o, s _ (ne_of h hu (by intro z; cases z)) _ h⟩)
  · exact .inr h

/-! ### what a value is -/
inductive TyN (K : PySem.W.Frag) (H : Hp) : V → String → Prop
  | non : TyN K H .non "NoneType"
  | bl (b : Bool) : TyN K H (.bl b) "bool"
  | int (i : Int) : TyN K H (.int i) "int"
  | str (x : Str) : TyN K H (.str x) "str"
  | lst {p : Addr} {xs : List V} (h : SqL K H p xs) : TyN K H (.ref p) "list"
  | tup {p : Addr} {xs : List V} (h : SqT K H p xs) : TyN K H (.ref p) "tuple"
  | dict {p : Addr} {kvs : List (Key × V)} (h : H p = some (.dK kvs)) : TyN K H (.ref p) "dict"
theorem TyN.x {K : PySem.W.Frag} {H : Hp} {v : V} {T : String} (h : TyN K H v T) : TyX K H v (.type T) := by
  cases h with
  | non => exact .base .non
  | bl b => exact .base (.bl b)
  | int i => exact .base (.int i)
  | str x => exact .base (.str x)
  | lst h =>
    rcases h with (h | ⟨o, h⟩) | ⟨o, its, n, h, c, _⟩
    · exact .base (.lst h)
    · exact .base (.frz h)
    · exact .kList h c
  | tup h =>
    rcases h with (h | ⟨o, h⟩) | ⟨o, its, n, h, c, _⟩
    · exact .base (.tup h)
    · exact .fTuple h
    · exact .kTuple h c
  | dict h => exact .base (.dK h)
theorem TyN.same {K : PySem.W.Frag} {H H' : Hp} {v : V} {T : String} (s : Same H H') (h : TyN K H v T) : TyN K H' v T := by
  cases h with
  | non => exact .non
  | bl b => exact .bl b
  | int i => exact .int i
  | str x => exact .str x
  | lst h => exact .lst (s.seq h)
  | tup h => exact .tup (same_tup s h)
  | dict h => exact .dict (s _ _ h)
/-- a list or a tuple of these values -/
def Sq (K : PySem.W.Frag) (H : Hp) (p : Addr) (xs : List V) : Prop := SqL K H p xs ∨ SqT K H p xs
theorem Sq.same {K : PySem.W.Frag} {H H' : Hp} {p : Addr} {xs : List V} (s : Same H H') (h : Sq K H p xs) : Sq K H' p xs := by
  rcases h with h | h
  · exact .inl (s.seq h)
  · exact .inr (same_tup s h)
theorem Sq.but {K : PySem.W.Frag} {u : Addr} {H H' : Hp} {p : Addr} {xs ys : List V} (s : But u H H') (hu : H u = some (.lst ys)) (d : xs ≠ ys) (h : Sq K H p xs) : Sq K H' p xs := by
  rcases h with h | h
  · exact .inl (s.lst hu d h)
  · exact .inr (s.tup hu h)
/-- a pair of integers as a list or a tuple in lowest terms, or an integer: a number -/
inductive Num (K : PySem.W.Frag) (H : Hp) : V → Int × Int → Prop
  | int (n : Int) : Num K H (.int n) (n, 1)
  | sq {p : Addr} {a b : Int} (h : Sq K H p [.int a, .int b]) (c : Canon (a, b)) : Num K H (.ref p) (a, b)
theorem Num.same {K : PySem.W.Frag} {H H' : Hp} {v : V} {q : Int × Int} (s : Same H H') (h : Num K H v q) : Num K H' v q := by
  cases h with
  | int n => exact .int n
  | sq h c => exact .sq (h.same s) c
theorem Num.but {K : PySem.W.Frag} {u : Addr} {H H' : Hp} {v : V} {q : Int × Int} {c : Addr} {ys : List V} (s : But u H H') (hu : H u = some (.lst (.ref c :: ys))) (h : Num K H v q) : Num K H' v q := by
  cases h with
  | int n => exact .int n
  | sq h c => exact .sq (h.but s hu (by intro z; cases z)) c
theorem Num.canon {K : PySem.W.Frag} {H : Hp} {v : V} {q : Int × Int} (h : Num K H v q) : Canon q := by
  cases h with
  | int n => exact ⟨by show (1 : Int) ≤ 1; omega, Nat.gcd_one_right _⟩
  | sq h c => exact c
/-- a tuple that is a number -/
def Pr (K : PySem.W.Frag) (H : Hp) (v : V) (q : Int × Int) : Prop := ∃ p, v = .ref p ∧ SqT K H p [.int q.1, .int q.2]
theorem Pr.same {K : PySem.W.Frag} {H H' : Hp} {v : V} {q : Int × Int} (s : Same H H') (h : Pr K H v q) : Pr K H' v q := by
  obtain ⟨p, e, h⟩ := h
  exact ⟨p, e, same_tup s h⟩
theorem Pr.but {K : PySem.W.Frag} {u : Addr} {H H' : Hp} {v : V} {q : Int × Int} {ys : List V} (s : But u H H') (hu : H u = some (.lst ys)) (h : Pr K H v q) : Pr K H' v q := by
  obtain ⟨p, e, h⟩ := h
  exact ⟨p, e, s.tup hu h⟩
theorem Pr.num {K : PySem.W.Frag} {H : Hp} {v : V} {q : Int × Int} (h : Pr K H v q) (c : Canon q) : Num K H v q := by
  obtain ⟨p, rfl, h⟩ := h
  exact .sq (.inr h) c
/-- what is no number -/
inductive Bad (K : PySem.W.Frag) (H : Hp) : V → Prop
  | scal {v : V} {T : String} (h : TyN K H v T) (h1 : T ≠ "int") (h2 : T ≠ "list") (h3 : T ≠ "tuple") : Bad K H v
  | len {p : Addr} {xs : List V} (h : Sq K H p xs) (l : xs.length ≠ 2) : Bad K H (.ref p)
  | top {p : Addr} {x y : V} {T U : String} (h : Sq K H p [x, y]) (hx : TyN K H x T) (hT : T ≠ "int") (hy : TyN K H y U) : Bad K H (.ref p)
  | und {p : Addr} {a : Int} {y : V} {U : String} (h : Sq K H p [.int a, y]) (hy : TyN K H y U) (hU : U ≠ "int") : Bad K H (.ref p)
  | low {p : Addr} {a b : Int} (h : Sq K H p [.int a, .int b]) (c : ¬ Canon (a, b)) : Bad K H (.ref p)
theorem Bad.same {K : PySem.W.Frag} {H H' : Hp} {v : V} (s : Same H H') (h : Bad K H v) : Bad K H' v := by
  cases h with
  | scal h h1 h2 h3 => exact .scal (h.same s) h1 h2 h3
  | len h l => exact .len (h.same s) l
  | top h hx hT hy => exact .top (h.same s) (hx.same s) hT (hy.same s)
  | und h hy hU => exact .und (h.same s) (hy.same s) hU
  | low h c => exact .low (h.same s) c
/-- of so many bits -/
def Sm (N : Nat) (q : Int × Int) : Prop := q.1.natAbs < 2 ^ N ∧ q.2.natAbs < 2 ^ N
/-- hands back a number as a tuple -/
def RetP (K : PySem.W.Frag) (H : Hp) (q : Int × Int) (Q : VK) : Prop := ∀ H' p, Same H H' → SqT K H' p [.int q.1, .int q.2] → Q (.ref p) H'
/-- hands back a value -/
def RetV (H : Hp) (v : V) (Q : VK) : Prop := ∀ H', Same H H' → Q v H'
/-- raises an error of the class at C with this part -/
def RaiseP (H : Hp) (C : Addr) (part : V) (E : XK) : Prop := ∀ H' d, Same H H' → H' d = some (.xd [(("part" : Str), part)]) → E (.ref C) (some d) H'
theorem RetP.same {K : PySem.W.Frag} {H H' : Hp} {q : Int × Int} {Q : VK} (s : Same H H') (h : RetP K H q Q) : RetP K H' q Q := fun H2 p s2 e => h H2 p (s.trans s2) e
theorem RetV.same {H H' : Hp} {v : V} {Q : VK} (s : Same H H') (h : RetV H v Q) : RetV H' v Q := fun H2 s2 => h H2 (s.trans s2)
theorem RaiseP.same {H H' : Hp} {C : Addr} {part : V} {E : XK} (s : Same H H') (h : RaiseP H C part E) : RaiseP H' C part E := fun H2 d s2 e => h H2 d (s.trans s2) e
theorem st_of {K : PySem.W.Frag} {H : Hp} {a : Addr} {xs : List V} (h : H a = some (.tup xs)) : SqT K H a xs := .inl (.inl h)
theorem sl_of {K : PySem.W.Frag} {H : Hp} {a : Addr} {xs : List V} (h : H a = some (.lst xs)) : SqL K H a xs := .inl (.inl h)
theorem bt_len : bootBuiltins "len" = some (.builtin "len") := by decide +kernel
theorem bt_abs : bootBuiltins "abs" = some (.builtin "abs") := by decide +kernel
theorem bt_repr : bootBuiltins "repr" = some (.builtin "repr") := by decide +kernel
theorem bt_isinstance : bootBuiltins "isinstance" = some (.builtin "isinstance") := by decide +kernel
theorem bt_int : bootBuiltins "int" = some (.type "int") := by decide +kernel
theorem bt_bool : bootBuiltins "bool" = some (.type "bool") := by decide +kernel
theorem bt_str : bootBuiltins "str" = some (.type "str") := by decide +kernel
theorem bt_list : bootBuiltins "list" = some (.type "list") := by decide +kernel
theorem bt_tuple : bootBuiltins "tuple" = some (.type "tuple") := by decide +kernel
theorem bt_range : bootBuiltins "range" = some (.type "range") := by decide +kernel
section
variable {X : Cx} {CX : CXT} {k : Nat} {f : Addr} {fd : FuncData} {ps ks : List Str} {sp : Sp} {E : XK} {x : Str} {p pos : Pos} {kws : List Keyword} {tk : TA} {g : List Value → List Value → List Value} {gV : List V → List V → List V}
/-- f(k = v, ..) -/
theorem pe_callK0 (F : FnOk X.prog X.w X.K X.mg X.base CX k f fd ps sp) (hr : Room k X.A) (hg : Gl X x) (hm : X.mg x = some (.ref f)) (hk : PySem.W.keepIn X.K (.ref f) = true) (hb : KBinds X.K fd ps ks g gV) (hx : Passes CX X E)
    (hkw : PK X kws tk) (hall : (backToKw pos (keywordEach kws X.env)).all (·.1.isSome) = true := by rfl) (hks : (backToKw pos (keywordEach kws X.env)).filterMap (·.1) = ks := by rfl)
    (hdb : (x == ("__debug__" : Str)) = false := by decide) (hpl : ((backTo pos (starEach [] X.env)).any (·.1) || (backToKw pos (keywordEach kws X.env)).any (·.1.isNone)) = false := by rfl) :
    PE X (.Call (.Name x p) [] kws pos) (tCallK sp gV E tNil tk) := by
  refine ⟨fun pins s σ H Q I h => ?_⟩
  refine wpAny_Call_Name_kw (ld_glob I hg hm ?_ hdb)
  refine PySem.W.callWith_KW0 (h₀ := X.base) I.ok.mod.kin hk hall (thn (hkw.run pos pins s σ H _ I h) fun ws s2 ⟨zs, H2, I2, rz, q2⟩ => ⟨I2.kIn, ?_⟩) hpl
  rw [hks]
  exact run_fnk (us := []) F hr hb hx I2 .nil rz q2
/-- repr of a bool, of an int -/
theorem call_reprX : CallR X (.builtin "repr") (fun xs H Q => (∃ i : Int, xs = [.int i] ∧ i.natAbs.log2 < 1920 ∧ Q (.str (toString i)) H) ∨ ∃ b : Bool, xs = [.bl b] ∧ Q (.str (if b then "True" else "False")) H) := by
  intro pins s σ H xs us Q I r h
  rcases h with h | ⟨b, rfl, q⟩
  · exact SkE.call_repr_int pins s σ H xs us Q I r h
  · obtain ⟨u, rfl, e⟩ := vals1 r
    cases e
    exact PySem.P.repr_of_bool (by cases b <;> exact ⟨.str _, H, I.tok _, ⟨_, rfl⟩, q⟩)
end
end Odd
namespace PySem
namespace LowX
open PySem.W PySem.Calls PyProof.Rows PySem.HandSPX
/-! ### the text of __init__ -/
def iA (p1 p2 : Pos) : Arguments := { posonlyargs := [], args := [{ arg := "self", annotation := none, pos := p1 }, { arg := "part", annotation := none, pos := p2 }], vararg := none, kwonlyargs := [], kw_defaults := [], kwarg := none, defaults := [] }
def iB (q1 q2 q3 q4 : Pos) : List Stmt := [.Assign [.Attribute (.Name "self" q1) "part" q2] (.Name "part" q3) q4]
def iS : Scope := { kind := .function, names := [(PySem.Str.ofString "self", .local), (PySem.Str.ofString "part", .local)], isGenerator := false, isCoroutine := false, more := [] }
/-- what the written part says of Low, at C, and of its __init__, at fI -/
structure LowTxt (nx qn : Str) (K : Frag) (mg : Str → Option Value) (C fI : Addr) : Prop where
  gC : mg nx = some (.ref C)
  cls : ∃ nm q N bs bm sn sub ab col dd k0 k1 k2 k3 k5, K.lookup C = some (excClassObj nm q C N bs bm true sn sub ab col dd k0 k1 k2 k3 k5 "ValueError.__new__") ∧ refsVE bm = true
  sa : findIn K (.ref C) "__setattr__" = some (some (.builtin "object.__setattr__"))
  ga : findIn K (.ref C) "__getattribute__" = some (some (.builtin "BaseException.__getattribute__"))
  gg : findIn K (.ref C) "__getattr__" = some none
  noN : findIn K (.ref C) "part" = some none
  iC : findIn K (.ref C) "__init__" = some (some (.ref fI))
  tC : typeIn K (.ref fI) = some (.type "function")
  kC : keepIn K (.ref C) = true
  exC : subIn K (.ref C) (.type "BaseException") = some true
  tyC : typeIn K (.ref C) = some (.type "type")
  hdC : hasDictIn K C = true
  te : exmOne K (.ref C) (.ref C) = some true
  fn : ∃ (oc : Value) (od : Option Addr) (doc pm : Value) (an : Option Addr) (cdv ct : Value) (osl : Array (Option Value)) (p1 p2 q1 q2 q3 q4 : Pos),
    K.lookup fI = some ⟨oc, od, .func (fnOf "__init__" qn (iA p1 p2) (iB q1 q2 q3 q4) iS .none .none doc pm an cdv ct), osl⟩ ∧ codeIn K cdv qn = true
theorem one_size (v : Value) : [v].length ≤ sizeLine := by
  rw [sizeLine_eq]
  exact (by decide : 1 ≤ 16777216)
theorem kept_but {K : Frag} {h h' : Heap} {x : Addr} (X : K.In h) (hx : K.lookup x = none) (k : ∀ b o, b ≠ x → h.get? b = some o → h'.get? b = some o) : K.In h' := fun a o e =>
  k a o (fun z => by rw [z, hx] at e; cases e) (X a o e)
theorem ldC {M : Model} {s : Shared} {name : Str} {scope : Scope} {L a : Addr} {cd : Value} {m : Str → Option Value} {x : Str} {pos : Pos} {v : Value} {Q : Value → Shared → Prop} {A : Around} {E : Value → Shared → Prop} (hn : s.heap.Ns L m) (hv : m x = some v) (h : Q v s)
    (hk : scope.kind = .function := by rfl) (hl : (envOfC name scope L a cd).kindOf x = some .local := by rfl) (hd : (x == ("__debug__" : Str)) = false := by decide) :
    wpAny M A (eval (.Name x pos) (envOfC name scope L a cd)) Q E s := wpAny_Name (wpAny_loadName_local hk hl hn hv h) hd
/-- what __init__ leaves of a fresh exception at x -/
structure InitEnd (h h' : Heap) (x C dx t1 : Addr) (v : Value) : Prop where
  keep : ∀ b o, b ≠ x → h.get? b = some o → h'.get? b = some o
  obj : h'.get? x = some { cls := .ref C, dict := some dx, data := .fields #[.ref t1, .none, .none, .none, .bool false, .none] }
  dbig : h.objs.size ≤ dx
  dne : dx ≠ x
  ns : h'.Ns1 dx (fun y => if y = "part" then some v else none)
/-- a made Low -/
structure OwnMade (h h' : Heap) (e C d : Addr) (v : Value) : Prop where
  keep : ∀ b o, h.get? b = some o → h'.get? b = some o
  new : h.objs.size ≤ e
  obj : ∃ oe vs, h'.get? e = some oe ∧ oe.cls = .ref C ∧ oe.dict = some d ∧ oe.data = .fields vs ∧ vs[1]? = some .none
  dbig : h.objs.size ≤ d
  dne : d ≠ e
  ns : h'.Ns1 d (fun y => if y = "part" then some v else none)
section
variable {prog : Program} {w : World} {A : Around} {E : Value → Shared → Prop} {R : Result → Shared → Prop} {s : Shared} {K : Frag} {mg : Str → Option Value} {C fI : Addr} {nx qn : Str}
theorem low_init (T : LowTxt nx qn K mg C fI) {x t0 : Addr} {v : Value} (X : K.In s.heap) (hlim : s.heap.NoLimit) (hx : s.heap.get? x = some (excO C t0)) (hnx : K.lookup x = none) (hroom : A.depth < recursionLimit)
    (hq : ∀ h' tk dx, InitEnd s.heap h' x C dx t0 v → R (.ok (.ret .none)) { s with heap := h', toks := tk }) :
    codeAny (model prog w) A (.call (.ref fI) ⟨[.ref x, v], []⟩) R s := by
  obtain ⟨oc, od, doc, pm, an, cdv, ct, osl, p1, p2, q1, q2, q3, q4, ho, hcd⟩ := T.fn
  obtain ⟨nm, q, N, bs, bm, sn, sub, ab, col, dd, k0, k1, k2, k3, k5, hC, hbm⟩ := T.cls
  have hcl : clsIn K C = some { name := nm, bases := bs, mro := .ref C :: bm, ns := N, qualname := q, hasDict := true, slotNames := sn, subclasses := sub, abstract := ab, collection := col, hasDel := false } := by unfold clsIn; rw [hC] <;> rfl
  refine Att.call_fn (binds := [("self", .ref x), ("part", v)]) X hlim ho hcd hroom (BindsTo.of_eq (by first | rfl | with_unfolding_all rfl)) (by first | rfl | decide | with_unfolding_all rfl) (fun s₁ IC => ?_) rfl rfl rfl
  obtain ⟨h₁, tk₁, rfl⟩ := IC.toInCall.same
  have k : ∀ b o, s.heap.get? b = some o → h₁.get? b = some o := IC.toInCall.keep
  have hn := IC.toInCall.ns
  have hxL : s.heap.objs.size ≠ x := Nat.ne_of_gt (Heap.lt_size hx)
  have X₁ : K.In h₁ := X.keeps k
  have hx₁ := k _ _ hx
  -- self.by = by
  show wpAny _ _ (execs _ _) _ _ _
  refine wpAny_execs_cons (plainObj_wpAny_Assign_Attribute ?_)
  refine ldC (v := v) hn (by first | rfl | with_unfolding_all rfl | kernel_rfl) (ldC (v := .ref x) hn (by first | rfl | with_unfolding_all rfl | kernel_rfl) ?_)
  refine set_plain X₁ (ox := excO C t0) (od := none) ⟨hx₁, rfl, rfl, trivial⟩ T.sa ?_
  refine exc_osa X₁ hx₁ hcl (show refsVE (.ref C :: bm) = true from hbm) rfl T.noN (fun h₃ tk₃ dx k₃ dn dne hx₃ hn₃ => ?_)
  show wpAny _ _ (execs _ _) _ _ _
  have z : s.heap.objs.size < h₁.objs.size := hn.lt
  exact wpAny_execs_nil (hq h₃ tk₃ dx ⟨fun b o hb e => k₃ b o hb (k b o e), hx₃, Nat.le_of_lt (Nat.lt_of_lt_of_le z dn), dne, hn₃⟩)
theorem low_made (T : LowTxt nx qn K mg C fI) {v : Value} (X : K.In s.heap) (hlim : s.heap.NoLimit) (hroom : A.depth + 1 < recursionLimit)
    (hq : ∀ h' tk e d, OwnMade s.heap h' e C d v → R (.ok (.ret (.ref e))) { s with heap := h', toks := tk }) :
    codeAny (model prog w) A (.call (.ref C) ⟨[v], []⟩) R s := by
  obtain ⟨nm, q, N, bs, bm, sn, sub, ab, col, dd, k0, k1, k2, k3, k5, hC, hbm⟩ := T.cls
  obtain ⟨hp, g, dr, tk, os⟩ := s
  have k : ∀ b o, hp.get? b = some o → ((hp.push (kdv_tup [v])).push (excO C hp.objs.size)).get? b = some o := fun b o e => Heap.get?_push_of_some _ (Heap.get?_push_of_some _ e)
  have hget : ((hp.push (kdv_tup [v])).push (excO C hp.objs.size)).get? (hp.objs.size + 1) = some (excO C hp.objs.size) := by heap_get
  have hnx : K.lookup (hp.objs.size + 1) = none := by
    cases e : K.lookup (hp.objs.size + 1) with
    | none => rfl
    | some o =>
      have z : hp.get? (hp.objs.size + 1) = some o := X _ _ e
      exact absurd (Nat.lt_of_succ_lt (Heap.lt_size z)) (Nat.lt_irrefl _)
  refine call_own F.excBase_ValueError (fun X => refsVE_contains X bm hbm) (X _ _ hC) (looks_findIn X T.iC) (fun self => bind_fn X self T.tC) (one_size v) ?_
  refine low_init (s := ⟨(hp.push (kdv_tup [v])).push (excO C hp.objs.size), g, dr, tk, os⟩) T (X.keeps k) (hlim.keeps k) hget hnx ?_ fun h' tk' dx ⟨k', hx, dn, dne, hns⟩ => ?_
  · show A.depth + 1 < recursionLimit
    exact hroom
  · have old : ∀ b o, hp.get? b = some o → h'.get? b = some o := fun b o e => k' b o (Nat.ne_of_lt (Nat.lt_succ_of_lt (Heap.lt_size e))) (k b o e)
    have z : hp.objs.size + 1 + 1 ≤ dx := by
      first
        | (simpa only [Heap.size_push] using dn)
        | exact dn
        | (have q := dn; rw [Heap.size_push, Heap.size_push] at q; exact q)
    exact ⟨rfl, hq h' tk' (hp.objs.size + 1) dx ⟨old, Nat.le_succ _, ⟨_, _, hx, rfl, rfl, rfl, rfl⟩, Nat.le_trans (Nat.le_trans (Nat.le_succ _) (Nat.le_succ _)) z, dne, hns⟩⟩
end
end LowX
end PySem
namespace L2
open PySem PySem.Spec PyProof.Rows
theorem relO_low {v : V} {v' : Value} (r : RelV v v') (f : Str) : RelO (List.lookup f [(("part" : Str), v)]) (if f = "part" then some v' else none) := by
  by_cases hw : f = "part"
  · subst hw
    rw [if_pos rfl]
    have q : List.lookup ("part" : Str) [(("part" : Str), v)] = some v := by simp [List.lookup]
    rw [q]
    exact r
  · rw [if_neg hw]
    have qw : (f == ("part" : Str)) = false := by simpa using hw
    have q2 : List.lookup f [(("part" : Str), v)] = none := by simp [List.lookup, qw]
    rw [q2]
    trivial
section
variable {X : Cx} {C fI : Addr} {nx qn : Str}
/-- Low(e) -/
def tMkLow (C : Addr) (ta : TA) : St → Hp → XK → Prop := fun σ H Q => ta σ H fun vs H1 => ∃ v, vs = [v] ∧ ∀ d, H1 d = none → Q (.ref C) (some d) (upd H1 d (.xd [(("part" : Str), v)]))
theorem pmk_low {a : Expr} {ta : TA} {p pos : Pos} {k : Nat} (T : PySem.LowX.LowTxt nx qn X.K X.mg C fI) (hr : Room k X.A) (ha : PA X [a] ta) (hg : Gl X nx := by rfl) (hnd : (nx == ("__debug__" : Str)) = false := by decide)
    (he : starEach (a :: []) X.env = (false, eval a X.env) :: starEach [] X.env := by rfl) (hpl : (backTo pos (starEach [] X.env)).any (·.1) = false := by rfl) :
    PMk X (.Call (.Name nx p) [a] [] pos) (tMkLow C ta) := by
  intro pins s σ H Q I h
  refine wpAny_Call_Name_kw (ld_glob I hg T.gC ?_ hnd)
  refine PySem.W.callWith_K (h₀ := X.base) I.ok.mod.kin T.kC (thn (ha.run pos pins s σ H _ I h) fun us s1 hh => ?_) he hpl
  obtain ⟨vs, H1, I1, r1, v, ev, q1⟩ := hh
  subst ev
  refine ⟨I1.kIn, ?_⟩
  cases r1 with
  | cons rv rn =>
    rename_i v' us'
    cases rn
    show wpAny _ _ (call (.ref C) [v']) _ _ _
    have hlim := I1.nolimit
    obtain ⟨hp, g, dr, tk, os⟩ := s1
    refine wpAny_call (PySem.LowX.low_made T I1.kIn hlim (by have := hr.dp; omega) fun h' tk' e d M => ?_)
    show MkP X pins σ Q (.ref e) ⟨h', g, dr, tk', os⟩
    obtain ⟨oe, fv, hoe, hc, hd, hdat, h1⟩ := M.obj
    have hns := M.ns
    obtain ⟨G', g1, g2⟩ := restrict h' fun b => decide (b ≠ e)
    have gk : ∀ b, b ≠ e → G'.get? b = h'.get? b := fun b hb => g1 b (decide_eq_true hb)
    have ge : G'.get? e = none := g2 e (by simp)
    have old : ∀ b o, hp.get? b = some o → G'.get? b = some o := fun b o q => (gk b (Nat.ne_of_lt (Nat.lt_of_lt_of_le (Heap.lt_size q) M.new))).trans (M.keep b o q)
    have ob : ObjOk X.prog X.w (upd H1 d (.xd [(("part" : Str), v)])) G' d (.xd [(("part" : Str), v)]) :=
      ⟨_, hns.at (fun o q => (gk d M.dne).trans q), fun f => relO_low rv f⟩
    have J : Inv X pins σ (upd H1 d (.xd [(("part" : Str), v)])) ⟨G', g, dr, tk', os⟩ := I1.laid (t' := tk') old M.dbig ob
    refine ⟨e, oe, fv, ⟨G', g, dr, tk', os⟩, _, .ref C, some d, rfl, J, fun b o q => ?_, ge, hoe, ⟨hc, hd⟩, hdat, h1, ?_, rfl, I1.bare, raises_own T.exC T.tyC, q1 d (I1.hok.fresh M.dbig)⟩
    · by_cases hb : b = e
      · have q' : G'.get? b = some o := q
        rw [hb, ge] at q'; cases q'
      · exact (gk b hb).symm.trans q
    · rw [upd_ne (Ne.symm M.dne)]
      exact I1.hok.fresh M.new
/-- raise Low(e) -/
def tRaiseLow (C : Addr) (W : WX) (ta : TA) : TS := fun _ σ H => tMkLow C ta σ H fun cls d H' => W cls d σ H'
theorem ps_raiseLow {a : Expr} {ta : TA} {W : WX} {p pos pos2 : Pos} {k : Nat} (hc : X.calm = true) (T : PySem.LowX.LowTxt nx qn X.K X.mg C fI) (hr : Room k X.A) (tk : Takes X W) (ha : PA X [a] ta) (hg : Gl X nx := by rfl) (hnd : (nx == ("__debug__" : Str)) = false := by decide)
    (he : starEach (a :: []) X.env = (false, eval a X.env) :: starEach [] X.env := by rfl) (hpl : (backTo pos (starEach [] X.env)).any (·.1) = false := by rfl) :
    PS X (.Raise (some (.Call (.Name nx p) [a] [] pos)) none pos2) (tRaiseLow C W ta) := ps_raise hc tk (pmk_low T hr ha hg hnd he hpl)
/-- low.by, low the exception that the suite holds (at a; its class cls, its dict d) -/
def tByLow (C : Addr) (a : Addr) (cls : Value) (d : Option Addr) (te : TE) : TE := fun σ H Q => te σ H fun x H1 => x = .ref a ∧ cls = .ref C ∧ ∃ (dd : Addr) (v : V), d = some dd ∧ H1 dd = some (.xd [(("part" : Str), v)]) ∧ Q v H1
theorem pe_byLow {a : Addr} {oe : Obj} {cls : Value} {d : Option Addr} {pn : List (Addr × Obj)} {e : Expr} {te : TE} {pos : Pos} (T : PySem.LowX.LowTxt nx qn X.K X.mg C fI) (hz : Zc cls d oe) (hf : ∃ vs, oe.data = .fields vs) (he : PE (X.suite a ((a, oe) :: pn)) e te)
    (hb : attributeBase e "part" X.env (eval e X.env) = eval e X.env := by rfl) :
    PE (X.suite a ((a, oe) :: pn)) (.Attribute e "part" pos) (tByLow C a cls d te) := by
  refine ⟨fun pins s σ H Q I h => ?_⟩
  refine attr_of hb (thn (he.run pins s σ H _ I h) fun u s1 hh => ?_)
  obtain ⟨x, H1, I1, rx, ex, ec, dd, v, ed, ea, q⟩ := hh
  subst ex
  obtain rfl : u = Value.ref a := rx
  subst ec
  subst ed
  obtain ⟨ha, _⟩ := I1.pin (a, oe) (List.mem_append_left _ List.mem_cons_self)
  obtain ⟨vs, hd⟩ := hf
  have hx : ObjOk X.prog X.w H1 s1.heap dd (.xd [(("part" : Str), v)]) := I1.hok dd _ ea
  obtain ⟨mA, hns, hr⟩ := hx
  obtain ⟨od, ho, hl⟩ := lookIn_ns hns
  have l : List.lookup ("part" : Str) [(("part" : Str), v)] = some v := by simp [List.lookup]
  obtain ⟨u, hu, ru⟩ := RelO.some_of (v := v) (o := mA "part") (by rw [← l]; exact hr "part")
  have J : PySem.W.InstAt s1.heap a oe C (some od) := ⟨ha, hz.1, by unfold PySem.W.notCls; rw [hd] <;> rfl, by rw [hz.2]; exact ho⟩
  exact HandSPX.exc_get I1.kIn J T.ga T.gg T.exC (PySem.W.findObj_own T.hdC T.noN rfl (by rw [hl, hu])) (handed_of ru) ⟨v, H1, I1.tok _, ru, q⟩
end
end L2

namespace L2
open PySem PySem.Spec PyProof.Rows
/-- an if whose test is known -/
theorem if_true_of {c : Bool} {A B : Prop} (hc : c = true) (h : A) : if c = true then A else B := by
  rw [if_pos hc]
  exact h
theorem if_false_of {c : Bool} {A B : Prop} (hc : c = false) (h : B) : if c = true then A else B := by
  rw [hc, if_neg Bool.false_ne_true]
  exact h
end L2
namespace Odd
open PySem PySem.Spec PyProof.Rows L2
/-! ### small rules that readings use -/
theorem cx_K {CX : CXT} {P : Program} {w : World} {K : PySem.W.Frag} {mg : Str → Option Value} {base : Heap} {N : List Str} {qual : Str} {sc : Scope} {f : Addr} {cd : Value} {A : Around} {outer : List Env} {s : Shared} {H : Hp} {E : XK} :
    (cxOf CX P w K mg base N qual sc f cd A outer s H E).K = K := rfl
theorem cx_Kn {X : Cx} : (Cx.nox X).K = X.K := rfl
def gSeq (K : PySem.W.Frag) (n : Nat) (t : TGs) : TG := fun v σ H Q => ∃ a xs, v = .ref a ∧ Sq K H a xs ∧ xs.length = n ∧ t xs σ H Q
theorem pg_seq2 {X : Cx} {pos : Pos} {es : List Expr} {k : Nat} {t : TGs} {n : Nat} (hc : X.calm = true) (h : PGs X es t)
    (hn : (assignEach es X.env).length = n := by rfl) (hst : (assignEach es X.env).findIdx? (·.1) = none := by rfl) : PG X (.Tuple es k pos) (gSeq X.K n t) := by
  refine ⟨fun pins s σ H v u Q I r hw => ?_⟩
  obtain ⟨a, xs, e1, hq, hl, hw⟩ := hw
  rcases hq with hq | hq
  · exact (pg_lst hc h hn hst).run pins s σ H v u Q I r ⟨a, xs, e1, hq, hl, hw⟩
  · exact (pg_tup hc h hn hst).run pins s σ H v u Q I r ⟨a, xs, e1, hq, hl, hw⟩
section
variable {K : PySem.W.Frag} {H H0 : Hp} {Q : VK} {p : Addr} {xs : List V} {v : V} {i : Int}
theorem ixT (h : SqT K H p xs) (e : atI xs i = some v) (q : Q v H) : rIxT K (.ref p) (.int i) H Q := ⟨p, xs, i, v, rfl, rfl, h, e, q⟩
theorem ixL (h : SqL K H p xs) (e : atI xs i = some v) (q : Q v H) : rIxL K (.ref p) (.int i) H Q := ⟨p, xs, i, v, rfl, rfl, h, e, q⟩
theorem ty_int {T : String} (h : TyN K H v T) (q : Q (.bl (T == "int" || T == "bool")) H) : rIsi K [v, .ty "int"] H Q := by
  refine ⟨v, .ty "int", .type T, .type "int", _, rfl, .ty _, h.x, ?_, q⟩
  cases h <;> exact kit_ty (by decide +kernel)
theorem ty_bool {T : String} (h : TyN K H v T) (q : Q (.bl (T == "bool")) H) : rIsi K [v, .ty "bool"] H Q := by
  refine ⟨v, .ty "bool", .type T, .type "bool", _, rfl, .ty _, h.x, ?_, q⟩
  cases h <;> exact kit_ty (by decide +kernel)
theorem ty_tuple {T : String} (h : TyN K H v T) (q : Q (.bl (T == "tuple")) H) : rIsi K [v, .ty "tuple"] H Q := by
  refine ⟨v, .ty "tuple", .type T, .type "tuple", _, rfl, .ty _, h.x, ?_, q⟩
  cases h <;> exact kit_ty (by decide +kernel)
theorem ty_str {T : String} (h : TyN K H v T) (q : Q (.bl (T == "str")) H) : rIsi K [v, .ty "str"] H Q := by
  refine ⟨v, .ty "str", .type T, .type "str", _, rfl, .ty _, h.x, ?_, q⟩
  cases h <;> exact kit_ty (by decide +kernel)
theorem kl (T : String) (h : TyN K H v T) : PySem.W.kitOne K (.type T) (.type "list") = some (T == "list") := by
  cases h <;> exact kit_ty (by decide +kernel)
theorem kt (T : String) (h : TyN K H v T) : PySem.W.kitOne K (.type T) (.type "tuple") = some (T == "tuple") := by
  cases h <;> exact kit_ty (by decide +kernel)
theorem ty_row {T : String} (h : TyN K H v T) (hp : H p = some (.tup [.ty "list", .ty "tuple"])) (q : Q (.bl (T == "list" || T == "tuple")) H) : rIsiT K [v, .ref p] H Q := by
  refine ⟨v, p, _, .type T, [.type "list", .type "tuple"], _, rfl, hp, .cons (.ty _) (.cons (.ty _) .nil), h.x, ?_, q⟩
  refine kitAny_cons (kl T h) (fun e => ?_) (fun e => by rw [e] <;> rfl)
  rw [e, Bool.false_or]
  exact kitAny_cons (kt T h) (fun e => by rw [e]; exact kitAny_nil) (fun e => e)
end
theorem TyN.intI {K : PySem.W.Frag} {H : Hp} {v : V} {T : String} (h : TyN K H v T) (e : T = "int") : ∃ i, v = .int i := by
  cases h <;> first | exact ⟨_, rfl⟩ | exact absurd e (by decide)
theorem seq_by {t u : TS} {D : Ends} {σ : L2.St} {H : Hp} (h : ∀ N, N = u D → t { D with nx := N } σ H) : tSeq t u D σ H := h _ rfl
theorem dpAll_ints {K : PySem.W.Frag} {H : Hp} : ∀ ns : List Int, DpAll K H (ns.map V.int) (ns.map PyData.int)
  | [] => .nil
  | n :: ns => .cons (.int n) (dpAll_ints ns)
theorem dp_ints {K : PySem.W.Frag} {H : Hp} {a : Addr} {ns : List Int} (h : SqL K H a (ns.map V.int)) : Dp K H (.ref a) (.list (ns.map PyData.int)) := .lst h (dpAll_ints ns)
theorem dp_intsT {K : PySem.W.Frag} {H : Hp} {a : Addr} {ns : List Int} (h : SqT K H a (ns.map V.int)) : Dp K H (.ref a) (.tuple (ns.map PyData.int)) := .tup h (dpAll_ints ns)
theorem lay_ints : ∀ ns : List Int, PyData.canLayAll0 (ns.map PyData.int) = true
  | [] => by simp [PyData.canLayAll0]
  | n :: ns => by simp [PyData.canLayAll0, PyData.canLay0, lay_ints ns]
theorem dep_ints : ∀ ns : List Int, PyData.depthAll (ns.map PyData.int) = 0
  | [] => by simp [PyData.depthAll]
  | n :: ns => by simp [PyData.depthAll, PyData.depth, dep_ints ns]
theorem sh_ints (ns : List Int) : SeqAt.shaped (.list (ns.map PyData.int)) = true := by
  simp [SeqAt.shaped, PyData.canLay0, PyData.depth, lay_ints, dep_ints]
theorem sh_intsT (ns : List Int) : SeqAt.shaped (.tuple (ns.map PyData.int)) = true := by
  simp [SeqAt.shaped, PyData.canLay0, PyData.depth, lay_ints, dep_ints]
theorem eqv_ints : ∀ ns ms : List Int, PyData.eqvAll (ns.map PyData.int) (ms.map PyData.int) = decide (ns = ms)
  | [], [] => by simp [PyData.eqvAll]
  | [], m :: ms => by simp [PyData.eqvAll]
  | n :: ns, [] => by simp [PyData.eqvAll]
  | n :: ns, m :: ms => by
    rw [List.map_cons, List.map_cons, PyData.eqvAll, eqv_ints ns ms, PyData.eqv, Bool.eq_iff_iff]
    simp
section
variable {X : Cx} {CX : CXT} {k : Nat} {f : Addr} {fd : FuncData} {ps ks : List Str} {sp : Sp} {E : XK} {x : Str} {p pos : Pos} {kws : List Keyword} {tk : TA} {g : List Value → List Value → List Value} {gV : List V → List V → List V}
/-- f(k = v, ..) -/
theorem pe_callN0 (F : FnOk X.prog X.w X.K X.mg X.base CX k f fd ps sp) (hr : Room k X.A) (hg : Gl X x) (hm : X.mg x = some (.ref f)) (hk : PySem.W.keepIn X.K (.ref f) = true) (hb : KBn X.K fd ps 0 ks g gV) (hx : Passes CX X E)
    (hkw : PK X kws tk) (hall : (backToKw pos (keywordEach kws X.env)).all (·.1.isSome) = true := by rfl) (hks : (backToKw pos (keywordEach kws X.env)).filterMap (·.1) = ks := by rfl)
    (hdb : (x == ("__debug__" : Str)) = false := by decide) (hpl : ((backTo pos (starEach [] X.env)).any (·.1) || (backToKw pos (keywordEach kws X.env)).any (·.1.isNone)) = false := by rfl) :
    PE X (.Call (.Name x p) [] kws pos) (tCallN 0 ks.length sp gV E tNil tk) := by
  refine ⟨fun pins s σ H Q I h => ?_⟩
  refine wpAny_Call_Name_kw (ld_glob I hg hm ?_ hdb)
  refine PySem.W.callWith_KW0 (h₀ := X.base) I.ok.mod.kin hk hall (thn (hkw.run pos pins s σ H _ I h) fun ws s2 ⟨zs, H2, I2, rz, l1, l2, q2⟩ => ⟨I2.kIn, ?_⟩) hpl
  rw [hks]
  exact run_fnN (us := []) F hr hb hx I2 .nil rz l1 l2 q2
end
/-- a def without defaults, called by keywords alone, in the parameters' order -/
theorem fun_kb {K : PySem.W.Frag} {x qual : Str} {st : Stmt} {f : Addr} {fd : FuncData} {ps : List Str} (F : Fun K x qual st f fd)
    (h : ∀ (kV doc pm : Value) (an : Option Addr) (cdv ct : Value) (ws : List Value), ws.length = ps.length → bindArgs (PySem.W.fnOf x qual (defArgs st) (defBody st) (defScope st) .none kV doc pm an cdv ct) ⟨[], ps.zip ws⟩ = pure (ps.zip ws)) : KBn K fd ps 0 ps (fun _ ws => ws) (fun _ zs => zs) := by
  obtain ⟨oc, od, kV, doc, pm, an, cdv, ct, osl, rfl, lk, hcd⟩ := F.ex
  refine ⟨fun s us ws X l1 l2 => ?_, fun _ r => r⟩
  obtain rfl := List.eq_nil_of_length_eq_zero l1
  exact .of_eq (h kV doc pm an cdv ct ws l2)
/-- a def with defaults, called by keywords alone -/
theorem funD_kb {K : PySem.W.Frag} {x qual : Str} {params : Arguments} {body : List Stmt} {scope : Scope} {dvs : List V} {f : Addr} {fd : FuncData} {ps ks : List Str} {j : Nat} (F : FunD K x qual params body scope dvs [] f fd) (hd : dvs ≠ [])
    (h : ∀ (T : Addr) (kV doc pm : Value) (an : Option Addr) (cdv ct : Value) (its ws : List Value), its.length = dvs.length → ws.length = ks.length →
      ∃ k, bindArgs (PySem.W.fnOf x qual params body scope (.ref T) kV doc pm an cdv ct) ⟨[], ks.zip ws⟩ = seqItems? (.ref T) >>= k ∧ k (some its.toArray) = pure (ps.zip (ws ++ its.drop j))) :
    ∃ its : List Value, KBn K fd ps 0 ks (fun _ ws => ws ++ its.drop j) (fun _ zs => zs ++ dvs.drop j) := by
  obtain ⟨oc, od, dV, kV, doc, pm, an, cdv, ct, osl, rfl, lk, hcd, hD, hK⟩ := F.ex
  rcases hD with ⟨e, _⟩ | ⟨_, T, o, its, m, rfl, lT, oT, rT⟩
  · exact absurd e hd
  · refine ⟨its, fun s us ws X l1 l2 => ?_, fun _ r => r.append (rT.drop j)⟩
    obtain rfl := List.eq_nil_of_length_eq_zero l1
    obtain ⟨k, e1, e2⟩ := h T kV doc pm an cdv ct its ws rT.length.symm l2
    refine BindsTo.of_looks fun M => ?_
    rw [e1]
    exact looks_items X lT oT (.of_pure e2)
theorem call_reprB {X : Cx} : CallR X (.builtin "repr") (fun xs H Q => ∃ b : Bool, xs = [.bl b] ∧ Q (.str (if b = true then "True" else "False")) H) := fun pins s σ H xs us Q I r h => call_reprX pins s σ H xs us Q I r (.inr h)
theorem call_reprI {X : Cx} : CallR X (.builtin "repr") (fun xs H Q => ∃ i : Int, xs = [.int i] ∧ i.natAbs.log2 < 1920 ∧ Q (.str (toString i)) H) := fun pins s σ H xs us Q I r h => call_reprX pins s σ H xs us Q I r (.inl h)
def optV : Option Int → V
  | none => .non
  | some i => .int i
theorem is_int {K : PySem.W.Frag} {H : Hp} {v : V} (T : String) (h : TyN K H v T) : ((T == "int" || T == "bool") && !(T == "bool")) = (T == "int") := by
  cases h <;> decide
theorem Num.ty {K : PySem.W.Frag} {H : Hp} {v : V} {q : Int × Int} (h : Num K H v q) : ∃ T, TyN K H v T ∧ (T = "int" ∨ T = "list" ∨ T = "tuple") := by
  cases h with
  | int n => exact ⟨_, .int n, .inl rfl⟩
  | sq h c =>
    rcases h with h | h
    · exact ⟨_, .lst h, .inr (.inl rfl)⟩
    · exact ⟨_, .tup h, .inr (.inr rfl)⟩
theorem Sq.ty {K : PySem.W.Frag} {H : Hp} {p : Addr} {xs : List V} (h : Sq K H p xs) : ∃ T, TyN K H (.ref p) T ∧ (T == "list" || T == "tuple") = true := by
  rcases h with h | h
  · exact ⟨_, .lst h, by decide⟩
  · exact ⟨_, .tup h, by decide⟩
end Odd
namespace Odd
open PySem PySem.Spec PyProof.Rows L2
def topS (i : Nat) : Stmt := PySem.Challenge.pw_oddsquares_k01_numbers_in_lowest_terms.main.body.getD i (.Pass ⟨0, 0, 0, 0⟩)
abbrev s_lowest : Stmt := topS 2
theorem sc_lowest : FnScope ["top", "under", "part"] ["top", "under"] (defScope s_lowest) := ⟨rfl, rfl, rfl, by decide +kernel, rfl, by decide +kernel, by decide +kernel⟩
abbrev s_pair_of : Stmt := topS 3
theorem sc_pair_of : FnScope ["value"] ["value"] (defScope s_pair_of) := ⟨rfl, rfl, rfl, by decide +kernel, rfl, by decide +kernel, by decide +kernel⟩
abbrev s_sum_of : Stmt := topS 4
theorem sc_sum_of : FnScope ["one", "other"] ["one", "other"] (defScope s_sum_of) := ⟨rfl, rfl, rfl, by decide +kernel, rfl, by decide +kernel, by decide +kernel⟩
abbrev s_difference : Stmt := topS 5
theorem sc_difference : FnScope ["one", "other"] ["one", "other"] (defScope s_difference) := ⟨rfl, rfl, rfl, by decide +kernel, rfl, by decide +kernel, by decide +kernel⟩
abbrev s_product_of : Stmt := topS 6
theorem sc_product_of : FnScope ["one", "other"] ["one", "other"] (defScope s_product_of) := ⟨rfl, rfl, rfl, by decide +kernel, rfl, by decide +kernel, by decide +kernel⟩
abbrev s_quotient : Stmt := topS 7
theorem sc_quotient : FnScope ["one", "other"] ["one", "other"] (defScope s_quotient) := ⟨rfl, rfl, rfl, by decide +kernel, rfl, by decide +kernel, by decide +kernel⟩
abbrev s_is_below : Stmt := topS 8
theorem sc_is_below : FnScope ["one", "other"] ["one", "other"] (defScope s_is_below) := ⟨rfl, rfl, rfl, by decide +kernel, rfl, by decide +kernel, by decide +kernel⟩
abbrev s_sign : Stmt := topS 9
theorem sc_sign : FnScope ["top"] ["top"] (defScope s_sign) := ⟨rfl, rfl, rfl, by decide +kernel, rfl, by decide +kernel, by decide +kernel⟩
abbrev s_is_integer : Stmt := topS 11
theorem sc_is_integer : FnScope ["value"] ["value"] (defScope s_is_integer) := ⟨rfl, rfl, rfl, by decide +kernel, rfl, by decide +kernel, by decide +kernel⟩
abbrev s_is_within : Stmt := topS 12
theorem sc_is_within : FnScope ["value", "least", "most"] ["value", "least", "most"] (defScope s_is_within) := ⟨rfl, rfl, rfl, by decide +kernel, rfl, by decide +kernel, by decide +kernel⟩
abbrev s_is_row : Stmt := topS 13
theorem sc_is_row : FnScope ["value"] ["value"] (defScope s_is_row) := ⟨rfl, rfl, rfl, by decide +kernel, rfl, by decide +kernel, by decide +kernel⟩
abbrev s_is_pair : Stmt := topS 14
theorem sc_is_pair : FnScope ["value"] ["value"] (defScope s_is_pair) := ⟨rfl, rfl, rfl, by decide +kernel, rfl, by decide +kernel, by decide +kernel⟩
abbrev s_is_number : Stmt := topS 15
theorem sc_is_number : FnScope ["value", "top", "under"] ["value"] (defScope s_is_number) := ⟨rfl, rfl, rfl, by decide +kernel, rfl, by decide +kernel, by decide +kernel⟩
abbrev s_number_in : Stmt := topS 20
theorem sc_number_in : FnScope ["value", "part"] ["value", "part"] (defScope s_number_in) := ⟨rfl, rfl, rfl, by decide +kernel, rfl, by decide +kernel, by decide +kernel⟩
abbrev s_number : Stmt := topS 22
theorem sc_number : FnScope ["top", "under"] ["top", "under"] (defScope s_number) := ⟨rfl, rfl, rfl, by decide +kernel, rfl, by decide +kernel, by decide +kernel⟩
abbrev s_plus : Stmt := topS 23
theorem sc_plus : FnScope ["one", "other"] ["one", "other"] (defScope s_plus) := ⟨rfl, rfl, rfl, by decide +kernel, rfl, by decide +kernel, by decide +kernel⟩
abbrev s_minus : Stmt := topS 24
theorem sc_minus : FnScope ["one", "other"] ["one", "other"] (defScope s_minus) := ⟨rfl, rfl, rfl, by decide +kernel, rfl, by decide +kernel, by decide +kernel⟩
abbrev s_times : Stmt := topS 25
theorem sc_times : FnScope ["one", "other"] ["one", "other"] (defScope s_times) := ⟨rfl, rfl, rfl, by decide +kernel, rfl, by decide +kernel, by decide +kernel⟩
abbrev s_over : Stmt := topS 26
theorem sc_over : FnScope ["one", "other", "part", "by"] ["one", "other"] (defScope s_over) := ⟨rfl, rfl, rfl, by decide +kernel, rfl, by decide +kernel, by decide +kernel⟩
abbrev s_is_less : Stmt := topS 27
theorem sc_is_less : FnScope ["one", "other"] ["one", "other"] (defScope s_is_less) := ⟨rfl, rfl, rfl, by decide +kernel, rfl, by decide +kernel, by decide +kernel⟩
abbrev s_sign_of : Stmt := topS 28
theorem sc_sign_of : FnScope ["value"] ["value"] (defScope s_sign_of) := ⟨rfl, rfl, rfl, by decide +kernel, rfl, by decide +kernel, by decide +kernel⟩
abbrev s__law_urn : Stmt := topS 30
theorem sc__law_urn : FnScope ["script", "cell"] ["script"] (defScope s__law_urn) := ⟨rfl, rfl, rfl, by decide +kernel, rfl, by decide +kernel, by decide +kernel⟩
abbrev s__law_spill : Stmt := topS 31
theorem sc__law_spill : FnScope ["urn", "many", "rest", "at", "cell", "mixed"] ["urn", "many"] (defScope s__law_spill) := ⟨rfl, rfl, rfl, by decide +kernel, rfl, by decide +kernel, by decide +kernel⟩
abbrev s__law_one_of : Stmt := topS 32
theorem sc__law_one_of : FnScope ["urn", "some"] ["urn", "some"] (defScope s__law_one_of) := ⟨rfl, rfl, rfl, by decide +kernel, rfl, by decide +kernel, by decide +kernel⟩
abbrev s__law_shared : Stmt := topS 33
theorem sc__law_shared : FnScope ["one", "other", "a", "b", "turn"] ["one", "other"] (defScope s__law_shared) := ⟨rfl, rfl, rfl, by decide +kernel, rfl, by decide +kernel, by decide +kernel⟩
abbrev s__law_size : Stmt := topS 34
theorem sc__law_size : FnScope ["urn", "way"] ["urn"] (defScope s__law_size) := ⟨rfl, rfl, rfl, by decide +kernel, rfl, by decide +kernel, by decide +kernel⟩
abbrev s__law_drawn : Stmt := topS 35
theorem sc__law_drawn : FnScope ["urn", "top", "under", "shared"] ["urn"] (defScope s__law_drawn) := ⟨rfl, rfl, rfl, by decide +kernel, rfl, by decide +kernel, by decide +kernel⟩
abbrev s__law_passed : Stmt := topS 36
theorem sc__law_passed : FnScope ["urn", "pair"] ["urn", "pair"] (defScope s__law_passed) := ⟨rfl, rfl, rfl, by decide +kernel, rfl, by decide +kernel, by decide +kernel⟩
abbrev s__law_is_pair : Stmt := topS 37
theorem sc__law_is_pair : FnScope ["value", "top", "under", "part"] ["value", "top", "under"] (defScope s__law_is_pair) := ⟨rfl, rfl, rfl, by decide +kernel, rfl, by decide +kernel, by decide +kernel⟩
abbrev s__law_done : Stmt := topS 38
theorem sc__law_done : FnScope ["way", "one", "other"] ["way", "one", "other"] (defScope s__law_done) := ⟨rfl, rfl, rfl, by decide +kernel, rfl, by decide +kernel, by decide +kernel⟩
abbrev s__law_part : Stmt := topS 39
theorem sc__law_part : FnScope ["way", "one", "other", "part", "error"] ["way", "one", "other"] (defScope s__law_part) := ⟨rfl, rfl, rfl, by decide +kernel, rfl, by decide +kernel, by decide +kernel⟩
abbrev s__law_sums_right : Stmt := topS 40
theorem sc__law_sums_right : FnScope ["urn", "a", "b", "one", "other", "under", "told"] ["urn"] (defScope s__law_sums_right) := ⟨rfl, rfl, rfl, by decide +kernel, rfl, by decide +kernel, by decide +kernel⟩
abbrev s__law_made_right : Stmt := topS 41
theorem sc__law_made_right : FnScope ["urn", "top", "under", "told", "bad", "good", "way"] ["urn"] (defScope s__law_made_right) := ⟨rfl, rfl, rfl, by decide +kernel, rfl, by decide +kernel, by decide +kernel⟩
abbrev s_law : Stmt := topS 42
theorem sc_law : FnScope ["script", "urn", "turn", "low", "value"] ["script"] (defScope s_law) := ⟨rfl, rfl, rfl, by decide +kernel, rfl, by decide +kernel, by decide +kernel⟩
structure Ads where
  (f_lowest : Addr) (d_lowest : FuncData)
  (f_pair_of : Addr) (d_pair_of : FuncData)
  (f_sum_of : Addr) (d_sum_of : FuncData)
  (f_difference : Addr) (d_difference : FuncData)
  (f_product_of : Addr) (d_product_of : FuncData)
  (f_quotient : Addr) (d_quotient : FuncData)
  (f_is_below : Addr) (d_is_below : FuncData)
  (f_sign : Addr) (d_sign : FuncData)
  (f_is_integer : Addr) (d_is_integer : FuncData)
  (f_is_within : Addr) (d_is_within : FuncData)
  (f_is_row : Addr) (d_is_row : FuncData)
  (f_is_pair : Addr) (d_is_pair : FuncData)
  (f_is_number : Addr) (d_is_number : FuncData)
  (f_number_in : Addr) (d_number_in : FuncData)
  (f_number : Addr) (d_number : FuncData)
  (f_plus : Addr) (d_plus : FuncData)
  (f_minus : Addr) (d_minus : FuncData)
  (f_times : Addr) (d_times : FuncData)
  (f_over : Addr) (d_over : FuncData)
  (f_is_less : Addr) (d_is_less : FuncData)
  (f_sign_of : Addr) (d_sign_of : FuncData)
  (f__law_urn : Addr) (d__law_urn : FuncData)
  (f__law_spill : Addr) (d__law_spill : FuncData)
  (f__law_one_of : Addr) (d__law_one_of : FuncData)
  (f__law_shared : Addr) (d__law_shared : FuncData)
  (f__law_size : Addr) (d__law_size : FuncData)
  (f__law_drawn : Addr) (d__law_drawn : FuncData)
  (f__law_passed : Addr) (d__law_passed : FuncData)
  (f__law_is_pair : Addr) (d__law_is_pair : FuncData)
  (f__law_done : Addr) (d__law_done : FuncData)
  (f__law_part : Addr) (d__law_part : FuncData)
  (f__law_sums_right : Addr) (d__law_sums_right : FuncData)
  (f__law_made_right : Addr) (d__law_made_right : FuncData)
  (f_law : Addr) (d_law : FuncData)
  (c_BadNumber i_BadNumber : Addr)
structure DefOk (K : PySem.W.Frag) (mg : Str → Option Value) (x : Str) (st : Stmt) (f : Addr) (fd : FuncData) (ps : List Str) : Prop where
  g : mg x = some (.ref f)
  F : Fun K x x st f fd
  b : Binds K fd ps []
/-- number(top, under=1) -/
structure DefOkD (K : PySem.W.Frag) (mg : Str → Option Value) (f : Addr) (fd : FuncData) : Prop where
  g : mg "number" = some (.ref f)
  F : FunD K "number" "number" (defArgs s_number) (defBody s_number) (defScope s_number) [.int 1] [] f fd
structure Txt (K : PySem.W.Frag) (mg : Str → Option Value) (A : Ads) : Prop where
  lowest : DefOk K mg "lowest" s_lowest A.f_lowest A.d_lowest ["top", "under"]
  pair_of : DefOk K mg "pair_of" s_pair_of A.f_pair_of A.d_pair_of ["value"]
  sum_of : DefOk K mg "sum_of" s_sum_of A.f_sum_of A.d_sum_of ["one", "other"]
  difference : DefOk K mg "difference" s_difference A.f_difference A.d_difference ["one", "other"]
  product_of : DefOk K mg "product_of" s_product_of A.f_product_of A.d_product_of ["one", "other"]
  quotient : DefOk K mg "quotient" s_quotient A.f_quotient A.d_quotient ["one", "other"]
  is_below : DefOk K mg "is_below" s_is_below A.f_is_below A.d_is_below ["one", "other"]
  sign : DefOk K mg "sign" s_sign A.f_sign A.d_sign ["top"]
  is_integer : DefOk K mg "is_integer" s_is_integer A.f_is_integer A.d_is_integer ["value"]
  is_within : DefOk K mg "is_within" s_is_within A.f_is_within A.d_is_within ["value", "least", "most"]
  is_row : DefOk K mg "is_row" s_is_row A.f_is_row A.d_is_row ["value"]
  is_pair : DefOk K mg "is_pair" s_is_pair A.f_is_pair A.d_is_pair ["value"]
  is_number : DefOk K mg "is_number" s_is_number A.f_is_number A.d_is_number ["value"]
  number_in : DefOk K mg "number_in" s_number_in A.f_number_in A.d_number_in ["value", "part"]
  plus : DefOk K mg "plus" s_plus A.f_plus A.d_plus ["one", "other"]
  minus : DefOk K mg "minus" s_minus A.f_minus A.d_minus ["one", "other"]
  times : DefOk K mg "times" s_times A.f_times A.d_times ["one", "other"]
  over : DefOk K mg "over" s_over A.f_over A.d_over ["one", "other"]
  is_less : DefOk K mg "is_less" s_is_less A.f_is_less A.d_is_less ["one", "other"]
  sign_of : DefOk K mg "sign_of" s_sign_of A.f_sign_of A.d_sign_of ["value"]
  _law_urn : DefOk K mg "_law_urn" s__law_urn A.f__law_urn A.d__law_urn ["script"]
  _law_spill : DefOk K mg "_law_spill" s__law_spill A.f__law_spill A.d__law_spill ["urn", "many"]
  _law_one_of : DefOk K mg "_law_one_of" s__law_one_of A.f__law_one_of A.d__law_one_of ["urn", "some"]
  _law_shared : DefOk K mg "_law_shared" s__law_shared A.f__law_shared A.d__law_shared ["one", "other"]
  _law_size : DefOk K mg "_law_size" s__law_size A.f__law_size A.d__law_size ["urn"]
  _law_drawn : DefOk K mg "_law_drawn" s__law_drawn A.f__law_drawn A.d__law_drawn ["urn"]
  _law_passed : DefOk K mg "_law_passed" s__law_passed A.f__law_passed A.d__law_passed ["urn", "pair"]
  _law_is_pair : DefOk K mg "_law_is_pair" s__law_is_pair A.f__law_is_pair A.d__law_is_pair ["value", "top", "under"]
  _law_done : DefOk K mg "_law_done" s__law_done A.f__law_done A.d__law_done ["way", "one", "other"]
  _law_part : DefOk K mg "_law_part" s__law_part A.f__law_part A.d__law_part ["way", "one", "other"]
  _law_sums_right : DefOk K mg "_law_sums_right" s__law_sums_right A.f__law_sums_right A.d__law_sums_right ["urn"]
  _law_made_right : DefOk K mg "_law_made_right" s__law_made_right A.f__law_made_right A.d__law_made_right ["urn"]
  law : DefOk K mg "law" s_law A.f_law A.d_law ["script"]
  number : DefOkD K mg A.f_number A.d_number
  low_BadNumber : PySem.LowX.LowTxt "BadNumber" "BadNumber.__init__" K mg A.c_BadNumber A.i_BadNumber
  n_len : mg "len" = none
  n_abs : mg "abs" = none
  n_repr : mg "repr" = none
  n_isinstance : mg "isinstance" = none
  n_int : mg "int" = none
  n_bool : mg "bool" = none
  n_list : mg "list" = none
  n_tuple : mg "tuple" = none
  n_range : mg "range" = none
  g_gcd : mg "gcd" = some (.builtin "math.gcd")
end Odd
namespace Odd
open PySem PySem.Spec PyProof.Rows L2
local macro_rules | `(tactic| walk_at "vc") => `(tactic| simp only [tSeq, tAsg, gName, tCB, tCons, tNil, tVar, tC, tOp, tUn, rI0, rI, rU, tTup, tLst, tIfS, tTest, tB, tRet, tNext, rGcd, L2.start, List.map, List.set, List.replicate, List.cons_append, List.nil_append, List.length_cons, List.length_nil, List.getElem?_cons_succ, List.getElem?_cons_zero, Option.some.injEq, exists_eq_left', exists_eq_left, List.append_nil, List.cons.injEq, V.int.injEq, exists_and_left, and_true, true_and, and_assoc, exists_const, V.bl.injEq, V.ref.injEq, Nat.sub_self, Nat.reduceAdd, Nat.reduceSub, List.replicate_succ, List.replicate_zero, tAnd, tOr, tNot, tAndV, tOrV, tNotV, tIf, tCall, tCallK, tDrop, rEq, rNe, decide_eq_true_eq, Bool.not_eq_true', decide_eq_false_iff_not, Bool.false_eq_true, if_true, if_false, reduceIte, reduceCtorEq, tMkLow, tRaiseLow, rIsB, rNotB, tBreak, tPar, gSub, rSetL, tChain, gTup, gCons, gNil, gSeq, cx_K, cx_Kn, optV, V.str.injEq, Bool.not_true, Bool.not_false, false_and, and_false, or_false, false_or, exists_false, tCallN, tCallS, tPairs])
theorem iteN {A B : Prop} (h : A) : if false = false then A else B := by
  rw [if_pos rfl]
  exact h
theorem iteF' {A B : Prop} {b : Bool} (hb : b = true) (h : B) : if b = false then A else B := by
  subst hb
  rw [if_neg (by decide)]
  exact h
section
variable {P : Program} {w : World} {K : PySem.W.Frag} {mg : Str → Option Value} {base : Heap} {A : Ads}
def spLowest (K : PySem.W.Frag) : Sp := fun vs H Q _ => ∃ t u : Int, vs = [.int t, .int u] ∧ u ≠ 0 ∧ u.natAbs < 2 ^ 8000 ∧ RetP K H (low t u) Q
theorem ok_lowest (T : Txt K mg A) : FnOk P w K mg base CX0 1 A.f_lowest A.d_lowest ["top", "under"] (spLowest K) := by
  refine T.lowest.F.ok sc_lowest (fun vs H Q E h => ?_) (fun cdv A' outer s H vs Q E hr h => ?_)
  · obtain ⟨t, u, rfl, _⟩ := h; rfl
  · obtain ⟨t, u, rfl, hu, hb, q⟩ := h
    refine ⟨_, (pss_cons (ps_set (i := 2) sc_lowest.nd rfl (.inl rfl) (pe_callBfun cr_gcd (by rfl) T.g_gcd (pa_cons (pv 0) (pa_cons (pv 1) pa_nil))))
      (pss_cons (ps_if (pt_cmpR op_lt (pv 1) pe_int (nomark _)) (pss_one (ps_set (i := 2) sc_lowest.nd rfl (.inl rfl) (pe_un un_neg (pv 2)))) pss_nil)
      (pss_one (ps_ret (pe_tup (pa_cons (pe_op op_fdivX (pv 0) (pv 2)) (pa_cons (pe_op op_fdivX (pv 1) (pv 2)) pa_nil))))))), ?_⟩
    walk_at "vc"
    have hg : 0 < Nat.gcd t.natAbs u.natAbs := Nat.gcd_pos_of_pos_right _ (by omega)
    have hl : Nat.gcd t.natAbs u.natAbs ≤ u.natAbs := Nat.le_of_dvd (by omega) (Nat.gcd_dvd_right _ _)
    have hd : Nat.gcd t.natAbs u.natAbs < 2 ^ 8000 := Nat.lt_of_le_of_lt hl hb
    split
    · rename_i hn
      have d : ∀ x, CDivX x (-((Nat.gcd t.natAbs u.natAbs : Nat) : Int)) := fun x => divx (by omega) (b := 8000) (by rw [Int.natAbs_neg]; exact hd) (by decide) (by decide)
      refine ⟨d _, d _, by decide, fun p hp => q _ p (same_upd hp) (st_of ?_)⟩
      unfold low
      rw [if_pos hn, upd_same]
    · rename_i hn
      have d : ∀ x, CDivX x ((Nat.gcd t.natAbs u.natAbs : Nat) : Int) := fun x => divx (by omega) (b := 8000) hd (by decide) (by decide)
      refine ⟨d _, d _, by decide, fun p hp => q _ p (same_upd hp) (st_of ?_)⟩
      unfold low
      rw [if_neg hn, upd_same]
def spPairOf (K : PySem.W.Frag) : Sp := fun vs H Q _ => ∃ v a, vs = [v] ∧ Num K H v a ∧ RetP K H a Q
theorem ok_pair_of (T : Txt K mg A) : FnOk P w K mg base CX0 1 A.f_pair_of A.d_pair_of ["value"] (spPairOf K) := by
  refine T.pair_of.F.ok sc_pair_of (fun vs H Q E h => ?_) (fun cdv A' outer s H vs Q E hr h => ?_)
  · obtain ⟨t, u, rfl, _⟩ := h; rfl
  · obtain ⟨v, a, rfl, hn, q⟩ := h
    refine ⟨_, (pss_cons (ps_if (pt_val (pe_callB call_isiT (by rfl) T.n_isinstance bt_isinstance (pa_cons (pv 0) (pa_cons (pe_tup (pa_cons (pe_bltn (v := .ty "list") (by rfl) T.n_list bt_list rfl) (pa_cons (pe_bltn (v := .ty "tuple") (by rfl) T.n_tuple bt_tuple rfl) pa_nil))) pa_nil)))) (pss_one (ps_ret (pe_callTy call_tuple_of (by rfl) T.n_tuple bt_tuple (pa_cons (pv 0) pa_nil)))) pss_nil)
      (pss_one (ps_ret (pe_tup (pa_cons (pv 0) (pa_cons pe_int pa_nil)))))), ?_⟩
    walk_at "vc"
    refine ⟨by decide, fun p hp => ?_⟩
    have sp := same_upd (o := .tup [.ty "list", .ty "tuple"]) hp
    cases hn with
    | int n =>
      refine ty_row (.int n) upd_same ⟨_, rfl, iteF ⟨by decide, fun p2 hp2 => q _ _ (sp.trans (same_upd hp2)) (st_of upd_same)⟩⟩
    | sq h c =>
      obtain ⟨U, hU, e⟩ := (h.same sp).ty
      refine ty_row hU upd_same ⟨_, rfl, ?_⟩
      rw [e]
      refine iteT ⟨_, rfl, ?_⟩
      rcases h with h | h
      · exact ⟨_, .inl ⟨sp.seq h, fun l hl => q _ _ (sp.trans (same_upd hl)) (st_of upd_same)⟩⟩
      · exact ⟨_, .inr ⟨same_tup sp h, q _ _ sp (same_tup sp h)⟩⟩
def spPP (K : PySem.W.Frag) (f : Int × Int → Int × Int → Int × Int) (ok : Int × Int → Int × Int → Prop) : Sp := fun vs H Q _ => ∃ v u a b, vs = [v, u] ∧ Pr K H v a ∧ Pr K H u b ∧ Sm 4000 a ∧ Sm 4000 b ∧ ok a b ∧ RetP K H (f a b) Q
def fAdd (a b : Int × Int) : Int × Int := low (a.1 * b.2 + b.1 * a.2) (a.2 * b.2)
def fSub (a b : Int × Int) : Int × Int := low (a.1 * b.2 - b.1 * a.2) (a.2 * b.2)
def fMul (a b : Int × Int) : Int × Int := low (a.1 * b.1) (a.2 * b.2)
def fDiv (a b : Int × Int) : Int × Int := low (a.1 * b.2) (a.2 * b.1)
def okU (a b : Int × Int) : Prop := a.2 ≠ 0 ∧ b.2 ≠ 0
def okD (a b : Int × Int) : Prop := a.2 ≠ 0 ∧ b.1 ≠ 0
theorem mul4 {i j : Int} (ha : i.natAbs < 2 ^ 4000) (hb : j.natAbs < 2 ^ 4000) : CMulW i j := wide_mul ha hb (by decide) (by decide) (by decide)
theorem mul8 {i j : Int} (ha : i.natAbs < 2 ^ 4000) (hb : j.natAbs < 2 ^ 4000) : (i * j).natAbs < 2 ^ 8000 := wide_lt ha hb
theorem ok_sum_of (T : Txt K mg A) : FnOk P w K mg base CX0 2 A.f_sum_of A.d_sum_of ["one", "other"] (spPP K fAdd okU) := by
  refine T.sum_of.F.ok sc_sum_of (fun vs H Q E h => ?_) (fun cdv A' outer s H vs Q E hr h => ?_)
  · obtain ⟨t, u, _, _, rfl, _⟩ := h; rfl
  · obtain ⟨v, u, a, b, rfl, ⟨p, rfl, hp⟩, ⟨r, rfl, hq⟩, ⟨a1, a2⟩, ⟨b1, b2⟩, ⟨h3, h4⟩, q⟩ := h
    refine ⟨_, (pss_one (ps_ret (pe_call (ok_lowest T) (hr.mono (by decide)) (by rfl) T.lowest.g T.lowest.F.kp T.lowest.b .nil pass0 (pa_cons (pe_op op_add (pe_op op_mulW (pe_ix ix_tup (pv 0) pe_int (fun _ _ => rfl)) (pe_ix ix_tup (pv 1) pe_int (fun _ _ => rfl))) (pe_op op_mulW (pe_ix ix_tup (pv 1) pe_int (fun _ _ => rfl)) (pe_ix ix_tup (pv 0) pe_int (fun _ _ => rfl)))) (pa_cons (pe_op op_mulW (pe_ix ix_tup (pv 0) pe_int (fun _ _ => rfl)) (pe_ix ix_tup (pv 1) pe_int (fun _ _ => rfl))) pa_nil))))), ?_⟩
    walk_at "vc"
    refine ixT hp rfl (ixT hq rfl ⟨_, rfl, _, rfl, mul4 a1 b2, ixT hq rfl (ixT hp rfl ⟨_, rfl, _, rfl, mul4 b1 a2, ixT hp rfl (ixT hq rfl ⟨_, rfl, _, rfl, mul4 a2 b2, ?_⟩)⟩)⟩)
    exact ⟨_, _, rfl, Int.mul_ne_zero h3 h4, mul8 a2 b2, q⟩
theorem ok_difference (T : Txt K mg A) : FnOk P w K mg base CX0 2 A.f_difference A.d_difference ["one", "other"] (spPP K fSub okU) := by
  refine T.difference.F.ok sc_difference (fun vs H Q E h => ?_) (fun cdv A' outer s H vs Q E hr h => ?_)
  · obtain ⟨t, u, _, _, rfl, _⟩ := h; rfl
  · obtain ⟨v, u, a, b, rfl, ⟨p, rfl, hp⟩, ⟨r, rfl, hq⟩, ⟨a1, a2⟩, ⟨b1, b2⟩, ⟨h3, h4⟩, q⟩ := h
    refine ⟨_, (pss_one (ps_ret (pe_call (ok_lowest T) (hr.mono (by decide)) (by rfl) T.lowest.g T.lowest.F.kp T.lowest.b .nil pass0 (pa_cons (pe_op op_sub (pe_op op_mulW (pe_ix ix_tup (pv 0) pe_int (fun _ _ => rfl)) (pe_ix ix_tup (pv 1) pe_int (fun _ _ => rfl))) (pe_op op_mulW (pe_ix ix_tup (pv 1) pe_int (fun _ _ => rfl)) (pe_ix ix_tup (pv 0) pe_int (fun _ _ => rfl)))) (pa_cons (pe_op op_mulW (pe_ix ix_tup (pv 0) pe_int (fun _ _ => rfl)) (pe_ix ix_tup (pv 1) pe_int (fun _ _ => rfl))) pa_nil))))), ?_⟩
    walk_at "vc"
    refine ixT hp rfl (ixT hq rfl ⟨_, rfl, _, rfl, mul4 a1 b2, ixT hq rfl (ixT hp rfl ⟨_, rfl, _, rfl, mul4 b1 a2, ixT hp rfl (ixT hq rfl ⟨_, rfl, _, rfl, mul4 a2 b2, ?_⟩)⟩)⟩)
    exact ⟨_, _, rfl, Int.mul_ne_zero h3 h4, mul8 a2 b2, q⟩
theorem ok_product_of (T : Txt K mg A) : FnOk P w K mg base CX0 2 A.f_product_of A.d_product_of ["one", "other"] (spPP K fMul okU) := by
  refine T.product_of.F.ok sc_product_of (fun vs H Q E h => ?_) (fun cdv A' outer s H vs Q E hr h => ?_)
  · obtain ⟨t, u, _, _, rfl, _⟩ := h; rfl
  · obtain ⟨v, u, a, b, rfl, ⟨p, rfl, hp⟩, ⟨r, rfl, hq⟩, ⟨a1, a2⟩, ⟨b1, b2⟩, ⟨h3, h4⟩, q⟩ := h
    refine ⟨_, (pss_one (ps_ret (pe_call (ok_lowest T) (hr.mono (by decide)) (by rfl) T.lowest.g T.lowest.F.kp T.lowest.b .nil pass0 (pa_cons (pe_op op_mulW (pe_ix ix_tup (pv 0) pe_int (fun _ _ => rfl)) (pe_ix ix_tup (pv 1) pe_int (fun _ _ => rfl))) (pa_cons (pe_op op_mulW (pe_ix ix_tup (pv 0) pe_int (fun _ _ => rfl)) (pe_ix ix_tup (pv 1) pe_int (fun _ _ => rfl))) pa_nil))))), ?_⟩
    walk_at "vc"
    refine ixT hp rfl (ixT hq rfl ⟨_, rfl, _, rfl, mul4 a1 b1, ixT hp rfl (ixT hq rfl ⟨_, rfl, _, rfl, mul4 a2 b2, ?_⟩)⟩)
    exact ⟨_, _, rfl, Int.mul_ne_zero h3 h4, mul8 a2 b2, q⟩
theorem ok_quotient (T : Txt K mg A) : FnOk P w K mg base CX0 2 A.f_quotient A.d_quotient ["one", "other"] (spPP K fDiv okD) := by
  refine T.quotient.F.ok sc_quotient (fun vs H Q E h => ?_) (fun cdv A' outer s H vs Q E hr h => ?_)
  · obtain ⟨t, u, _, _, rfl, _⟩ := h; rfl
  · obtain ⟨v, u, a, b, rfl, ⟨p, rfl, hp⟩, ⟨r, rfl, hq⟩, ⟨a1, a2⟩, ⟨b1, b2⟩, ⟨h3, h4⟩, q⟩ := h
    refine ⟨_, (pss_one (ps_ret (pe_call (ok_lowest T) (hr.mono (by decide)) (by rfl) T.lowest.g T.lowest.F.kp T.lowest.b .nil pass0 (pa_cons (pe_op op_mulW (pe_ix ix_tup (pv 0) pe_int (fun _ _ => rfl)) (pe_ix ix_tup (pv 1) pe_int (fun _ _ => rfl))) (pa_cons (pe_op op_mulW (pe_ix ix_tup (pv 0) pe_int (fun _ _ => rfl)) (pe_ix ix_tup (pv 1) pe_int (fun _ _ => rfl))) pa_nil))))), ?_⟩
    walk_at "vc"
    refine ixT hp rfl (ixT hq rfl ⟨_, rfl, _, rfl, mul4 a1 b2, ixT hp rfl (ixT hq rfl ⟨_, rfl, _, rfl, mul4 a2 b1, ?_⟩)⟩)
    exact ⟨_, _, rfl, Int.mul_ne_zero h3 h4, mul8 a2 b1, q⟩
def spBelow (K : PySem.W.Frag) : Sp := fun vs H Q _ => ∃ v u a b, vs = [v, u] ∧ Pr K H v a ∧ Pr K H u b ∧ Sm 4000 a ∧ Sm 4000 b ∧ RetV H (.bl (decide (a.1 * b.2 < b.1 * a.2))) Q
theorem ok_is_below (T : Txt K mg A) : FnOk P w K mg base CX0 1 A.f_is_below A.d_is_below ["one", "other"] (spBelow K) := by
  refine T.is_below.F.ok sc_is_below (fun vs H Q E h => ?_) (fun cdv A' outer s H vs Q E hr h => ?_)
  · obtain ⟨t, u, _, _, rfl, _⟩ := h; rfl
  · obtain ⟨v, u, a, b, rfl, ⟨p, rfl, hp⟩, ⟨r, rfl, hq⟩, ⟨a1, a2⟩, ⟨b1, b2⟩, q⟩ := h
    refine ⟨_, (pss_one (ps_ret (pe_cmpR op_lt (pe_op op_mulW (pe_ix ix_tup (pv 0) pe_int (fun _ _ => rfl)) (pe_ix ix_tup (pv 1) pe_int (fun _ _ => rfl))) (pe_op op_mulW (pe_ix ix_tup (pv 1) pe_int (fun _ _ => rfl)) (pe_ix ix_tup (pv 0) pe_int (fun _ _ => rfl))) (nomark _)))), ?_⟩
    walk_at "vc"
    refine ixT hp rfl (ixT hq rfl ⟨_, rfl, _, rfl, mul4 a1 b2, ixT hq rfl (ixT hp rfl ⟨_, rfl, _, rfl, mul4 b1 a2, ?_⟩)⟩)
    exact q H (Same.refl H)
def sgn (a : Int) : Int := if 0 < a then 1 else if a < 0 then -1 else 0
def spSign : Sp := fun vs H Q _ => ∃ a : Int, vs = [.int a] ∧ RetV H (.int (sgn a)) Q
theorem ok_sign (T : Txt K mg A) : FnOk P w K mg base CX0 1 A.f_sign A.d_sign ["top"] spSign := by
  refine T.sign.F.ok sc_sign (fun vs H Q E h => ?_) (fun cdv A' outer s H vs Q E hr h => ?_)
  · obtain ⟨t, rfl, _⟩ := h; rfl
  · obtain ⟨a, rfl, q⟩ := h
    refine ⟨_, (pss_cons (ps_if (pt_cmpR op_gt (pv 0) pe_int (nomark _)) (pss_one (ps_ret pe_int)) pss_nil)
      (pss_cons (ps_if (pt_cmpR op_lt (pv 0) pe_int (nomark _)) (pss_one (ps_ret (pe_un un_neg pe_int))) pss_nil)
      (pss_one (ps_ret pe_int)))), ?_⟩
    walk_at "vc"
    have q := q H (Same.refl H)
    unfold sgn at q
    split
    · rename_i h; rw [if_pos h] at q; exact q
    · rename_i h
      rw [if_neg h] at q
      split
      · rename_i h; rw [if_pos h] at q; exact q
      · rename_i h; rw [if_neg h] at q; exact q
def spIsInteger (K : PySem.W.Frag) : Sp := fun vs H Q _ => ∃ v U, vs = [v] ∧ TyN K H v U ∧ RetV H (.bl (U == "int")) Q
theorem ok_is_integer (T : Txt K mg A) : FnOk P w K mg base CX0 1 A.f_is_integer A.d_is_integer ["value"] (spIsInteger K) := by
  refine T.is_integer.F.ok sc_is_integer (fun vs H Q E h => ?_) (fun cdv A' outer s H vs Q E hr h => ?_)
  · obtain ⟨_, _, rfl, _⟩ := h; rfl
  · obtain ⟨v, U, rfl, hv, q⟩ := h
    refine ⟨_, (pss_one (ps_ret (pe_and (pe_callB call_isi (by rfl) T.n_isinstance bt_isinstance (pa_cons (pv 0) (pa_cons (pe_bltn (v := .ty "int") (by rfl) T.n_int bt_int rfl) pa_nil))) (pe_one (pe_not (pe_callB call_isi (by rfl) T.n_isinstance bt_isinstance (pa_cons (pv 0) (pa_cons (pe_bltn (v := .ty "bool") (by rfl) T.n_bool bt_bool rfl) pa_nil)))))))), ?_⟩
    walk_at "vc"
    have q := q H (Same.refl H)
    refine ty_int hv ⟨_, rfl, ?_⟩
    cases e : (U == "int" || U == "bool") with
    | true =>
      refine iteT (ty_bool hv ⟨_, rfl, ?_⟩)
      rw [← is_int U hv, e] at q
      exact q
    | false =>
      refine iteF ?_
      rw [← is_int U hv, e] at q
      exact q
def spWithin (K : PySem.W.Frag) : Sp := fun vs H Q _ => ∃ v lo hi, vs = [v, optV lo, optV hi] ∧ ((∃ U, TyN K H v U ∧ U ≠ "int" ∧ RetV H (.bl false) Q) ∨ ∃ n, v = .int n ∧ RetV H (.bl (lo.all (fun l => decide (l ≤ n)) && hi.all (fun m => decide (n ≤ m)))) Q)
theorem ok_is_within (T : Txt K mg A) : FnOk P w K mg base CX0 2 A.f_is_within A.d_is_within ["value", "least", "most"] (spWithin K) := by
  refine T.is_within.F.ok sc_is_within (fun vs H Q E h => ?_) (fun cdv A' outer s H vs Q E hr h => ?_)
  · obtain ⟨_, _, _, rfl, _⟩ := h; rfl
  · obtain ⟨v, lo, hi, rfl, h⟩ := h
    refine ⟨_, (pss_cons (ps_if (pt_not (pt_val (pe_call (ok_is_integer T) (hr.mono (by decide)) (by rfl) T.is_integer.g T.is_integer.F.kp T.is_integer.b .nil pass0 (pa_cons (pv 0) pa_nil)))) (pss_one (ps_ret pe_bl)) pss_nil)
      (pss_cons (ps_if (PW.pt (pw_and (pt_cmpR op_notN (pv 1) pe_non (nomark _)) (pw_and1 (pt_cmpR op_lt (pv 0) (pv 1) (nomark _))))) (pss_one (ps_ret pe_bl)) pss_nil)
      (pss_one (ps_ret (pe_or (pe_cmpR op_isN (pv 2) pe_non (nomark _)) (pe_one (pe_cmpR op_le (pv 0) (pv 2) (nomark _)))))))), ?_⟩
    walk_at "vc"
    rcases h with ⟨U, hv, hU, q⟩ | ⟨n, rfl, q⟩
    · refine ⟨v, U, rfl, hv, fun H' sH => ⟨_, rfl, ?_⟩⟩
      rw [beq_false_of_ne hU]
      exact q H' sH
    · refine ⟨_, _, rfl, .int n, fun H' sH => ⟨_, rfl, ?_⟩⟩
      have q := q H' sH
      rw [if_neg (by decide)]
      cases lo with
      | none =>
        cases hi with
        | none => walk_at "vc"; exact q
        | some m => walk_at "vc"; simpa using q
      | some l =>
        by_cases hl : l ≤ n
        · cases hi with
          | none =>
            have hl' : ¬ n < l := by omega
            simp [hl, hl'] at q ⊢
            exact q
          | some m =>
            have hl' : ¬ n < l := by omega
            simp [hl, hl'] at q ⊢
            exact q
        · have hl' : n < l := by omega
          cases hi with
          | none =>
            simp [hl, hl'] at q ⊢
            exact q
          | some m =>
            simp [hl, hl'] at q ⊢
            exact q
def spIsRow (K : PySem.W.Frag) : Sp := fun vs H Q _ => ∃ v U, vs = [v] ∧ TyN K H v U ∧ RetV H (.bl (U == "list" || U == "tuple")) Q
theorem ok_is_row (T : Txt K mg A) : FnOk P w K mg base CX0 1 A.f_is_row A.d_is_row ["value"] (spIsRow K) := by
  refine T.is_row.F.ok sc_is_row (fun vs H Q E h => ?_) (fun cdv A' outer s H vs Q E hr h => ?_)
  · obtain ⟨_, _, rfl, _⟩ := h; rfl
  · obtain ⟨v, U, rfl, hv, q⟩ := h
    refine ⟨_, (pss_one (ps_ret (pe_callB call_isiT (by rfl) T.n_isinstance bt_isinstance (pa_cons (pv 0) (pa_cons (pe_tup (pa_cons (pe_bltn (v := .ty "list") (by rfl) T.n_list bt_list rfl) (pa_cons (pe_bltn (v := .ty "tuple") (by rfl) T.n_tuple bt_tuple rfl) pa_nil))) pa_nil))))), ?_⟩
    walk_at "vc"
    refine ⟨by decide, fun p hp => ?_⟩
    have sp := same_upd (o := .tup [.ty "list", .ty "tuple"]) hp
    exact ty_row (hv.same sp) upd_same (q _ sp)
/-- is_pair: a list or tuple of two | no list, no tuple | one of another length -/
def spIsPair (K : PySem.W.Frag) : Sp := fun vs H Q _ => ∃ v, vs = [v] ∧ ((∃ U, TyN K H v U ∧ U ≠ "list" ∧ U ≠ "tuple" ∧ RetV H (.bl false) Q) ∨ (∃ p xs, v = .ref p ∧ Sq K H p xs ∧ RetV H (.bl (decide (xs.length = 2))) Q))
theorem ok_is_pair (T : Txt K mg A) : FnOk P w K mg base CX0 2 A.f_is_pair A.d_is_pair ["value"] (spIsPair K) := by
  refine T.is_pair.F.ok sc_is_pair (fun vs H Q E h => ?_) (fun cdv A' outer s H vs Q E hr h => ?_)
  · obtain ⟨_, rfl, _⟩ := h; rfl
  · obtain ⟨v, rfl, h⟩ := h
    refine ⟨_, (pss_one (ps_ret (pe_and (pe_call (ok_is_row T) (hr.mono (by decide)) (by rfl) T.is_row.g T.is_row.F.kp T.is_row.b .nil pass0 (pa_cons (pv 0) pa_nil)) (pe_one (pe_cmpR op_eq (pe_callB call_len_seq (by rfl) T.n_len bt_len (pa_cons (pv 0) pa_nil)) pe_int (nomark _)))))), ?_⟩
    walk_at "vc"
    rcases h with ⟨U, hv, h1, h2, q⟩ | ⟨p, xs, rfl, hx, q⟩
    · refine ⟨v, U, rfl, hv, fun H' sH => ⟨_, rfl, ?_⟩⟩
      rw [beq_false_of_ne h1, beq_false_of_ne h2]
      exact iteF (q H' sH)
    · obtain ⟨U, hU, e⟩ := hx.ty
      refine ⟨_, U, rfl, hU, fun H' sH => ⟨_, rfl, ?_⟩⟩
      rw [e]
      refine iteT ?_
      walk_at "vc"
      have q := q H' sH
      have e2 : decide ((xs.length : Int) = 2) = decide (xs.length = 2) := by
        by_cases z : xs.length = 2
        · rw [decide_eq_true z, decide_eq_true (by omega)]
        · rw [decide_eq_false z, decide_eq_false (by omega)]
      refine ⟨xs, hx.same sH, rfl, ?_⟩
      rw [e2]
      exact q
def spIsNumber (K : PySem.W.Frag) : Sp := fun vs H Q _ => ∃ v, vs = [v] ∧ ((∃ q, Num K H v q ∧ RetV H (.bl true) Q) ∨ (Bad K H v ∧ RetV H (.bl false) Q))
theorem ok_is_number (T : Txt K mg A) : FnOk P w K mg base CX0 3 A.f_is_number A.d_is_number ["value"] (spIsNumber K) := by
  refine T.is_number.F.ok sc_is_number (fun vs H Q E h => ?_) (fun cdv A' outer s H vs Q E hr h => ?_)
  · obtain ⟨_, rfl, _⟩ := h; rfl
  · obtain ⟨v, rfl, h⟩ := h
    refine ⟨_, (pss_cons (ps_if (pt_not (pt_val (pe_call (ok_is_pair T) (hr.mono (by decide)) (by rfl) T.is_pair.g T.is_pair.F.kp T.is_pair.b .nil pass0 (pa_cons (pv 0) pa_nil)))) (pss_one (ps_ret (pe_call (ok_is_integer T) (hr.mono (by decide)) (by rfl) T.is_integer.g T.is_integer.F.kp T.is_integer.b .nil pass0 (pa_cons (pv 0) pa_nil)))) pss_nil)
      (pss_cons (ps_asg (pv 0) (pg_seq2 rfl (pgs_cons (pg_name (i := 1) sc_is_number.nd rfl (.inl rfl)) (pgs_cons (pg_name (i := 2) sc_is_number.nd rfl (.inl rfl)) pgs_nil))))
      (pss_one (ps_ret (pe_and (pe_call (ok_is_integer T) (hr.mono (by decide)) (by rfl) T.is_integer.g T.is_integer.F.kp T.is_integer.b .nil pass0 (pa_cons (pv 1) pa_nil)) (pe_and (pe_call (ok_is_within T) (hr.mono (by decide)) (by rfl) T.is_within.g T.is_within.F.kp T.is_within.b .nil pass0 (pa_cons (pv 2) (pa_cons pe_int (pa_cons pe_non pa_nil)))) (pe_one (pe_cmpR op_eq (pe_callBfun cr_gcd (by rfl) T.g_gcd (pa_cons (pv 1) (pa_cons (pv 2) pa_nil))) pe_int (nomark _))))))))), ?_⟩
    walk_at "vc"
    have ok : ∀ (p : Addr) (a b : Int) (c : Bool), (c = true ↔ Canon (a, b)) → RetV H (.bl c) Q → ∀ a' b' : Int, V.int a = .int a' → V.int b = .int b' → RetV H (.bl (decide (1 ≤ b') && decide (((Nat.gcd a'.natAbs b'.natAbs : Nat) : Int) = 1))) Q := fun p a b c hc q a' b' e1 e2 => by
      cases e1
      cases e2
      have : (decide (1 ≤ b) && decide (((Nat.gcd a.natAbs b.natAbs : Nat) : Int) = 1)) = c := by
        rw [Bool.eq_iff_iff, hc, Bool.and_eq_true, decide_eq_true_eq, decide_eq_true_eq]
        constructor
        · rintro ⟨z1, z2⟩; exact ⟨z1, by exact_mod_cast z2⟩
        · rintro ⟨z1, z2⟩; exact ⟨z1, by exact_mod_cast z2⟩
      rw [this]
      exact q
    have all : (∃ U : String, TyN K H v U ∧ U ≠ "list" ∧ U ≠ "tuple" ∧ RetV H (.bl (U == "int")) Q) ∨ (∃ p xs, v = .ref p ∧ Sq K H p xs ∧ xs.length ≠ 2 ∧ RetV H (.bl false) Q) ∨
        (∃ (p : Addr) (x y : V) (U W : String), v = .ref p ∧ Sq K H p [x, y] ∧ TyN K H x U ∧ TyN K H y W ∧
        (U ≠ "int" → RetV H (.bl false) Q) ∧ (∀ a : Int, x = .int a → W ≠ "int" → RetV H (.bl false) Q) ∧
        (∀ a b : Int, x = .int a → y = .int b → RetV H (.bl (decide (1 ≤ b) && decide (((Nat.gcd a.natAbs b.natAbs : Nat) : Int) = 1))) Q)) := by
      rcases h with ⟨q, hn, hq⟩ | ⟨hb, hq⟩
      · cases hn with
        | int n => exact .inl ⟨_, .int n, by decide, by decide, hq⟩
        | sq h c => exact .inr (.inr ⟨_, _, _, _, _, rfl, h, .int _, .int _, fun z => absurd rfl z, fun _ _ z => absurd rfl z, ok 0 _ _ true ⟨fun _ => c, fun _ => rfl⟩ hq⟩)
      · cases hb with
        | scal h h1 h2 h3 => exact .inl ⟨_, h, h2, h3, by rw [beq_false_of_ne h1]; exact hq⟩
        | len h l => exact .inr (.inl ⟨_, _, rfl, h, l, hq⟩)
        | top h hx hT hy => exact .inr (.inr ⟨_, _, _, _, _, rfl, h, hx, hy, fun _ => hq, fun a e _ => by subst e; cases hx; exact absurd rfl hT, fun a b e _ => by subst e; cases hx; exact absurd rfl hT⟩)
        | und h hy hU => exact .inr (.inr ⟨_, _, _, _, _, rfl, h, .int _, hy, fun z => absurd rfl z, fun _ _ _ => hq, fun a b _ e => by subst e; cases hy; exact absurd rfl hU⟩)
        | low h c => exact .inr (.inr ⟨_, _, _, _, _, rfl, h, .int _, .int _, fun z => absurd rfl z, fun _ _ z => absurd rfl z, ok 0 _ _ false ⟨fun z => Bool.noConfusion z, fun z => absurd z c⟩ hq⟩)
    rcases all with ⟨U, hU, h1, h2, q⟩ | ⟨p, xs, rfl, hx, l, q⟩ | ⟨p, x, y, U, W, rfl, hs, hx, hy, q1, q2, q3⟩
    · refine ⟨v, rfl, .inl ⟨U, hU, h1, h2, fun H1 s1 => ⟨_, rfl, ?_⟩⟩⟩
      exact iteN ⟨v, U, rfl, hU.same s1, q.same s1⟩
    · obtain ⟨U, hU, e⟩ := hx.ty
      have hi : (U == "int") = false := by cases hU <;> decide
      refine ⟨_, rfl, .inr ⟨p, xs, rfl, hx, fun H1 s1 => ⟨_, rfl, ?_⟩⟩⟩
      rw [decide_eq_false l]
      refine iteN ⟨_, U, rfl, hU.same s1, ?_⟩
      rw [hi]
      exact q.same s1
    · refine ⟨_, rfl, .inr ⟨p, [x, y], rfl, hs, fun H1 s1 => ⟨_, rfl, ?_⟩⟩⟩
      refine iteF' rfl ⟨p, rfl, _, hs.same s1, rfl, _, _, rfl, _, _, rfl, rfl, x, U, rfl, hx.same s1, fun H2 s2 => ⟨_, rfl, ?_⟩⟩
      by_cases hU : U = "int"
      · obtain ⟨a, rfl⟩ := hx.intI hU
        subst hU
        refine iteT ?_
        by_cases hW : W = "int"
        · obtain ⟨b, rfl⟩ := hy.intI hW
          subst hW
          refine ⟨_, some 1, none, rfl, .inr ⟨b, rfl, fun H3 s3 => ⟨_, rfl, ?_⟩⟩⟩
          have q := q3 a b rfl rfl H3 ((s1.trans s2).trans s3)
          by_cases hb : 1 ≤ b
          · simp only [Option.all_some, Option.all_none, hb, decide_true, Bool.and_true, Bool.true_and, if_true] at q ⊢
            exact ⟨a, rfl, b, rfl, rfl, q⟩
          · simp only [Option.all_some, Option.all_none, hb, decide_false, Bool.and_true, Bool.false_and, Bool.false_eq_true, if_false] at q ⊢
            exact q
        · exact ⟨_, some 1, none, rfl, .inl ⟨W, (hy.same s1).same s2, hW, fun H3 s3 => ⟨_, rfl, by rw [if_neg Bool.false_ne_true]; exact q2 a rfl hW H3 ((s1.trans s2).trans s3)⟩⟩⟩
      · rw [beq_false_of_ne hU]
        exact iteF (q1 hU H2 (s1.trans s2))
end
end Odd
namespace Odd
open PySem PySem.Spec PyProof.Rows L2
local macro_rules | `(tactic| walk_at "vc") => `(tactic| simp only [tSeq, tAsg, gName, tCB, tCons, tNil, tVar, tC, tOp, tUn, rI0, rI, rU, tTup, tLst, tIfS, tTest, tB, tRet, tNext, rGcd, L2.start, List.map, List.set, List.replicate, List.cons_append, List.nil_append, List.length_cons, List.length_nil, List.getElem?_cons_succ, List.getElem?_cons_zero, Option.some.injEq, exists_eq_left', exists_eq_left, List.append_nil, List.cons.injEq, V.int.injEq, exists_and_left, and_true, true_and, and_assoc, exists_const, V.bl.injEq, V.ref.injEq, Nat.sub_self, Nat.reduceAdd, Nat.reduceSub, List.replicate_succ, List.replicate_zero, tAnd, tOr, tNot, tAndV, tOrV, tNotV, tIf, tCall, tCallK, tDrop, rEq, rNe, decide_eq_true_eq, Bool.not_eq_true', decide_eq_false_iff_not, Bool.false_eq_true, if_true, if_false, reduceIte, reduceCtorEq, tMkLow, tRaiseLow, rIsB, rNotB, tBreak, tPar, gSub, rSetL, tChain, gTup, gCons, gNil, gSeq, cx_K, cx_Kn, optV, V.str.injEq, Bool.not_true, Bool.not_false, false_and, and_false, or_false, false_or, exists_false, tCallN, tCallS, tPairs])
section
variable {P : Program} {w : World} {K : PySem.W.Frag} {mg : Str → Option Value} {base : Heap} {A : Ads}
def spNumberIn (K : PySem.W.Frag) (C : Addr) : Sp := fun vs H Q E => ∃ v part, vs = [v, part] ∧ ((∃ q, Num K H v q ∧ RetP K H q Q) ∨ (Bad K H v ∧ RaiseP H C part E))
theorem ok_number_in (T : Txt K mg A) : FnOk P w K mg base (L2.CX P w) 4 A.f_number_in A.d_number_in ["value", "part"] (spNumberIn K A.c_BadNumber) := by
  refine T.number_in.F.okX sc_number_in (fun vs H Q E h => ?_) (fun cdv A' outer s H vs Q E hr h => ?_)
  · obtain ⟨_, _, rfl, _⟩ := h; rfl
  · obtain ⟨v, part, rfl, h⟩ := h
    refine ⟨_, (pss_cons (ps_if (pt_not (pt_val (pe_call (ok_is_number T) (hr.mono (by decide)) (by rfl) T.is_number.g T.is_number.F.kp T.is_number.b .nil pass0 (pa_cons (pv 0) pa_nil)))) (pss_one (ps_raiseLow rfl T.low_BadNumber hr (takes_of rfl rfl rfl rfl) (by exact (pa_cons (pv 1) pa_nil)))) pss_nil)
      (pss_one (ps_ret (pe_call (ok_pair_of T) (hr.mono (by decide)) (by rfl) T.pair_of.g T.pair_of.F.kp T.pair_of.b .nil pass0 (pa_cons (pv 0) pa_nil))))), ?_⟩
    walk_at "vc"
    rcases h with ⟨q, hn, hq⟩ | ⟨hb, hq⟩
    · refine ⟨v, rfl, .inl ⟨q, hn, fun H1 s1 => ⟨_, rfl, ?_⟩⟩⟩
      exact iteF' rfl ⟨v, q, rfl, hn.same s1, hq.same s1⟩
    · refine ⟨v, rfl, .inr ⟨hb, fun H1 s1 => ⟨_, rfl, ?_⟩⟩⟩
      exact iteN (fun d hd => hq _ d (s1.trans (same_upd hd)) upd_same)
/-- a function of two numbers -/
def spBin (K : PySem.W.Frag) (C : Addr) (R : Int × Int → Int × Int → Hp → VK → XK → Prop) : Sp := fun vs H Q E => ∃ v u, vs = [v, u] ∧ ((∃ a b, Num K H v a ∧ Num K H u b ∧ Sm 4000 a ∧ Sm 4000 b ∧ R a b H Q E) ∨ (Bad K H v ∧ RaiseP H C (.str "one") E) ∨ (∃ a, Num K H v a ∧ Bad K H u ∧ RaiseP H C (.str "other") E))
def rOf (K : PySem.W.Frag) (f : Int × Int → Int × Int → Int × Int) : Int × Int → Int × Int → Hp → VK → XK → Prop := fun a b H Q _ => RetP K H (f a b) Q
theorem canon_ne {a : Int × Int} (h : Canon a) : a.2 ≠ 0 := by have := h.1; omega
theorem ok_plus (T : Txt K mg A) : FnOk P w K mg base (L2.CX P w) 5 A.f_plus A.d_plus ["one", "other"] (spBin K A.c_BadNumber (rOf K fAdd)) := by
  refine T.plus.F.okX sc_plus (fun vs H Q E h => ?_) (fun cdv A' outer s H vs Q E hr h => ?_)
  · obtain ⟨_, _, rfl, _⟩ := h; rfl
  · obtain ⟨v, u, rfl, h⟩ := h
    refine ⟨_, (pss_one (ps_ret (pe_call (ok_sum_of T) (hr.mono (by decide)) (by rfl) T.sum_of.g T.sum_of.F.kp T.sum_of.b .nil pass0 (pa_cons (pe_call (ok_number_in T) (hr.mono (by decide)) (by rfl) T.number_in.g T.number_in.F.kp T.number_in.b .nil (passes_call (takes_of rfl rfl rfl rfl) (fun _ _ _ _ h => h)) (pa_cons (pv 0) (pa_cons pe_str pa_nil))) (pa_cons (pe_call (ok_number_in T) (hr.mono (by decide)) (by rfl) T.number_in.g T.number_in.F.kp T.number_in.b .nil (passes_call (takes_of rfl rfl rfl rfl) (fun _ _ _ _ h => h)) (pa_cons (pv 1) (pa_cons pe_str pa_nil))) pa_nil))))), ?_⟩
    walk_at "vc"
    rcases h with ⟨a, b, ha, hb, sa, sb, q⟩ | ⟨hb, q⟩ | ⟨a, ha, hb, q⟩
    · refine ⟨v, _, rfl, .inl ⟨a, ha, fun H1 p s1 hp => ?_⟩⟩
      refine ⟨u, _, rfl, .inl ⟨b, hb.same s1, fun H2 r s2 hr2 => ?_⟩⟩
      exact ⟨_, _, a, b, rfl, ⟨p, rfl, same_tup s2 hp⟩, ⟨r, rfl, hr2⟩, sa, sb, ⟨canon_ne ha.canon, canon_ne hb.canon⟩, q.same (s1.trans s2)⟩
    · exact ⟨v, _, rfl, .inr ⟨hb, q⟩⟩
    · refine ⟨v, _, rfl, .inl ⟨a, ha, fun H1 p s1 hp => ?_⟩⟩
      exact ⟨u, _, rfl, .inr ⟨hb.same s1, q.same s1⟩⟩
theorem ok_minus (T : Txt K mg A) : FnOk P w K mg base (L2.CX P w) 5 A.f_minus A.d_minus ["one", "other"] (spBin K A.c_BadNumber (rOf K fSub)) := by
  refine T.minus.F.okX sc_minus (fun vs H Q E h => ?_) (fun cdv A' outer s H vs Q E hr h => ?_)
  · obtain ⟨_, _, rfl, _⟩ := h; rfl
  · obtain ⟨v, u, rfl, h⟩ := h
    refine ⟨_, (pss_one (ps_ret (pe_call (ok_difference T) (hr.mono (by decide)) (by rfl) T.difference.g T.difference.F.kp T.difference.b .nil pass0 (pa_cons (pe_call (ok_number_in T) (hr.mono (by decide)) (by rfl) T.number_in.g T.number_in.F.kp T.number_in.b .nil (passes_call (takes_of rfl rfl rfl rfl) (fun _ _ _ _ h => h)) (pa_cons (pv 0) (pa_cons pe_str pa_nil))) (pa_cons (pe_call (ok_number_in T) (hr.mono (by decide)) (by rfl) T.number_in.g T.number_in.F.kp T.number_in.b .nil (passes_call (takes_of rfl rfl rfl rfl) (fun _ _ _ _ h => h)) (pa_cons (pv 1) (pa_cons pe_str pa_nil))) pa_nil))))), ?_⟩
    walk_at "vc"
    rcases h with ⟨a, b, ha, hb, sa, sb, q⟩ | ⟨hb, q⟩ | ⟨a, ha, hb, q⟩
    · refine ⟨v, _, rfl, .inl ⟨a, ha, fun H1 p s1 hp => ?_⟩⟩
      refine ⟨u, _, rfl, .inl ⟨b, hb.same s1, fun H2 r s2 hr2 => ?_⟩⟩
      exact ⟨_, _, a, b, rfl, ⟨p, rfl, same_tup s2 hp⟩, ⟨r, rfl, hr2⟩, sa, sb, ⟨canon_ne ha.canon, canon_ne hb.canon⟩, q.same (s1.trans s2)⟩
    · exact ⟨v, _, rfl, .inr ⟨hb, q⟩⟩
    · refine ⟨v, _, rfl, .inl ⟨a, ha, fun H1 p s1 hp => ?_⟩⟩
      exact ⟨u, _, rfl, .inr ⟨hb.same s1, q.same s1⟩⟩
theorem ok_times (T : Txt K mg A) : FnOk P w K mg base (L2.CX P w) 5 A.f_times A.d_times ["one", "other"] (spBin K A.c_BadNumber (rOf K fMul)) := by
  refine T.times.F.okX sc_times (fun vs H Q E h => ?_) (fun cdv A' outer s H vs Q E hr h => ?_)
  · obtain ⟨_, _, rfl, _⟩ := h; rfl
  · obtain ⟨v, u, rfl, h⟩ := h
    refine ⟨_, (pss_one (ps_ret (pe_call (ok_product_of T) (hr.mono (by decide)) (by rfl) T.product_of.g T.product_of.F.kp T.product_of.b .nil pass0 (pa_cons (pe_call (ok_number_in T) (hr.mono (by decide)) (by rfl) T.number_in.g T.number_in.F.kp T.number_in.b .nil (passes_call (takes_of rfl rfl rfl rfl) (fun _ _ _ _ h => h)) (pa_cons (pv 0) (pa_cons pe_str pa_nil))) (pa_cons (pe_call (ok_number_in T) (hr.mono (by decide)) (by rfl) T.number_in.g T.number_in.F.kp T.number_in.b .nil (passes_call (takes_of rfl rfl rfl rfl) (fun _ _ _ _ h => h)) (pa_cons (pv 1) (pa_cons pe_str pa_nil))) pa_nil))))), ?_⟩
    walk_at "vc"
    rcases h with ⟨a, b, ha, hb, sa, sb, q⟩ | ⟨hb, q⟩ | ⟨a, ha, hb, q⟩
    · refine ⟨v, _, rfl, .inl ⟨a, ha, fun H1 p s1 hp => ?_⟩⟩
      refine ⟨u, _, rfl, .inl ⟨b, hb.same s1, fun H2 r s2 hr2 => ?_⟩⟩
      exact ⟨_, _, a, b, rfl, ⟨p, rfl, same_tup s2 hp⟩, ⟨r, rfl, hr2⟩, sa, sb, ⟨canon_ne ha.canon, canon_ne hb.canon⟩, q.same (s1.trans s2)⟩
    · exact ⟨v, _, rfl, .inr ⟨hb, q⟩⟩
    · refine ⟨v, _, rfl, .inl ⟨a, ha, fun H1 p s1 hp => ?_⟩⟩
      exact ⟨u, _, rfl, .inr ⟨hb.same s1, q.same s1⟩⟩
def rLess : Int × Int → Int × Int → Hp → VK → XK → Prop := fun a b H Q _ => RetV H (.bl (decide (a.1 * b.2 < b.1 * a.2))) Q
theorem ok_is_less (T : Txt K mg A) : FnOk P w K mg base (L2.CX P w) 5 A.f_is_less A.d_is_less ["one", "other"] (spBin K A.c_BadNumber rLess) := by
  refine T.is_less.F.okX sc_is_less (fun vs H Q E h => ?_) (fun cdv A' outer s H vs Q E hr h => ?_)
  · obtain ⟨_, _, rfl, _⟩ := h; rfl
  · obtain ⟨v, u, rfl, h⟩ := h
    refine ⟨_, (pss_one (ps_ret (pe_call (ok_is_below T) (hr.mono (by decide)) (by rfl) T.is_below.g T.is_below.F.kp T.is_below.b .nil pass0 (pa_cons (pe_call (ok_number_in T) (hr.mono (by decide)) (by rfl) T.number_in.g T.number_in.F.kp T.number_in.b .nil (passes_call (takes_of rfl rfl rfl rfl) (fun _ _ _ _ h => h)) (pa_cons (pv 0) (pa_cons pe_str pa_nil))) (pa_cons (pe_call (ok_number_in T) (hr.mono (by decide)) (by rfl) T.number_in.g T.number_in.F.kp T.number_in.b .nil (passes_call (takes_of rfl rfl rfl rfl) (fun _ _ _ _ h => h)) (pa_cons (pv 1) (pa_cons pe_str pa_nil))) pa_nil))))), ?_⟩
    walk_at "vc"
    rcases h with ⟨a, b, ha, hb, sa, sb, q⟩ | ⟨hb, q⟩ | ⟨a, ha, hb, q⟩
    · refine ⟨v, _, rfl, .inl ⟨a, ha, fun H1 p s1 hp => ?_⟩⟩
      refine ⟨u, _, rfl, .inl ⟨b, hb.same s1, fun H2 r s2 hr2 => ?_⟩⟩
      exact ⟨_, _, a, b, rfl, ⟨p, rfl, same_tup s2 hp⟩, ⟨r, rfl, hr2⟩, sa, sb, q.same (s1.trans s2)⟩
    · exact ⟨v, _, rfl, .inr ⟨hb, q⟩⟩
    · refine ⟨v, _, rfl, .inl ⟨a, ha, fun H1 p s1 hp => ?_⟩⟩
      exact ⟨u, _, rfl, .inr ⟨hb.same s1, q.same s1⟩⟩
/-- over: 0 is refused -/
def rOver (K : PySem.W.Frag) (C : Addr) : Int × Int → Int × Int → Hp → VK → XK → Prop := fun a b H Q E => (b.1 ≠ 0 ∧ RetP K H (fDiv a b) Q) ∨ (b.1 = 0 ∧ RaiseP H C (.str "other") E)
theorem ok_over (T : Txt K mg A) : FnOk P w K mg base (L2.CX P w) 5 A.f_over A.d_over ["one", "other"] (spBin K A.c_BadNumber (rOver K A.c_BadNumber)) := by
  refine T.over.F.okX sc_over (fun vs H Q E h => ?_) (fun cdv A' outer s H vs Q E hr h => ?_)
  · obtain ⟨_, _, rfl, _⟩ := h; rfl
  · obtain ⟨v, u, rfl, h⟩ := h
    refine ⟨_, (pss_cons (ps_set (i := 2) sc_over.nd rfl (.inl rfl) (pe_call (ok_number_in T) (hr.mono (by decide)) (by rfl) T.number_in.g T.number_in.F.kp T.number_in.b .nil (passes_call (takes_of rfl rfl rfl rfl) (fun _ _ _ _ h => h)) (pa_cons (pv 0) (pa_cons pe_str pa_nil))))
      (pss_cons (ps_set (i := 3) sc_over.nd rfl (.inl rfl) (pe_call (ok_number_in T) (hr.mono (by decide)) (by rfl) T.number_in.g T.number_in.F.kp T.number_in.b .nil (passes_call (takes_of rfl rfl rfl rfl) (fun _ _ _ _ h => h)) (pa_cons (pv 1) (pa_cons pe_str pa_nil))))
      (pss_cons (ps_if (pt_cmpR op_eq (pe_ix ix_tup (pv 3) pe_int (fun _ _ => rfl)) pe_int (nomark _)) (pss_one (ps_raiseLow rfl T.low_BadNumber hr (takes_of rfl rfl rfl rfl) (by exact (pa_cons pe_str pa_nil)))) pss_nil)
      (pss_one (ps_ret (pe_call (ok_quotient T) (hr.mono (by decide)) (by rfl) T.quotient.g T.quotient.F.kp T.quotient.b .nil pass0 (pa_cons (pv 2) (pa_cons (pv 3) pa_nil)))))))), ?_⟩
    walk_at "vc"
    rcases h with ⟨a, b, ha, hb, sa, sb, q⟩ | ⟨hb, q⟩ | ⟨a, ha, hb, q⟩
    · refine ⟨v, _, rfl, .inl ⟨a, ha, fun H1 p s1 hp => ?_⟩⟩
      refine ⟨u, _, rfl, .inl ⟨b, hb.same s1, fun H2 r s2 hr2 => ?_⟩⟩
      refine ixT hr2 rfl ⟨rfl, ?_⟩
      rcases q with ⟨hz, q⟩ | ⟨hz, q⟩
      · rw [if_neg (fun z => hz (V.int.inj z))]
        exact ⟨_, _, a, b, rfl, ⟨p, rfl, same_tup s2 hp⟩, ⟨r, rfl, hr2⟩, sa, sb, ⟨canon_ne ha.canon, hz⟩, q.same (s1.trans s2)⟩
      · rw [if_pos (congrArg V.int hz)]
        exact fun d hd => q _ d ((s1.trans s2).trans (same_upd hd)) upd_same
    · exact ⟨v, _, rfl, .inr ⟨hb, q⟩⟩
    · refine ⟨v, _, rfl, .inl ⟨a, ha, fun H1 p s1 hp => ?_⟩⟩
      exact ⟨u, _, rfl, .inr ⟨hb.same s1, q.same s1⟩⟩
def spSignOf (K : PySem.W.Frag) (C : Addr) : Sp := fun vs H Q E => ∃ v, vs = [v] ∧ ((∃ a, Num K H v a ∧ RetV H (.int (sgn a.1)) Q) ∨ (Bad K H v ∧ RaiseP H C (.str "value") E))
theorem ok_sign_of (T : Txt K mg A) : FnOk P w K mg base (L2.CX P w) 5 A.f_sign_of A.d_sign_of ["value"] (spSignOf K A.c_BadNumber) := by
  refine T.sign_of.F.okX sc_sign_of (fun vs H Q E h => ?_) (fun cdv A' outer s H vs Q E hr h => ?_)
  · obtain ⟨_, rfl, _⟩ := h; rfl
  · obtain ⟨v, rfl, h⟩ := h
    refine ⟨_, (pss_one (ps_ret (pe_call (ok_sign T) (hr.mono (by decide)) (by rfl) T.sign.g T.sign.F.kp T.sign.b .nil pass0 (pa_cons (pe_ix ix_tup (pe_call (ok_number_in T) (hr.mono (by decide)) (by rfl) T.number_in.g T.number_in.F.kp T.number_in.b .nil (passes_call (takes_of rfl rfl rfl rfl) (fun _ _ _ _ h => h)) (pa_cons (pv 0) (pa_cons pe_str pa_nil))) pe_int (fun _ _ => rfl)) pa_nil)))), ?_⟩
    walk_at "vc"
    rcases h with ⟨a, ha, q⟩ | ⟨hb, q⟩
    · refine ⟨v, _, rfl, .inl ⟨a, ha, fun H1 p s1 hp => ?_⟩⟩
      exact ixT hp rfl ⟨_, rfl, q.same s1⟩
    · exact ⟨v, _, rfl, .inr ⟨hb, q⟩⟩
/-- number(top, under): both integers -/
def spNumber (K : PySem.W.Frag) (C : Addr) : Sp := fun vs H Q E => ∃ v u U W, vs = [v, u] ∧ TyN K H v U ∧ TyN K H u W ∧
  ((U ≠ "int" ∧ RaiseP H C (.str "top") E) ∨ (U = "int" ∧ W ≠ "int" ∧ RaiseP H C (.str "under") E) ∨ (∃ t, v = .int t ∧ u = .int 0 ∧ RaiseP H C (.str "under") E) ∨ (∃ t n : Int, v = .int t ∧ u = .int n ∧ n ≠ 0 ∧ n.natAbs < 2 ^ 8000 ∧ RetP K H (low t n) Q))
theorem ok_number (T : Txt K mg A) : FnOk P w K mg base (L2.CX P w) 4 A.f_number A.d_number ["top", "under"] (spNumber K A.c_BadNumber) := by
  refine T.number.F.ok sc_number (fun vs H Q E h => ?_) (fun cdv A' outer s H vs Q E hr h => ?_)
  · obtain ⟨_, _, _, _, rfl, _⟩ := h; rfl
  · obtain ⟨v, u, U, W, rfl, hv, hu, h⟩ := h
    refine ⟨_, (pss_cons (ps_if (pt_not (pt_val (pe_call (ok_is_integer T) (hr.mono (by decide)) (by rfl) T.is_integer.g T.is_integer.F.kp T.is_integer.b .nil pass0 (pa_cons (pv 0) pa_nil)))) (pss_one (ps_raiseLow rfl T.low_BadNumber hr (takes_of rfl rfl rfl rfl) (by exact (pa_cons pe_str pa_nil)))) pss_nil)
      (pss_cons (ps_if (PW.pt (pw_or (pt_not (pt_val (pe_call (ok_is_integer T) (hr.mono (by decide)) (by rfl) T.is_integer.g T.is_integer.F.kp T.is_integer.b .nil pass0 (pa_cons (pv 1) pa_nil)))) (pw_or1 (pt_cmpR op_eq (pv 1) pe_int (nomark _))))) (pss_one (ps_raiseLow rfl T.low_BadNumber hr (takes_of rfl rfl rfl rfl) (by exact (pa_cons pe_str pa_nil)))) pss_nil)
      (pss_one (ps_ret (pe_call (ok_lowest T) (hr.mono (by decide)) (by rfl) T.lowest.g T.lowest.F.kp T.lowest.b .nil pass0 (pa_cons (pv 0) (pa_cons (pv 1) pa_nil))))))), ?_⟩
    walk_at "vc"
    rcases h with ⟨hU, q⟩ | ⟨hU, hW, q⟩ | ⟨t, rfl, rfl, q⟩ | ⟨t, n, rfl, rfl, hn, hb, q⟩
    · refine ⟨v, U, rfl, hv, fun H1 s1 => ⟨_, rfl, ?_⟩⟩
      rw [beq_false_of_ne hU]
      exact iteN fun d hd => q _ d (s1.trans (same_upd hd)) upd_same
    · subst hU
      refine ⟨v, _, rfl, hv, fun H1 s1 => ⟨_, rfl, iteF' rfl ⟨u, W, rfl, hu.same s1, fun H2 s2 => ⟨_, rfl, ?_⟩⟩⟩⟩
      rw [beq_false_of_ne hW]
      walk_at "vc"
      exact fun d hd => q _ d ((s1.trans s2).trans (same_upd hd)) upd_same
    · refine ⟨_, _, rfl, .int t, fun H1 s1 => ⟨_, rfl, iteF' rfl ⟨_, _, rfl, .int 0, fun H2 s2 => ⟨_, rfl, ?_⟩⟩⟩⟩
      walk_at "vc"
      rw [if_neg (by decide)]
      exact ⟨rfl, fun d hd => q _ d ((s1.trans s2).trans (same_upd hd)) upd_same⟩
    · refine ⟨_, _, rfl, .int t, fun H1 s1 => ⟨_, rfl, iteF' rfl ⟨_, _, rfl, .int n, fun H2 s2 => ⟨_, rfl, ?_⟩⟩⟩⟩
      walk_at "vc"
      rw [if_neg (by decide)]
      refine ⟨rfl, ?_⟩
      rw [if_neg hn]
      exact ⟨t, n, rfl, hn, hb, q.same (s1.trans s2)⟩
end
end Odd
namespace Odd
open PySem PySem.Spec PyProof.Rows L2
local macro_rules | `(tactic| walk_at "vc") => `(tactic| simp only [tSeq, tAsg, gName, tCB, tCons, tNil, tVar, tC, tOp, tUn, rI0, rI, rU, tTup, tLst, tIfS, tTest, tB, tRet, tNext, rGcd, L2.start, List.map, List.set, List.replicate, List.cons_append, List.nil_append, List.length_cons, List.length_nil, List.getElem?_cons_succ, List.getElem?_cons_zero, Option.some.injEq, exists_eq_left', exists_eq_left, List.append_nil, List.cons.injEq, V.int.injEq, exists_and_left, and_true, true_and, and_assoc, exists_const, V.bl.injEq, V.ref.injEq, Nat.sub_self, Nat.reduceAdd, Nat.reduceSub, List.replicate_succ, List.replicate_zero, tAnd, tOr, tNot, tAndV, tOrV, tNotV, tIf, tCall, tCallK, tDrop, rEq, rNe, decide_eq_true_eq, Bool.not_eq_true', decide_eq_false_iff_not, Bool.false_eq_true, if_true, if_false, reduceIte, reduceCtorEq, tMkLow, tRaiseLow, rIsB, rNotB, tBreak, tPar, gSub, rSetL, tChain, gTup, gCons, gNil, gSeq, cx_K, cx_Kn, optV, V.str.injEq, Bool.not_true, Bool.not_false, false_and, and_false, or_false, false_or, exists_false, tCallN, tCallS, tPairs])
/-- the urn: its cells, how many were begun, what is left of a great one; so many draws are left -/
def Urn (H : Hp) (u : Addr) (k : Nat) : Prop := ∃ (c : Addr) (n r : Int) (cells : List Int), H u = some (.lst [.ref c, .int n, .int r]) ∧ H c = some (.lst (cells.map V.int)) ∧ 0 ≤ n ∧ n + k ≤ 1000000 ∧ 0 ≤ r
theorem Urn.mono {H : Hp} {u : Addr} {j k : Nat} (h : Urn H u k) (l : j ≤ k) : Urn H u j := by
  obtain ⟨c, n, r, cells, h1, h2, h3, h4, h5⟩ := h
  exact ⟨c, n, r, cells, h1, h2, h3, by omega, h5⟩
theorem Urn.same {H H' : Hp} {u : Addr} {k : Nat} (h : Urn H u k) (s : Same H H') : Urn H' u k := by
  obtain ⟨c, n, r, cells, h1, h2, h3⟩ := h
  exact ⟨c, n, r, cells, s _ _ h1, s _ _ h2, h3⟩
theorem Urn.at {H : Hp} {u : Addr} {k : Nat} (h : Urn H u k) : ∃ c ys, H u = some (.lst (.ref c :: ys)) := by
  obtain ⟨c, n, r, cells, h1, _⟩ := h
  exact ⟨c, _, h1⟩
section
variable {P : Program} {w : World} {K : PySem.W.Frag} {mg : Str → Option Value} {base : Heap} {A : Ads}
def spSpill : Sp := fun vs H Q _ => ∃ (u : Addr) (many : Int) (k : Nat), vs = [.ref u, .int many] ∧ 0 < many ∧ many < 1073741824 ∧ Urn H u (k + 1) ∧ ∀ H' (m : Int), But u H H' → Urn H' u k → 0 ≤ m → m < many → Q (.int m) H'
theorem ok__law_spill (T : Txt K mg A) : FnOk P w K mg base CX0 1 A.f__law_spill A.d__law_spill ["urn", "many"] spSpill := by
  refine T._law_spill.F.ok sc__law_spill (fun vs H Q E h => ?_) (fun cdv A' outer s H vs Q E hr h => ?_)
  · obtain ⟨_, _, _, rfl, _⟩ := h; rfl
  · obtain ⟨u, many, k, rfl, hm, hm2, ⟨c, n, r, cells, h1, h2, h3, h4, h5⟩, q⟩ := h
    refine ⟨_, (pss_cons (ps_if (pt_cmpR op_gt (pe_ix ix_list (pv 0) pe_int (fun _ _ => rfl)) pe_int (nomark _)) (pss_cons (ps_set (i := 2) sc__law_spill.nd rfl (.inl rfl) (pe_callTy call_int1 (by rfl) T.n_int bt_int (pa_cons (pe_ix ix_list (pv 0) pe_int (fun _ _ => rfl)) pa_nil)))
      (pss_cons (ps_asg (pe_op op_fdiv (pv 2) (pv 1)) (pg_sub (pv 0) pe_int set_list))
      (pss_one (ps_ret (pe_op op_mod (pe_callTy call_int1 (by rfl) T.n_int bt_int (pa_cons (pv 2) pa_nil)) (pv 1)))))) pss_nil)
      (pss_cons (ps_set (i := 3) sc__law_spill.nd rfl (.inl rfl) (pe_ix ix_list (pv 0) pe_int (fun _ _ => rfl)))
      (pss_cons (ps_asg (pe_op op_add (pv 3) pe_int) (pg_sub (pv 0) pe_int set_list))
      (pss_cons (ps_set (i := 4) sc__law_spill.nd rfl (.inl rfl) (pe_op op_add (pe_op op_mul pe_int (pv 3)) pe_int))
      (pss_cons (ps_if (pt_cmpR (op_neD hr.units) (pe_ix ix_list (pv 0) pe_int (fun _ _ => rfl)) (pe_lst pa_nil) (nomark _)) (pss_one (ps_set (i := 4) sc__law_spill.nd rfl (.inl rfl) (pe_ix ix_list (pe_ix ix_list (pv 0) pe_int (fun _ _ => rfl)) (pe_op op_mod (pe_callTy call_int1 (by rfl) T.n_int bt_int (pa_cons (pv 3) pa_nil)) (pe_callB call_len_seq (by rfl) T.n_len bt_len (pa_cons (pe_ix ix_list (pv 0) pe_int (fun _ _ => rfl)) pa_nil))) (fun _ _ => rfl)))) pss_nil)
      (pss_cons (ps_if (PW.pt (pw_and (pt_cmpR op_lt (pv 3) (pe_callB call_len_seq (by rfl) T.n_len bt_len (pa_cons (pe_ix ix_list (pv 0) pe_int (fun _ _ => rfl)) pa_nil)) (nomark _)) (pw_and1 (pt_cmpR op_ge (pe_callB call_abs (by rfl) T.n_abs bt_abs (pa_cons (pv 4) pa_nil)) (pe_op op_pow pe_int pe_int) (nomark _))))) (pss_cons (ps_set (i := 2) sc__law_spill.nd rfl (.inl rfl) (pe_op op_add (pe_op op_mul pe_int (pe_op op_sub (pe_callB call_abs (by rfl) T.n_abs bt_abs (pa_cons (pv 4) pa_nil)) (pe_op op_pow pe_int pe_int))) (pe_callTy call_int1 (by rfl) T.n_int bt_int (pa_cons (pe_cmpR op_lt (pv 4) pe_int (nomark _)) pa_nil))))
      (pss_cons (ps_asg (pe_op op_fdiv (pe_callTy call_int1 (by rfl) T.n_int bt_int (pa_cons (pv 2) pa_nil)) (pv 1)) (pg_sub (pv 0) pe_int set_list))
      (pss_one (ps_ret (pe_op op_mod (pe_callTy call_int1 (by rfl) T.n_int bt_int (pa_cons (pv 2) pa_nil)) (pv 1)))))) pss_nil)
      (pss_cons (ps_set (i := 5) sc__law_spill.nd rfl (.inl rfl) (pe_op op_mod (pe_callTy call_int1 (by rfl) T.n_int bt_int (pa_cons (pe_op op_pow (pe_op op_add (pe_op op_add (pe_op op_mod (pe_callTy call_int1 (by rfl) T.n_int bt_int (pa_cons (pv 4) pa_nil)) pe_int) (pe_op op_mul pe_int (pv 3))) pe_int) pe_int) pa_nil)) pe_int))
      (pss_cons (ps_set (i := 5) sc__law_spill.nd rfl (.inl rfl) (pe_op op_mod (pe_callTy call_int1 (by rfl) T.n_int bt_int (pa_cons (pe_op op_pow (pe_op op_add (pe_op op_add (pe_op op_mul (pv 5) (pe_op op_add (pe_op op_mul pe_int (pv 3)) pe_int)) (pe_op op_mul (pe_op op_mul pe_int (pv 3)) (pv 3))) pe_int) pe_int) pa_nil)) pe_int))
      (pss_one (ps_ret (pe_op op_mod (pe_callTy call_int1 (by rfl) T.n_int bt_int (pa_cons (pe_op op_fdiv (pv 5) pe_int) pa_nil)) (pv 1)))))))))))), ?_⟩
    have huc : u ≠ c := ne_of h1 h2 (by cases cells <;> (intro z; cases z))
    refine seq_by fun N hN => ?_
    walk_at "vc"
    refine ixL (sl_of h1) rfl ⟨_, rfl, ?_⟩
    split
    · -- a digit of what is left
      rename_i hr0
      refine ixL (sl_of h1) rfl ?_
      refine .inl ⟨r, rfl, ⟨hm, hm2⟩, ?_⟩
      refine ⟨_, h1, _, rfl, hm, ?_⟩
      refine q _ _ (fun b nb o e => by rw [upd_ne nb]; exact e) ⟨c, n, r / many, cells, upd_same, ?_, h3, by omega, Int.ediv_nonneg h5 (by omega)⟩ (Int.emod_nonneg _ (by omega)) (Int.emod_lt_of_pos _ hm)
      rw [upd_ne huc.symm]
      exact h2
    · -- at = urn[1]; urn[1] = at + 1; cell = ..
      rename_i hr0
      subst hN
      refine seq_by fun N hN => ?_
      walk_at "vc"
      refine ixL (sl_of h1) rfl ?_
      subst hN
      refine seq_by fun N hN => ?_
      walk_at "vc"
      refine ⟨_, h1, _, rfl, ?_⟩
      subst hN
      refine seq_by fun N hN => ?_
      walk_at "vc"
      refine ⟨.inl (by decide), ?_⟩
      subst hN
      refine seq_by fun N hN => ?_
      have b1 : But u H (upd H u (.lst [.ref c, .int (n + 1), .int r])) := fun b nb o e => by rw [upd_ne nb]; exact e
      have rest : ∀ (cell : Int) H2, But u H H2 → H2 u = some (.lst [.ref c, .int (n + 1), .int r]) → H2 c = some (.lst (cells.map V.int)) → N [some (.ref u), some (.int many), none, some (.int n), some (.int cell), none] H2 := by
        intro cell H2 b2 g1 g2
        subst hN
        refine seq_by fun N hN => ?_
        have last : N [some (.ref u), some (.int many), none, some (.int n), some (.int cell), none] H2 := by
          subst hN
          refine seq_by fun N hN => ?_
          walk_at "vc"
          have e1 : 0 ≤ cell % 2147483563 := Int.emod_nonneg _ (by decide)
          have e2 : cell % 2147483563 < 2147483563 := Int.emod_lt_of_pos _ (by decide)
          refine ⟨by decide, .inl (by decide), ⟨by decide, by decide, by omega⟩, by decide, ?_⟩
          generalize hmix : (cell % 2147483563 + 72103 * n + 7109) ^ Int.toNat 5 % 2147483587 = mixed
          have f1 : 0 ≤ mixed := by rw [← hmix]; exact Int.emod_nonneg _ (by decide)
          have f2 : mixed < 2147483587 := by rw [← hmix]; exact Int.emod_lt_of_pos _ (by decide)
          subst hN
          refine seq_by fun N hN => ?_
          walk_at "vc"
          have m1 : mixed * (2 * n + 4513) ≤ 2147483587 * 2004513 := Int.mul_le_mul (by omega) (by omega) (by omega) (by decide)
          have m2 : 0 ≤ mixed * (2 * n + 4513) := Int.mul_nonneg f1 (by omega)
          have m3 : 104149 * n * n ≤ 104149000000 * 1000000 := Int.mul_le_mul (by omega) (by omega) (by omega) (by decide)
          have m4 : 0 ≤ 104149 * n * n := Int.mul_nonneg (by omega) (by omega)
          refine ⟨.inl (by decide), .inl ⟨by omega, by omega⟩, .inl (by decide), .inl ⟨by omega, by omega⟩, ⟨by decide, by decide, by omega⟩, by decide, ?_⟩
          subst hN
          walk_at "vc"
          refine ⟨⟨by decide, by decide⟩, hm, ?_⟩
          exact q _ _ b2 ⟨c, n + 1, r, cells, g1, g2, by omega, by omega, h5⟩ (Int.emod_nonneg _ (by omega)) (Int.emod_lt_of_pos _ hm)
        walk_at "vc"
        refine ixL (sl_of g1) rfl ⟨c, rfl, _, .inl (sl_of g2), ?_⟩
        have p18 : CPow 10 18 := ⟨by decide, by decide, by decide⟩
        split
        · refine ⟨p18, ?_⟩
          generalize (10 : Int) ^ Int.toNat 18 = e
          have hs : 0 ≤ (if cell < 0 then 1 else 0 : Int) := by split <;> decide
          generalize (if cell < 0 then 1 else 0 : Int) = sg at *
          generalize (if cell < 0 then -cell else cell) = ab at *
          split
          · rename_i hc
            refine ⟨p18, .inl (by decide), ⟨hm, hm2⟩, _, g1, _, rfl, hm, ?_⟩
            refine q _ _ (fun b nb o z => by rw [upd_ne nb]; exact b2 b nb o z) ⟨c, n + 1, _, cells, upd_same, ?_, by omega, by omega, Int.ediv_nonneg ?_ (by omega)⟩ (Int.emod_nonneg _ (by omega)) (Int.emod_lt_of_pos _ hm)
            · rw [upd_ne huc.symm]
              exact g2
            · omega
          · exact last
        · exact last
      walk_at "vc"
      have g1 : upd H u (.lst [.ref c, .int (n + 1), .int r]) u = some (.lst [.ref c, .int (n + 1), .int r]) := upd_same
      have g2 : upd H u (.lst [.ref c, .int (n + 1), .int r]) c = some (.lst (cells.map V.int)) := by rw [upd_ne huc.symm]; exact h2
      refine ixL (sl_of g1) rfl ⟨by decide, fun p hp => ?_⟩
      have sp := same_upd (o := .lst []) hp
      have g3 := sp _ _ g1
      have g4 := sp _ _ g2
      refine ⟨_, _, dp_ints (sl_of g4), dp_ints (ns := []) (sl_of upd_same), sh_ints _, sh_ints [], _, rfl, ?_⟩
      split
      · rename_i hne
        have hcells : cells ≠ [] := by
          intro z
          subst z
          exact absurd hne (by decide)
        have hl : 0 < cells.length := List.length_pos_iff.mpr hcells
        refine ixL (sl_of g3) rfl (ixL (sl_of g3) rfl ⟨c, rfl, _, .inl (sl_of g4), ?_⟩)
        rw [List.length_map]
        have a1 : 0 ≤ n % (cells.length : Int) := Int.emod_nonneg _ (by omega)
        have a2 : n % (cells.length : Int) < cells.length := Int.emod_lt_of_pos _ (by omega)
        obtain ⟨j, hj⟩ := Int.eq_ofNat_of_zero_le a1
        have hjl : j < cells.length := by omega
        refine ⟨by omega, ?_⟩
        rw [hj]
        refine ixL (sl_of g4) (v := .int cells[j]) (atI_nat ?_) ?_
        · rw [List.getElem?_map, List.getElem?_eq_getElem hjl]
          rfl
        · exact rest _ _ (b1.trans (same_but sp)) g3 g4
      · exact rest _ _ (b1.trans (same_but sp)) g3 g4
end
end Odd
namespace Odd
open PySem PySem.Spec PyProof.Rows L2
local macro_rules | `(tactic| walk_at "vc") => `(tactic| simp only [tSeq, tAsg, gName, tCB, tCons, tNil, tVar, tC, tOp, tUn, rI0, rI, rU, tTup, tLst, tIfS, tTest, tB, tRet, tNext, rGcd, L2.start, List.map, List.set, List.replicate, List.cons_append, List.nil_append, List.length_cons, List.length_nil, List.getElem?_cons_succ, List.getElem?_cons_zero, Option.some.injEq, exists_eq_left', exists_eq_left, List.append_nil, List.cons.injEq, V.int.injEq, exists_and_left, and_true, true_and, and_assoc, exists_const, V.bl.injEq, V.ref.injEq, Nat.sub_self, Nat.reduceAdd, Nat.reduceSub, List.replicate_succ, List.replicate_zero, tAnd, tOr, tNot, tAndV, tOrV, tNotV, tIf, tCall, tCallK, tDrop, rEq, rNe, decide_eq_true_eq, Bool.not_eq_true', decide_eq_false_iff_not, Bool.false_eq_true, if_true, if_false, reduceIte, reduceCtorEq, tMkLow, tRaiseLow, rIsB, rNotB, tBreak, tPar, gSub, rSetL, tChain, gTup, gCons, gNil, gSeq, cx_K, cx_Kn, optV, V.str.injEq, Bool.not_true, Bool.not_false, false_and, and_false, or_false, false_or, exists_false, tCallN, tCallS, tPairs])
/-! ### Euclid -/
theorem euc_step {a b i : Nat} (hb : b ≠ 0) (h : (i = 0 ∧ a * b < 2 ^ 380) ∨ (b ≤ a ∧ a * b * 2 ^ i < 2 ^ 381)) : a % b ≤ b ∧ b * (a % b) * 2 ^ (i + 1) < 2 ^ 381 := by
  have hm : a % b < b := Nat.mod_lt _ (by omega)
  refine ⟨by omega, ?_⟩
  rcases h with ⟨rfl, h⟩ | ⟨h1, h2⟩
  · have l : b * (a % b) ≤ a * b := by
      rw [Nat.mul_comm a b]
      exact Nat.mul_le_mul_left _ (Nat.mod_le _ _)
    have : b * (a % b) * 2 ^ (0 + 1) = b * (a % b) * 2 := rfl
    rw [this]
    have e : (2 : Nat) ^ 381 = 2 ^ 380 * 2 := rfl
    rw [e]
    omega
  · have l1 : 2 * (a % b) ≤ a := by
      have e := Nat.div_add_mod a b
      have q : 1 ≤ a / b := (Nat.one_le_div_iff (by omega)).mpr h1
      have : b * 1 ≤ b * (a / b) := Nat.mul_le_mul_left _ q
      omega
    have l2 : b * (a % b) * 2 ≤ a * b := by
      rw [Nat.mul_assoc, Nat.mul_comm (a % b) 2, Nat.mul_comm a b]
      exact Nat.mul_le_mul_left _ l1
    have e : b * (a % b) * 2 ^ (i + 1) = b * (a % b) * 2 * 2 ^ i := by
      rw [Nat.pow_succ, Nat.mul_comm (2 ^ i) 2, ← Nat.mul_assoc]
    rw [e]
    exact Nat.lt_of_le_of_lt (Nat.mul_le_mul_right _ l2) h2
theorem euc_end {a b : Nat} (h : b ≤ a ∧ a * b * 2 ^ 400 < 2 ^ 381) : b = 0 := by
  rcases Nat.eq_zero_or_pos b with z | z
  · exact z
  · exfalso
    have h1 : 1 ≤ a * b := Nat.mul_pos (by omega) z
    have h2 : 1 * 2 ^ 400 ≤ a * b * 2 ^ 400 := Nat.mul_le_mul_right _ h1
    have h3 : (2 : Nat) ^ 381 ≤ 1 * 2 ^ 400 := by decide +kernel
    omega
theorem gcd_step (a b : Nat) : Nat.gcd b (a % b) = Nat.gcd a b := by
  rw [Nat.gcd_comm b (a % b), ← Nat.gcd_rec, Nat.gcd_comm]
theorem abs_nat (a : Int) : (if a < 0 then -a else a) = (a.natAbs : Int) := by split <;> omega
section
variable {P : Program} {w : World} {K : PySem.W.Frag} {mg : Str → Option Value} {base : Heap} {A : Ads}
def spUrn (K : PySem.W.Frag) : Sp := fun vs H Q _ => ∃ (a : Addr) (ns : List Int), vs = [.ref a] ∧ SqL K H a (ns.map V.int) ∧ ns.length ≤ 63 ∧ ∀ H' u, Same H H' → Urn H' u 900000 → Q (.ref u) H'
theorem ok__law_urn (T : Txt K mg A) : FnOk P w K mg base CX0 1 A.f__law_urn A.d__law_urn ["script"] (spUrn K) := by
  refine T._law_urn.F.ok sc__law_urn (fun vs H Q E h => ?_) (fun cdv A' outer s H vs Q E hr h => ?_)
  · obtain ⟨_, _, rfl, _⟩ := h; rfl
  · obtain ⟨a, ns, rfl, hS, hl, q⟩ := h
    refine ⟨_, (pss_one (ps_ret (pe_lst (pa_cons (pe_lc (own := [("cell", 1)]) (g := gName 1) (tt := tYes) rfl sc__law_urn.nd (pi_list (pe_slice sl_list (pv 0) po_none (po_some pe_int))) (blkOk_by (N := ["script", "cell"]) (sc := defScope s__law_urn) (by decide +kernel)) (fun _ _ _ _ _ => pg_name (i := 1) sc__law_urn.nd rfl (Or.inl rfl)) (fun _ _ _ _ _ => pts_nil) (fun _ _ _ _ _ => pe_callTy call_int1 (by rfl) T.n_int bt_int (pa_cons (pv 1) pa_nil))) (pa_cons pe_int (pa_cons pe_int pa_nil)))))), ?_⟩
    refine ⟨_, rfl, 60, rfl, a, _, rfl, hS, fun p hp => ?_⟩
    obtain ⟨cs, hcs, hcl⟩ : ∃ cs : List Int, cutV (ns.map V.int) none (some 60) = cs.map V.int ∧ cs.length ≤ 63 := by
      refine ⟨(ns.drop (HT.sIx (ns.map V.int).length 0 none)).take (HT.sIx (ns.map V.int).length (ns.map V.int).length (some 60) - HT.sIx (ns.map V.int).length 0 none), ?_, ?_⟩
      · unfold cutV
        rw [List.map_take, List.map_drop]
      · rw [List.length_take, List.length_drop]
        omega
    have sp := same_upd (o := .lst (cutV (ns.map V.int) none (some 60))) hp
    refine ⟨p, rfl, ⟨_, sl_of upd_same⟩, fun D hD => ?_⟩
    have sD := same_upd (o := .lst []) hD
    have hpD : p ≠ D := ne_of_none (o := .lst (cutV (ns.map V.int) none (some 60))) upd_same hD
    refine lc_list (xs := cutV (ns.map V.int) none (some 60)) (fun i H2 => Same H H2 ∧ H2 p = some (.lst (cutV (ns.map V.int) none (some 60))) ∧ H2 D = some (.lst ((cs.take i).map V.int)) ∧ H D = none) ⟨sp.trans sD, sD _ _ upd_same, upd_same, sp.free hD⟩ (fun i H2 _ h => sl_of h.2.1) ?_ ?_
    · rintro i x H2 hx ⟨s2, e1, e2, e3⟩
      rw [hcs, List.getElem?_map] at hx
      cases ec : cs[i]? with
      | none => rw [ec] at hx; cases hx
      | some z =>
        rw [ec] at hx
        obtain rfl : V.int z = x := Option.some.inj hx
        refine ⟨rfl, ?_⟩
        simp only [tYes, if_true]
        refine ⟨_, rfl, .inl ⟨z, rfl, _, e2, ?_, ?_⟩⟩
        · rw [List.length_map, List.length_take]
          exact small1000 (by omega)
        · refine ⟨fun b o e => ?_, ?_, ?_, e3⟩
          · rw [upd_ne (ne_of_none e e3)]
            exact s2 _ _ e
          · rw [upd_ne hpD]
            exact e1
          · rw [upd_same, List.take_add_one, ec, List.map_append]
            rfl
    · rintro H2 ⟨s2, e1, e2, e3⟩
      refine ⟨(by show 3 ≤ sizeLine; decide), fun u hu => ?_⟩
      have hu2 := same_upd (o := .lst [.ref D, .int 0, .int 0]) hu
      exact q _ u (s2.trans hu2) ⟨D, 0, 0, _, upd_same, hu2 _ _ e2, by omega, by omega, by omega⟩
def spOneOf : Sp := fun vs H Q _ => ∃ (u p : Addr) (xs : List V) (k : Nat), vs = [.ref u, .ref p] ∧ p ≠ u ∧ H p = some (.lst xs) ∧ 0 < xs.length ∧ xs.length < 1073741824 ∧ Urn H u (k + 1) ∧ ∀ H' v, But u H H' → Urn H' u k → v ∈ xs → Q v H'
theorem ok__law_one_of (T : Txt K mg A) : FnOk P w K mg base CX0 2 A.f__law_one_of A.d__law_one_of ["urn", "some"] spOneOf := by
  refine T._law_one_of.F.ok sc__law_one_of (fun vs H Q E h => ?_) (fun cdv A' outer s H vs Q E hr h => ?_)
  · obtain ⟨_, _, _, _, rfl, _⟩ := h; rfl
  · obtain ⟨u, p, xs, k, rfl, hpu, hp, hl, hl2, hu, q⟩ := h
    refine ⟨_, (pss_one (ps_ret (pe_ix ix_list (pv 1) (pe_call (ok__law_spill T) (hr.mono (by decide)) (by rfl) T._law_spill.g T._law_spill.F.kp T._law_spill.b .nil pass0 (pa_cons (pv 0) (pa_cons (pe_callB call_len_seq (by rfl) T.n_len bt_len (pa_cons (pv 1) pa_nil)) pa_nil))) (fun _ _ => rfl)))), ?_⟩
    walk_at "vc"
    refine ⟨xs, .inl (sl_of hp), u, _, k, rfl, by omega, by omega, hu, fun H' m b hu' m0 m1 => ?_⟩
    obtain ⟨j, rfl⟩ := Int.eq_ofNat_of_zero_le m0
    have hj : j < xs.length := by omega
    exact ixL (sl_of (b _ hpu _ hp)) (atI_nat (List.getElem?_eq_getElem hj)) (q _ _ b hu' (List.getElem_mem hj))
def spShared : Sp := fun vs H Q _ => ∃ a b : Int, vs = [.int a, .int b] ∧ a.natAbs < 2 ^ 190 ∧ b.natAbs < 2 ^ 190 ∧ Q (.int ((Nat.gcd a.natAbs b.natAbs : Nat) : Int)) H
theorem ok__law_shared (T : Txt K mg A) : FnOk P w K mg base CX0 1 A.f__law_shared A.d__law_shared ["one", "other"] spShared := by
  refine T._law_shared.F.ok sc__law_shared (fun vs H Q E h => ?_) (fun cdv A' outer s H vs Q E hr h => ?_)
  · obtain ⟨_, _, rfl, _⟩ := h; rfl
  · obtain ⟨a, b, rfl, ha, hb, q⟩ := h
    refine ⟨_, (pss_cons (ps_par (i := 2) (j := 3) rfl sc__law_shared.nd rfl rfl (by decide) rfl rfl (pa_cons (pe_callB call_abs (by rfl) T.n_abs bt_abs (pa_cons (pv 0) pa_nil)) (pa_cons (pe_callB call_abs (by rfl) T.n_abs bt_abs (pa_cons (pv 1) pa_nil)) pa_nil)) rfl)
      (pss_cons (ps_for PassesOwn.never rfl (pi_range1 rfl T.n_range (pa_cons pe_int pa_nil)) (pg_name (i := 4) sc__law_shared.nd rfl (.inl rfl)) (pss_cons (ps_if (pt_cmpR op_eq (pv 3) pe_int (nomark _)) (pss_one ps_break) pss_nil)
      (pss_one (ps_par (i := 2) (j := 3) rfl sc__law_shared.nd rfl rfl (by decide) rfl rfl (pa_cons (pv 3) (pa_cons (pe_op op_mod (pe_callTy call_int1 (by rfl) T.n_int bt_int (pa_cons (pv 2) pa_nil)) (pv 3)) pa_nil)) rfl))))
      (pss_one (ps_ret (pv 2))))), ?_⟩
    refine seq_by fun N hN => ?_
    walk_at "vc"
    rw [abs_nat, abs_nat]
    subst hN
    refine seq_by fun N hN => ?_
    have fin : ∀ (a' : Nat) (y2 y3 : Option V), a' = Nat.gcd a.natAbs b.natAbs → N [some (.int a), some (.int b), some (.int a'), y2, y3] H := by
      rintro a' y2 y3 rfl
      subst hN
      exact ⟨_, rfl, q⟩
    refine ⟨400, rfl, by decide, by decide, ?_⟩
    refine for_range (n := 400) (fun i σ H' => H' = H ∧ ∃ (x y : Nat) (t : Option V), σ = [some (.int a), some (.int b), some (.int x), some (.int y), t] ∧ Nat.gcd x y = Nat.gcd a.natAbs b.natAbs ∧ ((i = 0 ∧ x * y < 2 ^ 380) ∨ (y ≤ x ∧ x * y * 2 ^ i < 2 ^ 381))) ?_ ?_ ?_
    · refine ⟨rfl, _, _, none, rfl, rfl, .inl ⟨rfl, ?_⟩⟩
      rw [show (2 : Nat) ^ 380 = 2 ^ 190 * 2 ^ 190 from (Nat.pow_add 2 190 190)]
      exact Nat.mul_lt_mul'' ha hb
    · rintro i σ H' hi ⟨rfl, x, y, t, rfl, hg, hxy⟩
      walk_at "vc"
      refine ⟨rfl, ?_⟩
      split
      · rename_i hy
        have hy : y = 0 := by omega
        subst hy
        exact fin _ _ _ (by rw [← hg, Nat.gcd_zero_right])
      · rename_i hy
        have hy : y ≠ 0 := by omega
        obtain ⟨s1, s2⟩ := euc_step hy hxy
        exact ⟨by omega, y, rfl, x % y, rfl, (gcd_step _ _).trans hg, s1, s2⟩
    · rintro σ H' ⟨rfl, x, y, t, rfl, hg, hxy⟩
      rcases hxy with ⟨z, _⟩ | hxy
      · exact absurd z (by decide)
      · have := euc_end hxy
        subst this
        exact fin _ _ _ (by rw [← hg, Nat.gcd_zero_right])
def spSize : Sp := fun vs H Q _ => ∃ (u : Addr) (k : Nat), vs = [.ref u] ∧ Urn H u (k + 3) ∧ ∀ H' (m : Int), But u H H' → Urn H' u k → 0 ≤ m → m < 2 ^ 94 - 1 → Q (.int m) H'
theorem ok__law_size (T : Txt K mg A) : FnOk P w K mg base CX0 2 A.f__law_size A.d__law_size ["urn"] spSize := by
  refine T._law_size.F.ok sc__law_size (fun vs H Q E h => ?_) (fun cdv A' outer s H vs Q E hr h => ?_)
  · obtain ⟨_, _, rfl, _⟩ := h; rfl
  · obtain ⟨u, k, rfl, hu, q⟩ := h
    refine ⟨_, (pss_cons (ps_set (i := 1) sc__law_size.nd rfl (.inl rfl) (pe_call (ok__law_spill T) (hr.mono (by decide)) (by rfl) T._law_spill.g T._law_spill.F.kp T._law_spill.b .nil pass0 (pa_cons (pv 0) (pa_cons pe_int pa_nil))))
      (pss_cons (ps_if (pt_cmpR op_lt (pv 1) pe_int (nomark _)) (pss_one (ps_ret (pe_call (ok__law_spill T) (hr.mono (by decide)) (by rfl) T._law_spill.g T._law_spill.F.kp T._law_spill.b .nil pass0 (pa_cons (pv 0) (pa_cons pe_int pa_nil))))) pss_nil)
      (pss_cons (ps_if (pt_cmpR op_eq (pv 1) pe_int (nomark _)) (pss_one (ps_ret (pe_call (ok__law_spill T) (hr.mono (by decide)) (by rfl) T._law_spill.g T._law_spill.F.kp T._law_spill.b .nil pass0 (pa_cons (pv 0) (pa_cons (pe_op op_pow pe_int pe_int) pa_nil))))) pss_nil)
      (pss_one (ps_ret (pe_op op_add (pe_op op_add (pe_op op_pow pe_int pe_int) (pe_op op_mul (pe_call (ok__law_spill T) (hr.mono (by decide)) (by rfl) T._law_spill.g T._law_spill.F.kp T._law_spill.b .nil pass0 (pa_cons (pv 0) (pa_cons (pe_op op_pow pe_int pe_int) pa_nil))) (pe_op op_pow pe_int pe_int))) (pe_call (ok__law_spill T) (hr.mono (by decide)) (by rfl) T._law_spill.g T._law_spill.F.kp T._law_spill.b .nil pass0 (pa_cons (pv 0) (pa_cons pe_int pa_nil))))))))), ?_⟩
    walk_at "vc"
    refine ⟨u, _, k + 2, rfl, by decide, by decide, hu, fun H1 m b1 u1 m0 m1 => ?_⟩
    have p9 : CPow 10 9 := ⟨by decide, by decide, by decide⟩
    have e9 : (10 : Int) ^ Int.toNat 9 = 1000000000 := by decide
    have e28 : (10 : Int) ^ Int.toNat 28 = 10000000000000000000000000000 := by decide
    walk_at "vc"
    rw [e9, e28]
    split
    · refine ⟨u, _, k + 1, rfl, by decide, by decide, u1, fun H2 x b2 u2 x0 x1 => ?_⟩
      exact q _ _ (b1.trans b2) (u2.mono (by omega)) x0 (by omega)
    · refine ⟨rfl, ?_⟩
      split
      · refine ⟨p9, u, _, k + 1, rfl, by decide, by decide, u1, fun H2 x b2 u2 x0 x1 => ?_⟩
        exact q _ _ (b1.trans b2) (u2.mono (by omega)) x0 (by omega)
      · refine ⟨⟨by decide, by decide, by decide⟩, p9, u, _, k + 1, rfl, by decide, by decide, u1, fun H2 x b2 u2 x0 x1 => ?_⟩
        walk_at "vc"
        refine ⟨p9, .inl ⟨by omega, by omega⟩, u, _, k, rfl, by decide, by decide, u2, fun H3 y b3 u3 y0 y1 => ⟨y, rfl, ?_⟩⟩
        exact q _ _ ((b1.trans b2).trans b3) u3 (by omega) (by omega)
theorem div_low {t u : Int} (h : 0 < u) : (t / ((Nat.gcd t.natAbs u.natAbs : Nat) : Int), u / ((Nat.gcd t.natAbs u.natAbs : Nat) : Int)) = low t u := by
  unfold low
  rw [if_neg (by omega), Int.fdiv_eq_ediv_of_nonneg _ (by omega), Int.fdiv_eq_ediv_of_nonneg _ (by omega)]
def spDrawn : Sp := fun vs H Q _ => ∃ (u : Addr) (k : Nat), vs = [.ref u] ∧ Urn H u (k + 8) ∧ ∀ H' p q, But u H H' → Urn H' u k → H' p = some (.tup [.int q.1, .int q.2]) → Canon q → Sm 94 q → Q (.ref p) H'
theorem ok__law_drawn (T : Txt K mg A) : FnOk P w K mg base CX0 3 A.f__law_drawn A.d__law_drawn ["urn"] spDrawn := by
  refine T._law_drawn.F.ok sc__law_drawn (fun vs H Q E h => ?_) (fun cdv A' outer s H vs Q E hr h => ?_)
  · obtain ⟨_, _, rfl, _⟩ := h; rfl
  · obtain ⟨u, k, rfl, hu, q⟩ := h
    refine ⟨_, (pss_cons (ps_par (i := 1) (j := 2) rfl sc__law_drawn.nd rfl rfl (by decide) rfl rfl (pa_cons (pe_op op_mul (pe_call (ok__law_size T) (hr.mono (by decide)) (by rfl) T._law_size.g T._law_size.F.kp T._law_size.b .nil pass0 (pa_cons (pv 0) pa_nil)) (pe_op op_sub pe_int (pe_op op_mul pe_int (pe_call (ok__law_spill T) (hr.mono (by decide)) (by rfl) T._law_spill.g T._law_spill.F.kp T._law_spill.b .nil pass0 (pa_cons (pv 0) (pa_cons pe_int pa_nil)))))) (pa_cons (pe_op op_add (pe_call (ok__law_size T) (hr.mono (by decide)) (by rfl) T._law_size.g T._law_size.F.kp T._law_size.b .nil pass0 (pa_cons (pv 0) pa_nil)) pe_int) pa_nil)) rfl)
      (pss_cons (ps_if (pt_cmpR op_eq (pe_call (ok__law_spill T) (hr.mono (by decide)) (by rfl) T._law_spill.g T._law_spill.F.kp T._law_spill.b .nil pass0 (pa_cons (pv 0) (pa_cons pe_int pa_nil))) pe_int (nomark _)) (pss_one (ps_set (i := 2) sc__law_drawn.nd rfl (.inl rfl) pe_int)) pss_nil)
      (pss_cons (ps_set (i := 3) sc__law_drawn.nd rfl (.inl rfl) (pe_call (ok__law_shared T) (hr.mono (by decide)) (by rfl) T._law_shared.g T._law_shared.F.kp T._law_shared.b .nil pass0 (pa_cons (pv 1) (pa_cons (pv 2) pa_nil))))
      (pss_one (ps_ret (pe_tup (pa_cons (pe_op op_fdivW (pv 1) (pv 3)) (pa_cons (pe_op op_fdivW (pv 2) (pv 3)) pa_nil)))))))), ?_⟩
    refine seq_by fun N hN => ?_
    walk_at "vc"
    refine ⟨u, k + 5, rfl, hu, fun H1 m b1 u1 m0 m1 => ?_⟩
    walk_at "vc"
    refine ⟨u, _, k + 4, rfl, by decide, by decide, u1, fun H2 x b2 u2 x0 x1 => ?_⟩
    walk_at "vc"
    refine ⟨.inl (by decide), .inr ⟨by omega, by omega⟩, u, k + 1, rfl, u2, fun H3 n b3 u3 n0 n1 => ?_⟩
    walk_at "vc"
    have b13 := (b1.trans b2).trans b3
    have ht : (m * (1 - 2 * x)).natAbs < 2 ^ 94 := by
      have : x = 0 ∨ x = 1 := by omega
      rcases this with rfl | rfl
      · rw [show (1 - 2 * 0 : Int) = 1 by decide, Int.mul_one]; omega
      · rw [show (1 - 2 * 1 : Int) = -1 by decide, Int.mul_neg_one]; omega
    generalize m * (1 - 2 * x) = t at *
    subst hN
    refine seq_by fun N hN => ?_
    have fin : ∀ (n' : Int) H4, But u H H4 → Urn H4 u k → 0 < n' → n'.natAbs < 2 ^ 94 → N [some (.ref u), some (.int t), some (.int n'), none] H4 := by
      intro n' H4 b4 u4 n0 n1
      subst hN
      walk_at "vc"
      have hg : 0 < Nat.gcd t.natAbs n'.natAbs := Nat.gcd_pos_of_pos_right _ (by omega)
      have hl : Nat.gcd t.natAbs n'.natAbs ≤ n'.natAbs := Nat.le_of_dvd (by omega) (Nat.gcd_dvd_right _ _)
      have l190 : (2 : Nat) ^ 94 < 2 ^ 190 := by decide
      refine ⟨t, n', rfl, by omega, by omega, ?_⟩
      walk_at "vc"
      have hd : ∀ i, CDivW i ((Nat.gcd t.natAbs n'.natAbs : Nat) : Int) := fun i => wide_div (b := 94) (by omega) (by omega) (by decide) (by decide)
      refine ⟨hd _, hd _, by decide, fun p hp => ?_⟩
      obtain ⟨h1, h2, h3⟩ := low_is (t := t) (u := n') (by omega)
      have e := div_low (t := t) n0
      refine q _ p (low t n') (b4.trans (same_but (same_upd hp))) (u4.same (same_upd hp)) ?_ h1.1 ⟨by omega, by omega⟩
      rw [upd_same, ← e]
    walk_at "vc"
    refine ⟨u, _, k, rfl, by decide, by decide, u3, fun H4 y b4 u4 y0 y1 => ⟨rfl, ?_⟩⟩
    split
    · exact fin 1 H4 (b13.trans b4) u4 (by decide) (by decide)
    · exact fin _ H4 (b13.trans b4) u4 (by omega) (by omega)
def spPassed (K : PySem.W.Frag) : Sp := fun vs H Q _ => ∃ (u : Addr) (v : V) (q : Int × Int) (k : Nat), vs = [.ref u, v] ∧ Pr K H v q ∧ Canon q ∧ Urn H u (k + 2) ∧ ∀ H' z, But u H H' → Urn H' u k → Num K H' z q → Q z H'
theorem ok__law_passed (T : Txt K mg A) : FnOk P w K mg base CX0 2 A.f__law_passed A.d__law_passed ["urn", "pair"] (spPassed K) := by
  refine T._law_passed.F.ok sc__law_passed (fun vs H Q E h => ?_) (fun cdv A' outer s H vs Q E hr h => ?_)
  · obtain ⟨_, _, _, _, rfl, _⟩ := h; rfl
  · obtain ⟨u, v, ⟨a, b⟩, k, rfl, ⟨p, rfl, hp⟩, hc, hu, q⟩ := h
    refine ⟨_, (pss_cons (ps_if (PW.pt (pw_and (pt_cmpR op_eq (pe_ix ix_tup (pv 1) pe_int (fun _ _ => rfl)) pe_int (nomark _)) (pw_and1 (pt_cmpR op_eq (pe_call (ok__law_spill T) (hr.mono (by decide)) (by rfl) T._law_spill.g T._law_spill.F.kp T._law_spill.b .nil pass0 (pa_cons (pv 0) (pa_cons pe_int pa_nil))) pe_int (nomark _))))) (pss_one (ps_ret (pe_ix ix_tup (pv 1) pe_int (fun _ _ => rfl)))) pss_nil)
      (pss_one (ps_ret (pe_ifExp (pt_cmpR op_eq (pe_call (ok__law_spill T) (hr.mono (by decide)) (by rfl) T._law_spill.g T._law_spill.F.kp T._law_spill.b .nil pass0 (pa_cons (pv 0) (pa_cons pe_int pa_nil))) pe_int (nomark _)) (pe_callTy call_list_of (by rfl) T.n_list bt_list (pa_cons (pv 1) pa_nil)) (pv 1))))), ?_⟩
    obtain ⟨c, ys, hc0⟩ := hu.at
    have two : ∀ H1, But u H H1 → Urn H1 u (k + 1) → spSpill [.ref u, .int 2] H1 (fun x H2 => scal x (.int 0) = true ∧ (if x = .int 0 then ∃ xs, (SqL K H2 p xs ∨ SqT K H2 p xs) ∧ (∀ l, H2 l = none → Q (.ref l) (upd H2 l (.lst xs))) else Q (.ref p) H2)) E0 := by
      intro H1 b1 u1
      refine ⟨u, _, k, rfl, by decide, by decide, u1, fun H2 x b2 u2 x0 x1 => ⟨rfl, ?_⟩⟩
      have hp2 := (b1.trans b2).tup hc0 hp
      split
      · refine ⟨_, .inr hp2, fun l hl => ?_⟩
        exact q _ _ ((b1.trans b2).trans (same_but (same_upd hl))) (u2.same (same_upd hl)) (.sq (.inl (sl_of upd_same)) hc)
      · exact q _ _ (b1.trans b2) u2 (.sq (.inr hp2) hc)
    walk_at "vc"
    refine ixT hp rfl ⟨rfl, ?_⟩
    split
    · rename_i hb
      have hb : b = 1 := V.int.inj hb
      subst hb
      refine ⟨u, _, k + 1, rfl, by decide, by decide, hu, fun H1 x b1 u1 x0 x1 => ⟨rfl, ?_⟩⟩
      split
      · exact ixT (b1.tup hc0 hp) rfl (q _ _ b1 (u1.mono (by omega)) (.int a))
      · exact two H1 b1 u1
    · exact two H (But.refl u H) (hu.mono (by omega))
def spIsPairL (K : PySem.W.Frag) : Sp := fun vs H Q _ => ∃ (v : V) (top under : Int) (q : Int × Int), vs = [v, .int top, .int under] ∧ Pr K H v q ∧ IsLow top under q ∧ Sm 190 q ∧ Sm 4000 (top, under) ∧ RetV H (.bl true) Q
theorem ok__law_is_pair (T : Txt K mg A) : FnOk P w K mg base CX0 2 A.f__law_is_pair A.d__law_is_pair ["value", "top", "under"] (spIsPairL K) := by
  refine T._law_is_pair.F.ok sc__law_is_pair (fun vs H Q E h => ?_) (fun cdv A' outer s H vs Q E hr h => ?_)
  · obtain ⟨_, _, _, _, rfl, _⟩ := h; rfl
  · obtain ⟨v, top, under, ⟨a, b⟩, rfl, ⟨p, rfl, hp⟩, ⟨⟨hb, hg⟩, e⟩, ⟨s1, s2⟩, ⟨s3, s4⟩, q⟩ := h
    refine ⟨_, (pss_cons (ps_if (PW.pt (pw_or (pt_not (pt_val (pe_callB call_isi (by rfl) T.n_isinstance bt_isinstance (pa_cons (pv 0) (pa_cons (pe_bltn (v := .ty "tuple") (by rfl) T.n_tuple bt_tuple rfl) pa_nil))))) (pw_or1 (pt_cmpR op_ne (pe_callB call_len_seq (by rfl) T.n_len bt_len (pa_cons (pv 0) pa_nil)) pe_int (nomark _))))) (pss_one (ps_ret pe_bl)) pss_nil)
      (pss_cons (ps_for PassesOwn.never rfl (pi_tup (pv 0)) (pg_name (i := 3) sc__law_is_pair.nd rfl (.inl rfl)) (pss_one (ps_if (PW.pt (pw_or (pt_not (pt_val (pe_callB call_isi (by rfl) T.n_isinstance bt_isinstance (pa_cons (pv 3) (pa_cons (pe_bltn (v := .ty "int") (by rfl) T.n_int bt_int rfl) pa_nil))))) (pw_or1 (pt_val (pe_callB call_isi (by rfl) T.n_isinstance bt_isinstance (pa_cons (pv 3) (pa_cons (pe_bltn (v := .ty "bool") (by rfl) T.n_bool bt_bool rfl) pa_nil))))))) (pss_one (ps_ret pe_bl)) pss_nil)))
      (pss_one (ps_ret (pe_and (pe_cmpR op_ge (pe_ix ix_tup (pv 0) pe_int (fun _ _ => rfl)) pe_int (nomark _)) (pe_and (pe_cmpR op_eq (pe_call (ok__law_shared T) (hr.mono (by decide)) (by rfl) T._law_shared.g T._law_shared.F.kp T._law_shared.b .nil pass0 (pa_cons (pe_ix ix_tup (pv 0) pe_int (fun _ _ => rfl)) (pa_cons (pe_ix ix_tup (pv 0) pe_int (fun _ _ => rfl)) pa_nil))) pe_int (nomark _)) (pe_one (pe_cmpR op_eq (pe_op op_mulW (pe_ix ix_tup (pv 0) pe_int (fun _ _ => rfl)) (pv 2)) (pe_op op_mulW (pv 1) (pe_ix ix_tup (pv 0) pe_int (fun _ _ => rfl))) (nomark _))))))))), ?_⟩
    have q := q H (Same.refl H)
    dsimp only at hb hg e s1 s2 s3 s4
    refine seq_by fun N hN => ?_
    walk_at "vc"
    refine ty_tuple (.tup hp) ⟨_, rfl, ?_⟩
    rw [if_neg (by decide)]
    refine ⟨_, .inr hp, rfl, ?_⟩
    rw [if_neg (fun z => z rfl)]
    subst hN
    refine seq_by fun N hN => ?_
    refine ⟨_, rfl, p, rfl, ⟨_, hp⟩, for_tup (xs := [.int a, .int b]) (fun i σ H' => H' = H ∧ ∃ y, σ = [some (.ref p), some (.int top), some (.int under), y]) ⟨rfl, none, rfl⟩ (fun i σ H' _ h => by rw [h.1]; exact hp) ?_ ?_⟩
    · rintro i x σ H' hx ⟨rfl, y, rfl⟩
      have hx : ∃ z, x = .int z := by
        match i, hx with
        | 0, hx => exact ⟨a, (Option.some.inj hx).symm⟩
        | 1, hx => exact ⟨b, (Option.some.inj hx).symm⟩
      obtain ⟨z, rfl⟩ := hx
      walk_at "vc"
      refine ty_int (.int z) ⟨_, rfl, ?_⟩
      rw [if_neg (by decide)]
      refine ty_bool (.int z) ⟨_, rfl, ?_⟩
      rw [if_neg (by decide)]
      exact ⟨rfl, _, rfl⟩
    · rintro σ H' ⟨rfl, y, rfl⟩
      subst hN
      walk_at "vc"
      refine ixT hp rfl ⟨_, rfl, ?_⟩
      rw [if_pos hb]
      refine ixT hp rfl (ixT hp rfl ⟨a, b, rfl, s1, s2, ?_⟩)
      walk_at "vc"
      refine ⟨rfl, ?_⟩
      rw [if_pos (by rw [hg]; rfl)]
      refine ixT hp rfl ⟨a, rfl, wide_mul (a := 190) (b := 4000) s1 s4 (by decide) (by decide) (by decide), ixT hp rfl ⟨_, rfl, wide_mul (a := 4000) (b := 190) s3 s2 (by decide) (by decide) (by decide), rfl, ?_⟩⟩
      rw [decide_eq_true (by rw [e])]
      exact q
end
end Odd
namespace Odd
open PySem PySem.Spec PyProof.Rows L2
local macro_rules | `(tactic| walk_at "vc") => `(tactic| simp only [tSeq, tAsg, gName, tCB, tCons, tNil, tVar, tC, tOp, tUn, rI0, rI, rU, tTup, tLst, tIfS, tTest, tB, tRet, tNext, rGcd, L2.start, List.map, List.set, List.replicate, List.cons_append, List.nil_append, List.length_cons, List.length_nil, List.getElem?_cons_succ, List.getElem?_cons_zero, Option.some.injEq, exists_eq_left', exists_eq_left, List.append_nil, List.cons.injEq, V.int.injEq, exists_and_left, and_true, true_and, and_assoc, exists_const, V.bl.injEq, V.ref.injEq, Nat.sub_self, Nat.reduceAdd, Nat.reduceSub, List.replicate_succ, List.replicate_zero, tAnd, tOr, tNot, tAndV, tOrV, tNotV, tIf, tCall, tCallK, tDrop, rEq, rNe, decide_eq_true_eq, Bool.not_eq_true', decide_eq_false_iff_not, Bool.false_eq_true, if_true, if_false, reduceIte, reduceCtorEq, tMkLow, tRaiseLow, rIsB, rNotB, tBreak, tPar, gSub, rSetL, tChain, gTup, gCons, gNil, gSeq, cx_K, cx_Kn, optV, V.str.injEq, Bool.not_true, Bool.not_false, false_and, and_false, or_false, false_or, exists_false, tCallN, tCallS, tPairs])
section
variable {P : Program} {w : World} {K : PySem.W.Frag} {mg : Str → Option Value} {base : Heap} {A : Ads}
theorem kb_plus (T : Txt K mg A) : KBn K A.d_plus ["one", "other"] 0 ["one", "other"] (fun _ ws => ws) (fun _ zs => zs) := fun_kb T.plus.F fun _ _ _ _ _ _ ws hl => match ws, hl with | [_, _], _ => rfl
theorem kb_minus (T : Txt K mg A) : KBn K A.d_minus ["one", "other"] 0 ["one", "other"] (fun _ ws => ws) (fun _ zs => zs) := fun_kb T.minus.F fun _ _ _ _ _ _ ws hl => match ws, hl with | [_, _], _ => rfl
theorem kb_times (T : Txt K mg A) : KBn K A.d_times ["one", "other"] 0 ["one", "other"] (fun _ ws => ws) (fun _ zs => zs) := fun_kb T.times.F fun _ _ _ _ _ _ ws hl => match ws, hl with | [_, _], _ => rfl
theorem kb_over (T : Txt K mg A) : KBn K A.d_over ["one", "other"] 0 ["one", "other"] (fun _ ws => ws) (fun _ zs => zs) := fun_kb T.over.F fun _ _ _ _ _ _ ws hl => match ws, hl with | [_, _], _ => rfl
theorem kb_is_less (T : Txt K mg A) : KBn K A.d_is_less ["one", "other"] 0 ["one", "other"] (fun _ ws => ws) (fun _ zs => zs) := fun_kb T.is_less.F fun _ _ _ _ _ _ ws hl => match ws, hl with | [_, _], _ => rfl
theorem kb_sign_of (T : Txt K mg A) : KBn K A.d_sign_of ["value"] 0 ["value"] (fun _ ws => ws) (fun _ zs => zs) := fun_kb T.sign_of.F fun _ _ _ _ _ _ ws hl => match ws, hl with | [_], _ => rfl
theorem kb_is_number (T : Txt K mg A) : KBn K A.d_is_number ["value"] 0 ["value"] (fun _ ws => ws) (fun _ zs => zs) := fun_kb T.is_number.F fun _ _ _ _ _ _ ws hl => match ws, hl with | [_], _ => rfl
theorem kb_is_integer (T : Txt K mg A) : KBn K A.d_is_integer ["value"] 0 ["value"] (fun _ ws => ws) (fun _ zs => zs) := fun_kb T.is_integer.F fun _ _ _ _ _ _ ws hl => match ws, hl with | [_], _ => rfl
theorem kb_is_within (T : Txt K mg A) : KBn K A.d_is_within ["value", "least", "most"] 0 ["value", "least", "most"] (fun _ ws => ws) (fun _ zs => zs) := fun_kb T.is_within.F fun _ _ _ _ _ _ ws hl => match ws, hl with | [_, _, _], _ => rfl
theorem nb2 (T : Txt K mg A) : Vals [] ([] : List Value) ∧ Binds K A.d_number ["top", "under"] [] := by
  obtain ⟨ds, v, b⟩ := T.number.F.binds1 (ps := ["top", "under"]) 2 1 (by simp) rfl fun T kV doc pm an cdv ct us its l1 l2 => by
    match us, its, l1, l2 with
    | [u1, u2], [d], _, _ => exact ⟨_, rfl, rfl⟩
  cases v
  exact ⟨.nil, b⟩
theorem nb1 (T : Txt K mg A) : ∃ ds, Vals [.int 1] ds ∧ Binds K A.d_number ["top", "under"] ds :=
  T.number.F.binds1 (ps := ["top", "under"]) 1 0 (by simp) rfl fun T kV doc pm an cdv ct us its l1 l2 => by
    match us, its, l1, l2 with
    | [u1], [d], _, _ => exact ⟨_, rfl, rfl⟩
theorem nk2 (T : Txt K mg A) : ∃ its : List Value, KBn K A.d_number ["top", "under"] 0 ["top", "under"] (fun _ ws => ws ++ its.drop 1) (fun _ zs => zs ++ ([.int 1] : List V).drop 1) :=
  funD_kb T.number.F (by simp) fun T kV doc pm an cdv ct its ws l1 l2 => by
    match ws, its, l2, l1 with
    | [u1, u2], [d], _, _ => exact ⟨_, rfl, rfl⟩
theorem nk1 (T : Txt K mg A) : ∃ its : List Value, KBn K A.d_number ["top", "under"] 0 ["top"] (fun _ ws => ws ++ its.drop 0) (fun _ zs => zs ++ ([.int 1] : List V).drop 0) :=
  funD_kb T.number.F (by simp) fun T kV doc pm an cdv ct its ws l1 l2 => by
    match ws, its, l2, l1 with
    | [u1], [d], _, _ => exact ⟨_, rfl, rfl⟩
def spDone (K : PySem.W.Frag) (C : Addr) : Sp := fun vs H Q E => ∃ (way : Int) (v u : V), vs = [.int way, v, u] ∧
  ((way = 0 ∧ spBin K C (rOf K fAdd) [v, u] H Q E) ∨ (way = 1 ∧ spBin K C (rOf K fSub) [v, u] H Q E) ∨ (way = 2 ∧ spBin K C (rOf K fMul) [v, u] H Q E) ∨
   (way = 3 ∧ spBin K C (rOver K C) [v, u] H Q E) ∨ (way = 4 ∧ spBin K C rLess [v, u] H Q E) ∨ (way = 5 ∧ spNumber K C [v, u] H Q E) ∨ (way = 6 ∧ spSignOf K C [v] H Q E) ∨ (way = 7 ∧ spNumber K C [v, .int 1] H Q E))
theorem ok__law_done (T : Txt K mg A) : FnOk P w K mg base (L2.CX P w) 6 A.f__law_done A.d__law_done ["way", "one", "other"] (spDone K A.c_BadNumber) := by
  refine T._law_done.F.okX sc__law_done (fun vs H Q E h => ?_) (fun cdv A' outer s H vs Q E hr h => ?_)
  · obtain ⟨_, _, _, rfl, _⟩ := h; rfl
  · obtain ⟨way, v, u, rfl, h⟩ := h
    obtain ⟨v2, b2⟩ := nb2 T
    obtain ⟨ds1, v1, b1⟩ := nb1 T
    refine ⟨_, (pss_cons (ps_if (pt_cmpR op_lt (pv 0) pe_int (nomark _)) (pss_one (ps_ret (pe_ifExp (pt_cmpR op_eq (pv 0) pe_int (nomark _)) (pe_call (ok_plus T) (hr.mono (by decide)) (by rfl) T.plus.g T.plus.F.kp T.plus.b .nil (passes_call (takes_of rfl rfl rfl rfl) (fun _ _ _ _ h => h)) (pa_cons (pv 1) (pa_cons (pv 2) pa_nil))) (pe_ifExp (pt_cmpR op_eq (pv 0) pe_int (nomark _)) (pe_call (ok_minus T) (hr.mono (by decide)) (by rfl) T.minus.g T.minus.F.kp T.minus.b .nil (passes_call (takes_of rfl rfl rfl rfl) (fun _ _ _ _ h => h)) (pa_cons (pv 1) (pa_cons (pv 2) pa_nil))) (pe_call (ok_times T) (hr.mono (by decide)) (by rfl) T.times.g T.times.F.kp T.times.b .nil (passes_call (takes_of rfl rfl rfl rfl) (fun _ _ _ _ h => h)) (pa_cons (pv 1) (pa_cons (pv 2) pa_nil))))))) pss_nil)
      (pss_cons (ps_if (pt_cmpR op_lt (pv 0) pe_int (nomark _)) (pss_one (ps_ret (pe_ifExp (pt_cmpR op_eq (pv 0) pe_int (nomark _)) (pe_call (ok_over T) (hr.mono (by decide)) (by rfl) T.over.g T.over.F.kp T.over.b .nil (passes_call (takes_of rfl rfl rfl rfl) (fun _ _ _ _ h => h)) (pa_cons (pv 1) (pa_cons (pv 2) pa_nil))) (pe_ifExp (pt_cmpR op_eq (pv 0) pe_int (nomark _)) (pe_call (ok_is_less T) (hr.mono (by decide)) (by rfl) T.is_less.g T.is_less.F.kp T.is_less.b .nil (passes_call (takes_of rfl rfl rfl rfl) (fun _ _ _ _ h => h)) (pa_cons (pv 1) (pa_cons (pv 2) pa_nil))) (pe_call (ok_number T) (hr.mono (by decide)) (by rfl) T.number.g T.number.F.kp b2 v2 (passes_call (takes_of rfl rfl rfl rfl) (fun _ _ _ _ h => h)) (pa_cons (pv 1) (pa_cons (pv 2) pa_nil))))))) pss_nil)
      (pss_one (ps_ret (pe_ifExp (pt_cmpR op_eq (pv 0) pe_int (nomark _)) (pe_call (ok_sign_of T) (hr.mono (by decide)) (by rfl) T.sign_of.g T.sign_of.F.kp T.sign_of.b .nil (passes_call (takes_of rfl rfl rfl rfl) (fun _ _ _ _ h => h)) (pa_cons (pv 1) pa_nil)) (pe_call (ok_number T) (hr.mono (by decide)) (by rfl) T.number.g T.number.F.kp b1 v1 (passes_call (takes_of rfl rfl rfl rfl) (fun _ _ _ _ h => h)) (pa_cons (pv 1) pa_nil))))))), ?_⟩
    walk_at "vc"
    rcases h with ⟨rfl, h⟩ | ⟨rfl, h⟩ | ⟨rfl, h⟩ | ⟨rfl, h⟩ | ⟨rfl, h⟩ | ⟨rfl, h⟩ | ⟨rfl, h⟩ | ⟨rfl, h⟩ <;> first | exact ⟨rfl, h⟩ | (refine ⟨rfl, ?_⟩; rw [if_neg (by decide)]; exact ⟨rfl, h⟩)
theorem RaiseP.imp {H : Hp} {C : Addr} {part : V} {E E' : XK} (i : ∀ cls d H, E cls d H → E' cls d H) (h : RaiseP H C part E) : RaiseP H C part E' := fun H' d s e => i _ _ _ (h H' d s e)
theorem spBin.imp {C : Addr} {R : Int × Int → Int × Int → Hp → VK → XK → Prop} {vs : List V} {H : Hp} {Q : VK} {E E' : XK} (i : ∀ cls d H, E cls d H → E' cls d H) (ir : ∀ a b, R a b H Q E → R a b H Q E') (h : spBin K C R vs H Q E) : spBin K C R vs H Q E' := by
  obtain ⟨v, u, e, h⟩ := h
  refine ⟨v, u, e, ?_⟩
  rcases h with ⟨a, b, ha, hb, sa, sb, q⟩ | ⟨hb, q⟩ | ⟨a, ha, hb, q⟩
  · exact .inl ⟨a, b, ha, hb, sa, sb, ir a b q⟩
  · exact .inr (.inl ⟨hb, q.imp i⟩)
  · exact .inr (.inr ⟨a, ha, hb, q.imp i⟩)
theorem spNumber.imp {C : Addr} {vs : List V} {H : Hp} {Q : VK} {E E' : XK} (i : ∀ cls d H, E cls d H → E' cls d H) (h : spNumber K C vs H Q E) : spNumber K C vs H Q E' := by
  obtain ⟨v, u, U, W, e, hv, hu, h⟩ := h
  refine ⟨v, u, U, W, e, hv, hu, ?_⟩
  rcases h with ⟨h1, q⟩ | ⟨h1, h2, q⟩ | ⟨t, h1, h2, q⟩ | h
  · exact .inl ⟨h1, q.imp i⟩
  · exact .inr (.inl ⟨h1, h2, q.imp i⟩)
  · exact .inr (.inr (.inl ⟨t, h1, h2, q.imp i⟩))
  · exact .inr (.inr (.inr h))
theorem spDone.imp {C : Addr} {vs : List V} {H : Hp} {Q : VK} {E E' : XK} (i : ∀ cls d H, E cls d H → E' cls d H) (h : spDone K C vs H Q E) : spDone K C vs H Q E' := by
  obtain ⟨way, v, u, e, h⟩ := h
  refine ⟨way, v, u, e, ?_⟩
  rcases h with ⟨z, h⟩ | ⟨z, h⟩ | ⟨z, h⟩ | ⟨z, h⟩ | ⟨z, h⟩ | ⟨z, h⟩ | ⟨z, h⟩ | ⟨z, h⟩
  · exact .inl ⟨z, h.imp i fun _ _ q => q⟩
  · exact .inr (.inl ⟨z, h.imp i fun _ _ q => q⟩)
  · exact .inr (.inr (.inl ⟨z, h.imp i fun _ _ q => q⟩))
  · refine .inr (.inr (.inr (.inl ⟨z, h.imp i fun _ _ q => ?_⟩)))
    rcases q with q | ⟨z, q⟩
    · exact .inl q
    · exact .inr ⟨z, q.imp i⟩
  · exact .inr (.inr (.inr (.inr (.inl ⟨z, h.imp i fun _ _ q => q⟩))))
  · exact .inr (.inr (.inr (.inr (.inr (.inl ⟨z, h.imp i⟩)))))
  · refine .inr (.inr (.inr (.inr (.inr (.inr (.inl ⟨z, ?_⟩))))))
    obtain ⟨v, e, h⟩ := h
    refine ⟨v, e, ?_⟩
    rcases h with h | ⟨hb, q⟩
    · exact .inl h
    · exact .inr ⟨hb, q.imp i⟩
  · exact .inr (.inr (.inr (.inr (.inr (.inr (.inr ⟨z, h.imp i⟩))))))
def spPart (K : PySem.W.Frag) (C : Addr) : Sp := fun vs H Q _ => spDone K C vs H (fun _ H' => Q .non H') (fun cls d H' => cls = .ref C ∧ ∃ dd part, d = some dd ∧ H' dd = some (.xd [(("part" : Str), part)]) ∧ Q part H')
theorem ok__law_part (T : Txt K mg A) : FnOk P w K mg base CX0 7 A.f__law_part A.d__law_part ["way", "one", "other"] (spPart K A.c_BadNumber) := by
  refine T._law_part.F.ok sc__law_part (fun vs H Q E h => ?_) (fun cdv A' outer s H vs Q E hr h => ?_)
  · obtain ⟨_, _, _, rfl, _⟩ := h; rfl
  · have h0 : spDone K A.c_BadNumber vs H _ _ := h
    obtain ⟨way, v, u, rfl, h⟩ := h
    have hr1 : Room 6 _ := hr
    refine ⟨_, (pss_cons (ps_set (i := 3) sc__law_part.nd rfl (.inl rfl) pe_non)
      (pss_cons (ps_try_as (i := 4) (tb := fun W => tDrop (tCallS (spDone K A.c_BadNumber) (WE W) (tCons (tVar 0) (tCons (tVar 1) (tCons (tVar 2) tNil))))) (ts := fun a cls d => tAsg (tByLow A.c_BadNumber a cls d (tVar 4)) (gName 3)) (Wout := fun _ _ _ _ => False) rfl rfl sc__law_part.nd rfl rfl ⟨rfl, by decide, Or.inl T.low_BadNumber.gC⟩ takes0 (fun W pn xe tk _ => pss_one (ps_expr (by exact (pe_callS (ok__law_done T) hr1 rfl T._law_done.g T._law_done.F.kp T._law_done.b (fun σ => passAt tk σ) (by exact (pa_cons (pv 0) (pa_cons (pv 1) (pa_cons (pv 2) pa_nil)))))))) (fun a oe cls d pn hz hf => pss_one (ps_set (i := 3) sc__law_part.nd rfl (Or.inl rfl) (by exact (pe_byLow T.low_BadNumber hz hf (pv 4))))))
      (pss_one (ps_ret (pv 3))))), ?_⟩
    walk_at "vc"
    refine spDone.imp (fun cls d H' hE => ?_) h0
    obtain ⟨rfl, dd, part, rfl, hd, q⟩ := hE
    refine ⟨true, T.low_BadNumber.te, fun _ a ha => ?_, fun z => Bool.noConfusion z⟩
    exact ⟨_, rfl, rfl, rfl, dd, _, rfl, hd, _, rfl, q⟩
end
end Odd
namespace Odd
open PySem PySem.Spec PyProof.Rows L2
local macro_rules | `(tactic| walk_at "vc") => `(tactic| simp only [tSeq, tAsg, gName, tCB, tCons, tNil, tVar, tC, tOp, tUn, rI0, rI, rU, tTup, tLst, tIfS, tTest, tB, tRet, tNext, rGcd, L2.start, List.map, List.set, List.replicate, List.cons_append, List.nil_append, List.length_cons, List.length_nil, List.getElem?_cons_succ, List.getElem?_cons_zero, Option.some.injEq, exists_eq_left', exists_eq_left, List.append_nil, List.cons.injEq, V.int.injEq, exists_and_left, and_true, true_and, and_assoc, exists_const, V.bl.injEq, V.ref.injEq, Nat.sub_self, Nat.reduceAdd, Nat.reduceSub, List.replicate_succ, List.replicate_zero, tAnd, tOr, tNot, tAndV, tOrV, tNotV, tIf, tCall, tCallK, tDrop, rEq, rNe, decide_eq_true_eq, Bool.not_eq_true', decide_eq_false_iff_not, Bool.false_eq_true, if_true, if_false, reduceIte, reduceCtorEq, tMkLow, tRaiseLow, rIsB, rNotB, tBreak, tPar, gSub, rSetL, tChain, gTup, gCons, gNil, gSeq, cx_K, cx_Kn, optV, V.str.injEq, Bool.not_true, Bool.not_false, false_and, and_false, or_false, false_or, exists_false, tCallN, tCallS, tPairs])
section
variable {P : Program} {w : World} {K : PySem.W.Frag} {mg : Str → Option Value} {base : Heap} {A : Ads} {H : Hp} {Q : VK} {E : XK} {C : Addr}
def RetS (H : Hp) (v : V) (Q : VK) : Prop := ∀ H', Same H H' → Q v H'
theorem raise_ok {part : V} (q : RetS H part Q) : RaiseP H C part (fun cls d H' => cls = .ref C ∧ ∃ dd part, d = some dd ∧ H' dd = some (.xd [(("part" : Str), part)]) ∧ Q part H') :=
  fun H' d s e => ⟨rfl, d, part, rfl, e, q H' s⟩
theorem part_bin {way : Int} {v u : V} (h0 : 0 ≤ way) (h4 : way ≤ 4) (h : (Bad K H v ∧ RetS H (.str "one") Q) ∨ (∃ a, Num K H v a ∧ Bad K H u ∧ RetS H (.str "other") Q)) : spPart K C [.int way, v, u] H Q E := by
  refine ⟨way, v, u, rfl, ?_⟩
  have key : ∀ R, spBin K C R [v, u] H (fun _ H' => Q .non H') (fun cls d H' => cls = .ref C ∧ ∃ dd part, d = some dd ∧ H' dd = some (.xd [(("part" : Str), part)]) ∧ Q part H') := by
    intro R
    refine ⟨v, u, rfl, .inr ?_⟩
    rcases h with ⟨hb, q⟩ | ⟨a, ha, hb, q⟩
    · exact .inl ⟨hb, raise_ok q⟩
    · exact .inr ⟨a, ha, hb, raise_ok q⟩
  have : way = 0 ∨ way = 1 ∨ way = 2 ∨ way = 3 ∨ way = 4 := by omega
  rcases this with z | z | z | z | z
  · exact .inl ⟨z, key _⟩
  · exact .inr (.inl ⟨z, key _⟩)
  · exact .inr (.inr (.inl ⟨z, key _⟩))
  · exact .inr (.inr (.inr (.inl ⟨z, key _⟩)))
  · exact .inr (.inr (.inr (.inr (.inl ⟨z, key _⟩))))
theorem part_zero {v u : V} {a b : Int × Int} (ha : Num K H v a) (hb : Num K H u b) (sa : Sm 4000 a) (sb : Sm 4000 b) (z : b.1 = 0) (q : RetS H (.str "other") Q) : spPart K C [.int 3, v, u] H Q E :=
  ⟨3, v, u, rfl, .inr (.inr (.inr (.inl ⟨rfl, v, u, rfl, .inl ⟨a, b, ha, hb, sa, sb, .inr ⟨z, raise_ok q⟩⟩⟩)))⟩
theorem part_value {v u : V} (hb : Bad K H v) (q : RetS H (.str "value") Q) : spPart K C [.int 6, v, u] H Q E :=
  ⟨6, v, u, rfl, .inr (.inr (.inr (.inr (.inr (.inr (.inl ⟨rfl, v, rfl, .inr ⟨hb, raise_ok q⟩⟩))))))⟩
theorem part_top7 {v u : V} {U : String} (hv : TyN K H v U) (hU : U ≠ "int") (q : RetS H (.str "top") Q) : spPart K C [.int 7, v, u] H Q E :=
  ⟨7, v, u, rfl, .inr (.inr (.inr (.inr (.inr (.inr (.inr ⟨rfl, v, .int 1, U, _, rfl, hv, .int 1, .inl ⟨hU, raise_ok q⟩⟩))))))⟩
theorem part_5 {v u : V} {U W : String} (hv : TyN K H v U) (hu : TyN K H u W)
    (h : (U ≠ "int" ∧ RetS H (.str "top") Q) ∨ (U = "int" ∧ W ≠ "int" ∧ RetS H (.str "under") Q) ∨ (∃ t, v = .int t ∧ u = .int 0 ∧ RetS H (.str "under") Q) ∨ (∃ t n : Int, v = .int t ∧ u = .int n ∧ n ≠ 0 ∧ n.natAbs < 2 ^ 8000 ∧ RetS H .non Q)) : spPart K C [.int 5, v, u] H Q E := by
  refine ⟨5, v, u, rfl, .inr (.inr (.inr (.inr (.inr (.inl ⟨rfl, v, u, U, W, rfl, hv, hu, ?_⟩)))))⟩
  rcases h with ⟨h1, q⟩ | ⟨h1, h2, q⟩ | ⟨t, h1, h2, q⟩ | ⟨t, n, h1, h2, h3, h4, q⟩
  · exact .inl ⟨h1, raise_ok q⟩
  · exact .inr (.inl ⟨h1, h2, raise_ok q⟩)
  · exact .inr (.inr (.inl ⟨t, h1, h2, raise_ok q⟩))
  · exact .inr (.inr (.inr ⟨t, n, h1, h2, h3, h4, fun H' p s _ => q H' s⟩))
end
theorem pow_le {n m : Nat} (h : n ≤ m) : (2 : Nat) ^ n ≤ 2 ^ m := Nat.pow_le_pow_right (by decide) h
theorem Sm.up {n m : Nat} {q : Int × Int} (h : n ≤ m) (s : Sm n q) : Sm m q := ⟨Nat.lt_of_lt_of_le s.1 (pow_le h), Nat.lt_of_lt_of_le s.2 (pow_le h)⟩
theorem mul188 {i j : Int} (ha : i.natAbs < 2 ^ 94) (hb : j.natAbs < 2 ^ 94) : (i * j).natAbs < 2 ^ 188 := wide_lt ha hb
theorem low_fit {t u : Int} (h : u ≠ 0) (ht : t.natAbs < 2 ^ 190) (hu : u.natAbs < 2 ^ 190) : IsLow t u (low t u) ∧ Sm 190 (low t u) ∧ Sm 4000 (t, u) := by
  obtain ⟨h1, h2, h3⟩ := low_is (t := t) h
  have l : (2 : Nat) ^ 190 ≤ 2 ^ 4000 := pow_le (by decide)
  exact ⟨h1, ⟨Nat.lt_of_le_of_lt h2 ht, Nat.lt_of_le_of_lt h3 hu⟩, Nat.lt_of_lt_of_le ht l, Nat.lt_of_lt_of_le hu l⟩
theorem p188 : (2 : Nat) ^ 188 + 2 ^ 188 ≤ 2 ^ 190 := by decide
theorem add_fit {a b : Int × Int} (ca : Canon a) (cb : Canon b) (sa : Sm 94 a) (sb : Sm 94 b) : IsLow (a.1 * b.2 + b.1 * a.2) (a.2 * b.2) (fAdd a b) ∧ Sm 190 (fAdd a b) ∧ Sm 4000 (a.1 * b.2 + b.1 * a.2, a.2 * b.2) := by
  have m1 := mul188 sa.1 sb.2
  have m2 := mul188 sb.1 sa.2
  have m3 := mul188 sa.2 sb.2
  have := p188
  exact low_fit (Int.mul_ne_zero (canon_ne ca) (canon_ne cb)) (by omega) (by omega)
theorem sub_fit {a b : Int × Int} (ca : Canon a) (cb : Canon b) (sa : Sm 94 a) (sb : Sm 94 b) : IsLow (a.1 * b.2 - b.1 * a.2) (a.2 * b.2) (fSub a b) ∧ Sm 190 (fSub a b) ∧ Sm 4000 (a.1 * b.2 - b.1 * a.2, a.2 * b.2) := by
  have m1 := mul188 sa.1 sb.2
  have m2 := mul188 sb.1 sa.2
  have m3 := mul188 sa.2 sb.2
  have := p188
  exact low_fit (Int.mul_ne_zero (canon_ne ca) (canon_ne cb)) (by omega) (by omega)
theorem mul_fit {a b : Int × Int} (ca : Canon a) (cb : Canon b) (sa : Sm 94 a) (sb : Sm 94 b) : IsLow (a.1 * b.1) (a.2 * b.2) (fMul a b) ∧ Sm 190 (fMul a b) ∧ Sm 4000 (a.1 * b.1, a.2 * b.2) := by
  have m1 := mul188 sa.1 sb.1
  have m3 := mul188 sa.2 sb.2
  have := p188
  exact low_fit (Int.mul_ne_zero (canon_ne ca) (canon_ne cb)) (by omega) (by omega)
theorem div_fit {a b : Int × Int} (ca : Canon a) (hb : b.1 ≠ 0) (sa : Sm 94 a) (sb : Sm 94 b) : IsLow (a.1 * b.2) (a.2 * b.1) (fDiv a b) ∧ Sm 190 (fDiv a b) ∧ Sm 4000 (a.1 * b.2, a.2 * b.1) := by
  have m1 := mul188 sa.1 sb.2
  have m3 := mul188 sa.2 sb.1
  have := p188
  exact low_fit (Int.mul_ne_zero (canon_ne ca) hb) (by omega) (by omega)
/-- a sum less what was added -/
theorem back_add {a b q : Int × Int} (ca : Canon a) (cb : Canon b) (h : IsLow (a.1 * b.2 + b.1 * a.2) (a.2 * b.2) q) : fSub q b = a := by
  have hu : q.2 * b.2 ≠ 0 := Int.mul_ne_zero (canon_ne h.1) (canon_ne cb)
  refine IsLow.uniq hu (low_is hu).1 ⟨ca, ?_⟩
  have e := h.2
  generalize a.1 = a1 at *; generalize a.2 = a2 at *; generalize b.1 = b1 at *; generalize b.2 = b2 at *; generalize q.1 = q1 at *; generalize q.2 = q2 at *
  grind
theorem back_div {a b q : Int × Int} (ca : Canon a) (cb : Canon b) (h : IsLow (a.1 * b.2) (a.2 * b.1) q) : fMul q b = a := by
  have hu : q.2 * b.2 ≠ 0 := Int.mul_ne_zero (canon_ne h.1) (canon_ne cb)
  refine IsLow.uniq hu (low_is hu).1 ⟨ca, ?_⟩
  have e := h.2
  generalize a.1 = a1 at *; generalize a.2 = a2 at *; generalize b.1 = b1 at *; generalize b.2 = b2 at *; generalize q.1 = q1 at *; generalize q.2 = q2 at *
  grind
section
variable {P : Program} {w : World} {K : PySem.W.Frag} {mg : Str → Option Value} {base : Heap} {A : Ads}
theorem neg_low {t u : Int} {q : Int × Int} (h : IsLow t u q) : IsLow (t * -1) (-u) q := by
  refine ⟨h.1, ?_⟩
  rw [Int.mul_neg, Int.mul_neg_one, Int.neg_mul, h.2]
theorem neg_sm {t u : Int} (h : Sm 4000 (t, u)) : Sm 4000 (t * -1, -u) := by
  refine ⟨?_, ?_⟩
  · show (t * -1).natAbs < _
    rw [Int.mul_neg_one, Int.natAbs_neg]
    exact h.1
  · show (-u).natAbs < _
    rw [Int.natAbs_neg]
    exact h.2
theorem sgn_eq (a : Int) : ((if 0 < a then 1 else 0) - (if a < 0 then 1 else 0) : Int) = sgn a := by
  unfold sgn
  by_cases h1 : 0 < a
  · rw [if_pos h1, if_pos h1, if_neg (by omega)]; rfl
  · by_cases h2 : a < 0
    · rw [if_neg h1, if_neg h1, if_pos h2, if_pos h2]; rfl
    · rw [if_neg h1, if_neg h1, if_neg h2, if_neg h2]; rfl
theorem sgn_log (a : Int) : (sgn a).natAbs.log2 < 1920 := by
  unfold sgn
  split
  · decide
  · split <;> decide
theorem eqv_self (ns : List Int) : PyData.eqv (.tuple (ns.map PyData.int)) (.tuple (ns.map PyData.int)) = true := by
  rw [PyData.eqv, eqv_ints]
  simp
theorem dpp {H : Hp} {p : Addr} {a : Int × Int} (h : SqT K H p [.int a.1, .int a.2]) : Dp K H (.ref p) (.tuple ([a.1, a.2].map PyData.int)) := dp_intsT (ns := [a.1, a.2]) h
def spSums : Sp := fun vs H Q _ => ∃ (u : Addr) (k : Nat), vs = [.ref u] ∧ Urn H u (k + 21) ∧ ∀ H', But u H H' → Urn H' u k → Q (.bl true) H'
theorem ok__law_sums_right (T : Txt K mg A) : FnOk P w K mg base CX0 8 A.f__law_sums_right A.d__law_sums_right ["urn"] spSums := by
  refine T._law_sums_right.F.ok sc__law_sums_right (fun vs H Q E h => ?_) (fun cdv A' outer s H vs Q E hr h => ?_)
  · obtain ⟨_, _, rfl, _⟩ := h; rfl
  · obtain ⟨u, k, rfl, hu, q⟩ := h
    refine ⟨_, (pss_cons (ps_par (i := 1) (j := 2) rfl sc__law_sums_right.nd rfl rfl (by decide) rfl rfl (pa_cons (pe_call (ok__law_drawn T) (hr.mono (by decide)) (by rfl) T._law_drawn.g T._law_drawn.F.kp T._law_drawn.b .nil pass0 (pa_cons (pv 0) pa_nil)) (pa_cons (pe_call (ok__law_drawn T) (hr.mono (by decide)) (by rfl) T._law_drawn.g T._law_drawn.F.kp T._law_drawn.b .nil pass0 (pa_cons (pv 0) pa_nil)) pa_nil)) rfl)
      (pss_cons (ps_if (pt_cmpR op_eq (pe_call (ok__law_spill T) (hr.mono (by decide)) (by rfl) T._law_spill.g T._law_spill.F.kp T._law_spill.b .nil pass0 (pa_cons (pv 0) (pa_cons pe_int pa_nil))) pe_int (nomark _)) (pss_one (ps_set (i := 2) sc__law_sums_right.nd rfl (.inl rfl) (pv 1))) pss_nil)
      (pss_cons (ps_par (i := 3) (j := 4) rfl sc__law_sums_right.nd rfl rfl (by decide) rfl rfl (pa_cons (pe_call (ok__law_passed T) (hr.mono (by decide)) (by rfl) T._law_passed.g T._law_passed.F.kp T._law_passed.b .nil pass0 (pa_cons (pv 0) (pa_cons (pv 1) pa_nil))) (pa_cons (pe_call (ok__law_passed T) (hr.mono (by decide)) (by rfl) T._law_passed.g T._law_passed.F.kp T._law_passed.b .nil pass0 (pa_cons (pv 0) (pa_cons (pv 2) pa_nil))) pa_nil)) rfl)
      (pss_cons (ps_set (i := 5) sc__law_sums_right.nd rfl (.inl rfl) (pe_op op_mulW (pe_ix ix_tup (pv 1) pe_int (fun _ _ => rfl)) (pe_ix ix_tup (pv 2) pe_int (fun _ _ => rfl))))
      (pss_cons (ps_if (PW.pt (pw_or (pt_not (pt_val (pe_call (ok__law_is_pair T) (hr.mono (by decide)) (by rfl) T._law_is_pair.g T._law_is_pair.F.kp T._law_is_pair.b .nil pass0 (pa_cons (pe_callN0 (ok_plus T) (hr.mono (by decide)) (by rfl) T.plus.g T.plus.F.kp (kb_plus T) passL (pk_cons (pv 3) (pk_cons (pv 4) pk_nil))) (pa_cons (pe_op op_add (pe_op op_mulW (pe_ix ix_tup (pv 1) pe_int (fun _ _ => rfl)) (pe_ix ix_tup (pv 2) pe_int (fun _ _ => rfl))) (pe_op op_mulW (pe_ix ix_tup (pv 2) pe_int (fun _ _ => rfl)) (pe_ix ix_tup (pv 1) pe_int (fun _ _ => rfl)))) (pa_cons (pv 5) pa_nil)))))) (pw_or1 (pt_not (pt_val (pe_call (ok__law_is_pair T) (hr.mono (by decide)) (by rfl) T._law_is_pair.g T._law_is_pair.F.kp T._law_is_pair.b .nil pass0 (pa_cons (pe_callN0 (ok_minus T) (hr.mono (by decide)) (by rfl) T.minus.g T.minus.F.kp (kb_minus T) passL (pk_cons (pv 3) (pk_cons (pv 4) pk_nil))) (pa_cons (pe_op op_sub (pe_op op_mulW (pe_ix ix_tup (pv 1) pe_int (fun _ _ => rfl)) (pe_ix ix_tup (pv 2) pe_int (fun _ _ => rfl))) (pe_op op_mulW (pe_ix ix_tup (pv 2) pe_int (fun _ _ => rfl)) (pe_ix ix_tup (pv 1) pe_int (fun _ _ => rfl)))) (pa_cons (pv 5) pa_nil))))))))) (pss_one (ps_ret pe_bl)) pss_nil)
      (pss_cons (ps_if (PW.pt (pw_or (pt_not (pt_val (pe_call (ok__law_is_pair T) (hr.mono (by decide)) (by rfl) T._law_is_pair.g T._law_is_pair.F.kp T._law_is_pair.b .nil pass0 (pa_cons (pe_callN0 (ok_times T) (hr.mono (by decide)) (by rfl) T.times.g T.times.F.kp (kb_times T) passL (pk_cons (pv 3) (pk_cons (pv 4) pk_nil))) (pa_cons (pe_op op_mulW (pe_ix ix_tup (pv 1) pe_int (fun _ _ => rfl)) (pe_ix ix_tup (pv 2) pe_int (fun _ _ => rfl))) (pa_cons (pv 5) pa_nil)))))) (pw_or1 (pt_cmpR (op_neD hr.units) (pe_call (ok_minus T) (hr.mono (by decide)) (by rfl) T.minus.g T.minus.F.kp T.minus.b .nil passL (pa_cons (pe_call (ok_plus T) (hr.mono (by decide)) (by rfl) T.plus.g T.plus.F.kp T.plus.b .nil passL (pa_cons (pv 3) (pa_cons (pv 4) pa_nil))) (pa_cons (pv 4) pa_nil))) (pv 1) (nomark _))))) (pss_one (ps_ret pe_bl)) pss_nil)
      (pss_cons (ps_if (PW.pt (pw_or (pt_cmpR op_ne (pe_callB call_reprB (by rfl) T.n_repr bt_repr (pa_cons (pe_callN0 (ok_is_less T) (hr.mono (by decide)) (by rfl) T.is_less.g T.is_less.F.kp (kb_is_less T) passL (pk_cons (pv 3) (pk_cons (pv 4) pk_nil))) pa_nil)) (pe_callB call_reprB (by rfl) T.n_repr bt_repr (pa_cons (pe_cmpR op_lt (pe_op op_mulW (pe_ix ix_tup (pv 1) pe_int (fun _ _ => rfl)) (pe_ix ix_tup (pv 2) pe_int (fun _ _ => rfl))) (pe_op op_mulW (pe_ix ix_tup (pv 2) pe_int (fun _ _ => rfl)) (pe_ix ix_tup (pv 1) pe_int (fun _ _ => rfl))) (nomark _)) pa_nil)) (nomark _)) (pw_or1 (pt_cmpR op_ne (pe_callB call_reprI (by rfl) T.n_repr bt_repr (pa_cons (pe_callN0 (ok_sign_of T) (hr.mono (by decide)) (by rfl) T.sign_of.g T.sign_of.F.kp (kb_sign_of T) passL (pk_cons (pv 3) pk_nil)) pa_nil)) (pe_callB call_reprI (by rfl) T.n_repr bt_repr (pa_cons (pe_op op_sub (pe_callTy call_int1 (by rfl) T.n_int bt_int (pa_cons (pe_cmpR op_gt (pe_ix ix_tup (pv 1) pe_int (fun _ _ => rfl)) pe_int (nomark _)) pa_nil)) (pe_callTy call_int1 (by rfl) T.n_int bt_int (pa_cons (pe_cmpR op_lt (pe_ix ix_tup (pv 1) pe_int (fun _ _ => rfl)) pe_int (nomark _)) pa_nil))) pa_nil)) (nomark _))))) (pss_one (ps_ret pe_bl)) pss_nil)
      (pss_cons (ps_if (pt_cmpR op_eq (pe_ix ix_tup (pv 2) pe_int (fun _ _ => rfl)) pe_int (nomark _)) (pss_one (ps_ret (pe_cmpR op_eq (pe_call (ok__law_part T) (hr.mono (by decide)) (by rfl) T._law_part.g T._law_part.F.kp T._law_part.b .nil pass0 (pa_cons pe_int (pa_cons (pv 3) (pa_cons (pv 4) pa_nil)))) pe_str (nomark _)))) pss_nil)
      (pss_cons (ps_set (i := 6) sc__law_sums_right.nd rfl (.inl rfl) (pe_callN0 (ok_over T) (hr.mono (by decide)) (by rfl) T.over.g T.over.F.kp (kb_over T) passL (pk_cons (pv 3) (pk_cons (pv 4) pk_nil))))
      (pss_one (ps_ret (pe_and (pe_call (ok__law_is_pair T) (hr.mono (by decide)) (by rfl) T._law_is_pair.g T._law_is_pair.F.kp T._law_is_pair.b .nil pass0 (pa_cons (pv 6) (pa_cons (pe_op op_mul (pe_op op_mulW (pe_ix ix_tup (pv 1) pe_int (fun _ _ => rfl)) (pe_ix ix_tup (pv 2) pe_int (fun _ _ => rfl))) (pe_ifExp (pt_cmpR op_gt (pe_ix ix_tup (pv 2) pe_int (fun _ _ => rfl)) pe_int (nomark _)) pe_int (pe_un un_neg pe_int))) (pa_cons (pe_op op_mulW (pe_ix ix_tup (pv 1) pe_int (fun _ _ => rfl)) (pe_callB call_abs (by rfl) T.n_abs bt_abs (pa_cons (pe_ix ix_tup (pv 2) pe_int (fun _ _ => rfl)) pa_nil))) pa_nil)))) (pe_one (pe_cmpR (op_eqD hr.units) (pe_call (ok_times T) (hr.mono (by decide)) (by rfl) T.times.g T.times.F.kp T.times.b .nil passL (pa_cons (pv 6) (pa_cons (pv 4) pa_nil))) (pv 1) (nomark _))))))))))))))), ?_⟩
    refine seq_by fun N hN => ?_
    walk_at "vc"
    refine ⟨u, k + 13, rfl, hu, fun H1 pa a b1 u1 ha ca sa => ?_⟩
    walk_at "vc"
    refine ⟨u, k + 5, rfl, u1, fun H2 pb b b2 u2 hb cb sb => ?_⟩
    walk_at "vc"
    subst hN
    refine seq_by fun N hN => ?_
    walk_at "vc"
    obtain ⟨c1, y1, e1⟩ := u1.at
    obtain ⟨c2, y2, e2⟩ := u2.at
    have ta2 : SqT K H2 pa [.int a.1, .int a.2] := b2.tup e1 (st_of ha)
    have tb2 : SqT K H2 pb [.int b.1, .int b.2] := st_of hb
    -- from here on: b may be a
    have rest : ∀ (pb : Addr) (b : Int × Int) H3, But u H2 H3 → Urn H3 u (k + 4) → SqT K H3 pa [.int a.1, .int a.2] → SqT K H3 pb [.int b.1, .int b.2] → Canon b → Sm 94 b →
        N [some (.ref u), some (.ref pa), some (.ref pb), none, none, none, none] H3 := by
      intro pb b H3 b3 u3 ta tb cb sb
      subst hN
      refine seq_by fun N hN => ?_
      walk_at "vc"
      refine ⟨u, _, a, k + 2, rfl, ⟨pa, rfl, ta⟩, ca, u3, fun H4 v1 b4 u4 n1 => ?_⟩
      walk_at "vc"
      obtain ⟨c3, y3, e3⟩ := u3.at
      refine ⟨u, _, b, k, rfl, ⟨pb, rfl, b4.tup e3 tb⟩, cb, u4, fun H5 v2 b5 u5 n2 => ?_⟩
      walk_at "vc"
      obtain ⟨c4, y4, e4⟩ := u4.at
      have b25 := (b3.trans b4).trans b5
      have ta5 : SqT K H5 pa [.int a.1, .int a.2] := b5.tup e4 (b4.tup e3 ta)
      have tb5 : SqT K H5 pb [.int b.1, .int b.2] := b5.tup e4 (b4.tup e3 tb)
      have n15 : Num K H5 v1 a := n1.but b5 e4
      subst hN
      refine seq_by fun N hN => ?_
      walk_at "vc"
      have s4a := Sm.up (m := 4000) (by decide) sa
      have s4b := Sm.up (m := 4000) (by decide) sb
      refine ixT ta5 rfl (ixT tb5 rfl ⟨_, rfl, _, rfl, mul4 s4a.2 s4b.2, ?_⟩)
      subst hN
      refine seq_by fun N hN => ?_
      obtain ⟨f1, f2, f3⟩ := add_fit ca cb sa sb
      obtain ⟨g1, g2, g3⟩ := sub_fit ca cb sa sb
      walk_at "vc"
      refine ⟨v1, v2, rfl, .inl ⟨a, b, n15, n2, s4a, s4b, fun H6 p6 s6 t6 => ?_⟩⟩
      have ta6 := same_tup s6 ta5
      have tb6 := same_tup s6 tb5
      walk_at "vc"
      refine ixT ta6 rfl (ixT tb6 rfl ⟨_, rfl, _, rfl, mul4 s4a.1 s4b.2, ixT tb6 rfl (ixT ta6 rfl ⟨_, rfl, _, rfl, mul4 s4b.1 s4a.2, ?_⟩)⟩)
      refine ⟨_, _, _, fAdd a b, rfl, ⟨p6, rfl, t6⟩, f1, f2, f3, fun H7 s7 => ⟨_, rfl, iteF' rfl ?_⟩⟩
      have s57 := s6.trans s7
      refine ⟨v1, v2, rfl, .inl ⟨a, b, n15.same s57, n2.same s57, s4a, s4b, fun H8 p8 s8 t8 => ?_⟩⟩
      have s58 := s57.trans s8
      have ta8 := same_tup s58 ta5
      have tb8 := same_tup s58 tb5
      walk_at "vc"
      refine ixT ta8 rfl (ixT tb8 rfl ⟨_, rfl, _, rfl, mul4 s4a.1 s4b.2, ixT tb8 rfl (ixT ta8 rfl ⟨_, rfl, _, rfl, mul4 s4b.1 s4a.2, ?_⟩)⟩)
      refine ⟨_, _, _, fSub a b, rfl, ⟨p8, rfl, t8⟩, g1, g2, g3, fun H9 s9 => ⟨_, rfl, iteF' rfl ?_⟩⟩
      have s59 := s58.trans s9
      clear s58 s57 s9 s8 s7 s6 t6 t8 ta6 tb6 ta8 tb8
      subst hN
      -- the product; the sum less what was added
      refine seq_by fun N hN => ?_
      obtain ⟨m1, m2, m3⟩ := mul_fit ca cb sa sb
      walk_at "vc"
      refine ⟨v1, v2, rfl, .inl ⟨a, b, n15.same s59, n2.same s59, s4a, s4b, fun H10 p10 s10 t10 => ?_⟩⟩
      have sa0 := s59.trans s10
      walk_at "vc"
      refine ixT (same_tup sa0 ta5) rfl (ixT (same_tup sa0 tb5) rfl ⟨_, rfl, _, rfl, mul4 s4a.1 s4b.1, ?_⟩)
      refine ⟨_, _, _, fMul a b, rfl, ⟨p10, rfl, t10⟩, m1, m2, m3, fun H11 s11 => ⟨_, rfl, iteF' rfl ?_⟩⟩
      have sa1 := sa0.trans s11
      refine ⟨v1, v2, rfl, .inl ⟨a, b, n15.same sa1, n2.same sa1, s4a, s4b, fun H12 p12 s12 t12 => ?_⟩⟩
      have sa2 := sa1.trans s12
      refine ⟨_, v2, rfl, .inl ⟨fAdd a b, b, .sq (.inr t12) f1.1, n2.same sa2, f2.up (by decide), s4b, fun H13 p13 s13 t13 => ?_⟩⟩
      have sa3 := sa2.trans s13
      rw [back_add ca cb f1] at t13
      refine ⟨_, _, dpp t13, dpp (same_tup sa3 ta5), sh_intsT _, sh_intsT _, _, rfl, ?_⟩
      rw [eqv_self]
      refine iteF ?_
      clear sa0 sa1 sa2 s59 s10 s11 s12 s13 t10 t12 t13
      subst hN
      -- order and signs
      refine seq_by fun N hN => ?_
      walk_at "vc"
      refine ⟨v1, v2, rfl, .inl ⟨a, b, n15.same sa3, n2.same sa3, s4a, s4b, fun H14 s14 => ⟨_, rfl, ?_⟩⟩⟩
      have sa4 := sa3.trans s14
      have ta4 := same_tup sa4 ta5
      have tb4 := same_tup sa4 tb5
      refine ixT ta4 rfl (ixT tb4 rfl ⟨_, rfl, _, rfl, mul4 s4a.1 s4b.2, ixT tb4 rfl (ixT ta4 rfl ⟨_, rfl, _, rfl, mul4 s4b.1 s4a.2, rfl, ?_⟩)⟩)
      rw [if_neg (fun z => z (by simp only [decide_eq_true_eq]))]
      refine ⟨v1, rfl, .inl ⟨a, n15.same sa4, fun H15 s15 => ⟨_, rfl, sgn_log _, ?_⟩⟩⟩
      have sa5 := sa4.trans s15
      have ta5' := same_tup sa5 ta5
      have tb5' := same_tup sa5 tb5
      refine ixT ta5' rfl ⟨_, rfl, ixT ta5' rfl ⟨_, rfl, ?_⟩⟩
      rw [sgn_eq]
      refine ⟨sgn_log _, rfl, ?_⟩
      rw [if_neg (fun z => z rfl)]
      clear sa3 sa4 s14 s15 ta4 tb4
      subst hN
      refine seq_by fun N hN => ?_
      walk_at "vc"
      refine ixT tb5' rfl ⟨rfl, ?_⟩
      have fin : ∀ H', Same H15 H' → Q (.bl true) H' := fun H' s' => by
        have sE := sa5.trans s'
        exact q H' (((b1.trans b2).trans b25).trans (same_but sE)) (u5.same sE)
      split
      · rename_i hz
        have hz : b.1 = 0 := V.int.inj hz
        refine part_zero (n15.same sa5) (n2.same sa5) s4a s4b hz fun H' s' => ⟨rfl, ?_⟩
        rw [decide_eq_true rfl]
        exact fin H' s'
      · rename_i hz
        have hz : b.1 ≠ 0 := fun z => hz (congrArg V.int z)
        obtain ⟨d1, d2, d3⟩ := div_fit ca hz sa sb
        subst hN
        refine seq_by fun N hN => ?_
        walk_at "vc"
        refine ⟨v1, v2, rfl, .inl ⟨a, b, n15.same sa5, n2.same sa5, s4a, s4b, .inl ⟨hz, fun H16 p16 s16 t16 => ?_⟩⟩⟩
        have sa6 := sa5.trans s16
        have ta6 := same_tup sa6 ta5
        have tb6 := same_tup sa6 tb5
        subst hN
        walk_at "vc"
        have fin2 : ∀ H17, Same H16 H17 → spBin K A.c_BadNumber (rOf K fMul) [.ref p16, v2] H17 (fun x H1 => rEqD K x (.ref pa) H1 Q) E0 := fun H17 s17 => by
          have sa7 := sa6.trans s17
          refine ⟨_, v2, rfl, .inl ⟨fDiv a b, b, .sq (.inr (same_tup s17 t16)) d1.1, n2.same sa7, d2.up (by decide), s4b, fun H18 p18 s18 t18 => ?_⟩⟩
          rw [back_div ca cb d1] at t18
          refine ⟨_, _, dpp t18, dpp (same_tup (sa7.trans s18) ta5), sh_intsT _, sh_intsT _, ?_⟩
          rw [eqv_self]
          exact fin _ ((s16.trans s17).trans s18)
        refine ixT ta6 rfl (ixT tb6 rfl ⟨_, rfl, _, rfl, mul4 s4a.1 s4b.2, ixT tb6 rfl ⟨_, rfl, ?_⟩⟩)
        split
        · rename_i hp
          refine ⟨.inr (by decide), ixT ta6 rfl (ixT tb6 rfl ⟨_, rfl, _, rfl, ?_⟩)⟩
          rw [if_neg (show ¬ b.1 < 0 by omega), Int.mul_one]
          refine ⟨mul4 s4a.2 s4b.1, _, _, _, fDiv a b, rfl, ⟨p16, rfl, t16⟩, d1, d2, d3, fun H17 s17 => ⟨_, rfl, ?_⟩⟩
          refine iteT ?_
          exact fin2 H17 s17
        · rename_i hp
          refine ⟨.inr (by decide), ixT ta6 rfl (ixT tb6 rfl ⟨_, rfl, _, rfl, ?_⟩)⟩
          rw [if_pos (show b.1 < 0 by omega), Int.mul_neg a.2]
          refine ⟨by have := mul4 (i := a.2) (j := -b.1) s4a.2 (by rw [Int.natAbs_neg]; exact s4b.1); exact this, _, _, _, fDiv a b, rfl, ⟨p16, rfl, t16⟩, neg_low d1, d2, neg_sm d3, fun H17 s17 => ⟨_, rfl, ?_⟩⟩
          refine iteT ?_
          exact fin2 H17 s17
    refine ⟨u, _, k + 4, rfl, by decide, by decide, u2, fun H3 x b3 u3 x0 x1 => ⟨rfl, ?_⟩⟩
    have ta3 := b3.tup e2 ta2
    split
    · exact rest pa a H3 b3 u3 ta3 ta3 ca sa
    · exact rest pb b H3 b3 u3 ta3 (b3.tup e2 tb2) cb sb
end
end Odd
namespace Odd
open PySem PySem.Spec PyProof.Rows L2
local macro_rules | `(tactic| walk_at "vc") => `(tactic| simp only [tSeq, tAsg, gName, tCB, tCons, tNil, tVar, tC, tOp, tUn, rI0, rI, rU, tTup, tLst, tIfS, tTest, tB, tRet, tNext, rGcd, L2.start, List.map, List.set, List.replicate, List.cons_append, List.nil_append, List.length_cons, List.length_nil, List.getElem?_cons_succ, List.getElem?_cons_zero, Option.some.injEq, exists_eq_left', exists_eq_left, List.append_nil, List.cons.injEq, V.int.injEq, exists_and_left, and_true, true_and, and_assoc, exists_const, V.bl.injEq, V.ref.injEq, Nat.sub_self, Nat.reduceAdd, Nat.reduceSub, List.replicate_succ, List.replicate_zero, tAnd, tOr, tNot, tAndV, tOrV, tNotV, tIf, tCall, tCallK, tDrop, rEq, rNe, decide_eq_true_eq, Bool.not_eq_true', decide_eq_false_iff_not, Bool.false_eq_true, if_true, if_false, reduceIte, reduceCtorEq, tMkLow, tRaiseLow, rIsB, rNotB, tBreak, tPar, gSub, rSetL, tChain, gTup, gCons, gNil, gSeq, cx_K, cx_Kn, optV, V.str.injEq, Bool.not_true, Bool.not_false, false_and, and_false, or_false, false_or, exists_false, tCallN, tCallS, tPairs])
/-- what stays bad, whatever becomes of the urn -/
def BadU (K : PySem.W.Frag) (u : Addr) (H : Hp) (v : V) : Prop := ∀ H', But u H H' → Bad K H' v ∧ ∃ U, TyN K H' v U ∧ U ≠ "int"
theorem BadU.but {K : PySem.W.Frag} {u : Addr} {H H' : Hp} {v : V} (h : BadU K u H v) (b : But u H H') : BadU K u H' v := fun H2 b2 => h H2 (b.trans b2)
theorem low_one (t : Int) : low t 1 = (t, 1) := IsLow.uniq (by decide) (low_is (by decide)).1 ⟨⟨(by show (1 : Int) ≤ 1; decide), Nat.gcd_one_right _⟩, by show t * 1 = t * 1; rfl⟩
theorem low_abs {t d : Int} (h : d ≠ 0) : (0 < d → IsLow t (if d < 0 then -d else d) (low t d)) ∧ (¬ 0 < d → IsLow (-t) (if d < 0 then -d else d) (low t d)) := by
  have h1 := (low_is (t := t) h).1
  refine ⟨fun z => ?_, fun z => ?_⟩
  · rw [if_neg (by omega)]
    exact h1
  · rw [if_pos (by omega)]
    refine ⟨h1.1, ?_⟩
    rw [Int.mul_neg, Int.neg_mul, h1.2]
theorem isnum_pair {K : PySem.W.Frag} {H : Hp} {p : Addr} {a b : Int} {E : XK} (h : Sq K H p [.int a, .int b]) : ∃ bb : Bool, (bb = true ↔ Canon (a, b)) ∧ ∀ Q, RetV H (.bl bb) Q → spIsNumber K [.ref p] H Q E := by
  by_cases hc : Canon (a, b)
  · exact ⟨true, ⟨fun _ => hc, fun _ => rfl⟩, fun Q q => ⟨_, rfl, .inl ⟨_, .sq h hc, q⟩⟩⟩
  · exact ⟨false, ⟨fun z => Bool.noConfusion z, fun z => absurd z hc⟩, fun Q q => ⟨_, rfl, .inr ⟨.low h hc, q⟩⟩⟩
theorem isnum_bad {K : PySem.W.Frag} {H : Hp} {v : V} {E : XK} {Q : VK} (h : Bad K H v) (q : RetV H (.bl false) Q) : spIsNumber K [v] H Q E := ⟨_, rfl, .inr ⟨h, q⟩⟩
theorem twice_not (a b : Int) : ¬ Canon (2 * a, 2 * b) := by
  intro h
  have e : Nat.gcd (2 * a).natAbs (2 * b).natAbs = 1 := h.2
  rw [Int.natAbs_mul, Int.natAbs_mul, show (2 : Int).natAbs = 2 from rfl, Nat.gcd_mul_left] at e
  omega
theorem zero_not (a : Int) : ¬ Canon (a, 0) := by
  intro h
  have e : (1 : Int) ≤ 0 := h.1
  omega
section
variable {P : Program} {w : World} {K : PySem.W.Frag} {mg : Str → Option Value} {base : Heap} {A : Ads}
def spMade : Sp := fun vs H Q _ => ∃ (u : Addr) (k : Nat), vs = [.ref u] ∧ Urn H u (k + 20) ∧ ∀ H', But u H H' → Urn H' u k → Q (.bl true) H'
theorem ok__law_made_right (T : Txt K mg A) : FnOk P w K mg base CX0 8 A.f__law_made_right A.d__law_made_right ["urn"] spMade := by
  refine T._law_made_right.F.ok sc__law_made_right (fun vs H Q E h => ?_) (fun cdv A' outer s H vs Q E hr h => ?_)
  · obtain ⟨_, _, rfl, _⟩ := h; rfl
  · obtain ⟨u, k, rfl, hu, q⟩ := h
    obtain ⟨i2, kb2⟩ := nk2 T
    obtain ⟨i1, kb1⟩ := nk1 T
    refine ⟨_, (pss_cons (ps_par (i := 1) (j := 2) rfl sc__law_made_right.nd rfl rfl (by decide) rfl rfl (pa_cons (pe_op op_mul (pe_call (ok__law_size T) (hr.mono (by decide)) (by rfl) T._law_size.g T._law_size.F.kp T._law_size.b .nil pass0 (pa_cons (pv 0) pa_nil)) (pe_op op_sub pe_int (pe_op op_mul pe_int (pe_call (ok__law_spill T) (hr.mono (by decide)) (by rfl) T._law_spill.g T._law_spill.F.kp T._law_spill.b .nil pass0 (pa_cons (pv 0) (pa_cons pe_int pa_nil)))))) (pa_cons (pe_op op_mul (pe_op op_add (pe_call (ok__law_size T) (hr.mono (by decide)) (by rfl) T._law_size.g T._law_size.F.kp T._law_size.b .nil pass0 (pa_cons (pv 0) pa_nil)) pe_int) (pe_op op_sub pe_int (pe_op op_mul pe_int (pe_call (ok__law_spill T) (hr.mono (by decide)) (by rfl) T._law_spill.g T._law_spill.F.kp T._law_spill.b .nil pass0 (pa_cons (pv 0) (pa_cons pe_int pa_nil)))))) pa_nil)) rfl)
      (pss_cons (ps_set (i := 3) sc__law_made_right.nd rfl (.inl rfl) (pe_callN0 (ok_number T) (hr.mono (by decide)) (by rfl) T.number.g T.number.F.kp kb2 passL (pk_cons (pv 1) (pk_cons (pv 2) pk_nil))))
      (pss_cons (ps_if (PW.pt (pw_or (pt_not (pt_val (pe_call (ok__law_is_pair T) (hr.mono (by decide)) (by rfl) T._law_is_pair.g T._law_is_pair.F.kp T._law_is_pair.b .nil pass0 (pa_cons (pv 3) (pa_cons (pe_ifExp (pt_cmpR op_gt (pv 2) pe_int (nomark _)) (pv 1) (pe_un un_neg (pv 1))) (pa_cons (pe_callB call_abs (by rfl) T.n_abs bt_abs (pa_cons (pv 2) pa_nil)) pa_nil)))))) (pw_or (pt_cmpR (op_neD hr.units) (pe_callN0 (ok_number T) (hr.mono (by decide)) (by rfl) T.number.g T.number.F.kp kb1 passL (pk_cons (pv 1) pk_nil)) (pe_tup (pa_cons (pv 1) (pa_cons pe_int pa_nil))) (nomark _)) (pw_or1 (pt_cmpR op_notBl (pe_callN0 (ok_is_number T) (hr.mono (by decide)) (by rfl) T.is_number.g T.is_number.F.kp (kb_is_number T) pass0 (pk_cons (pv 3) pk_nil)) pe_bl (nomark _)))))) (pss_one (ps_ret pe_bl)) pss_nil)
      (pss_cons (ps_if (PW.pt (pw_or (pt_cmpR op_ne (pe_callB call_reprB (by rfl) T.n_repr bt_repr (pa_cons (pe_call (ok_is_number T) (hr.mono (by decide)) (by rfl) T.is_number.g T.is_number.F.kp T.is_number.b .nil pass0 (pa_cons (pe_tup (pa_cons (pv 1) (pa_cons (pv 2) pa_nil))) pa_nil)) pa_nil)) (pe_callB call_reprB (by rfl) T.n_repr bt_repr (pa_cons (pe_and (pe_cmpR op_gt (pv 2) pe_int (nomark _)) (pe_one (pe_cmpR op_eq (pe_call (ok__law_shared T) (hr.mono (by decide)) (by rfl) T._law_shared.g T._law_shared.F.kp T._law_shared.b .nil pass0 (pa_cons (pv 1) (pa_cons (pv 2) pa_nil))) pe_int (nomark _)))) pa_nil)) (nomark _)) (pw_or (pt_cmpR op_notBl (pe_call (ok_is_number T) (hr.mono (by decide)) (by rfl) T.is_number.g T.is_number.F.kp T.is_number.b .nil pass0 (pa_cons (pe_lst (pa_cons (pe_op op_mul pe_int (pv 1)) (pa_cons (pe_op op_mul pe_int (pv 2)) pa_nil))) pa_nil)) pe_bl (nomark _)) (pw_or1 (pt_cmpR op_notBl (pe_call (ok_is_number T) (hr.mono (by decide)) (by rfl) T.is_number.g T.is_number.F.kp T.is_number.b .nil pass0 (pa_cons (pe_tup (pa_cons (pv 1) (pa_cons pe_int pa_nil))) pa_nil)) pe_bl (nomark _)))))) (pss_one (ps_ret pe_bl)) pss_nil)
      (pss_cons (ps_set (i := 4) sc__law_made_right.nd rfl (.inl rfl) (pe_call (ok__law_one_of T) (hr.mono (by decide)) (by rfl) T._law_one_of.g T._law_one_of.F.kp T._law_one_of.b .nil pass0 (pa_cons (pv 0) (pa_cons (pe_lst (pa_cons pe_non (pa_cons pe_bl (pa_cons pe_str (pa_cons (pe_tup (pa_cons pe_int (pa_cons pe_int pa_nil))) (pa_cons (pe_tup (pa_cons pe_int (pa_cons pe_int pa_nil))) (pa_cons (pe_tup (pa_cons pe_int (pa_cons (pe_un un_neg pe_int) pa_nil))) (pa_cons (pe_tup (pa_cons pe_int (pa_cons pe_int (pa_cons pe_int pa_nil)))) (pa_cons (pe_lst (pa_cons pe_int pa_nil)) (pa_cons (pe_tup pa_nil) (pa_cons (pe_tup (pa_cons pe_int (pa_cons pe_bl pa_nil))) (pa_cons (pe_tup (pa_cons (pe_tup (pa_cons pe_int (pa_cons pe_int pa_nil))) (pa_cons pe_int pa_nil))) (pa_cons (pe_disp (pps_cons pe_int pe_int pps_nil) rfl rfl (by simp) (by decide)) pa_nil))))))))))))) pa_nil))))
      (pss_cons (ps_set (i := 5) sc__law_made_right.nd rfl (.inl rfl) (pe_call (ok__law_passed T) (hr.mono (by decide)) (by rfl) T._law_passed.g T._law_passed.F.kp T._law_passed.b .nil pass0 (pa_cons (pv 0) (pa_cons (pe_call (ok__law_drawn T) (hr.mono (by decide)) (by rfl) T._law_drawn.g T._law_drawn.F.kp T._law_drawn.b .nil pass0 (pa_cons (pv 0) pa_nil)) pa_nil))))
      (pss_cons (ps_if (PW.pt (pw_or (pt_cmpR op_notBl (pe_call (ok_is_number T) (hr.mono (by decide)) (by rfl) T.is_number.g T.is_number.F.kp T.is_number.b .nil pass0 (pa_cons (pv 4) pa_nil)) pe_bl (nomark _)) (pw_or (pt_cmpR op_notBl (pe_call (ok_is_integer T) (hr.mono (by decide)) (by rfl) T.is_integer.g T.is_integer.F.kp T.is_integer.b .nil pass0 (pa_cons (pv 4) pa_nil)) pe_bl (nomark _)) (pw_or (pt_cmpR op_notBl (pe_call (ok_is_number T) (hr.mono (by decide)) (by rfl) T.is_number.g T.is_number.F.kp T.is_number.b .nil pass0 (pa_cons (pv 5) pa_nil)) pe_bl (nomark _)) (pw_or1 (pt_cmpR op_ne (pe_callN0 (ok_is_integer T) (hr.mono (by decide)) (by rfl) T.is_integer.g T.is_integer.F.kp (kb_is_integer T) pass0 (pk_cons (pv 5) pk_nil)) (pe_not (pe_callB call_isiT (by rfl) T.n_isinstance bt_isinstance (pa_cons (pv 5) (pa_cons (pe_tup (pa_cons (pe_bltn (v := .ty "list") (by rfl) T.n_list bt_list rfl) (pa_cons (pe_bltn (v := .ty "tuple") (by rfl) T.n_tuple bt_tuple rfl) pa_nil))) pa_nil)))) (nomark _))))))) (pss_one (ps_ret pe_bl)) pss_nil)
      (pss_cons (ps_for PassesOwn.never rfl (pi_range1 rfl T.n_range (pa_cons pe_int pa_nil)) (pg_name (i := 6) sc__law_made_right.nd rfl (.inl rfl)) (pss_one (ps_if (PW.pt (pw_or (pt_cmpR op_ne (pe_call (ok__law_part T) (hr.mono (by decide)) (by rfl) T._law_part.g T._law_part.F.kp T._law_part.b .nil pass0 (pa_cons (pv 6) (pa_cons (pv 4) (pa_cons (pv 4) pa_nil)))) pe_str (nomark _)) (pw_or (pt_cmpR op_ne (pe_call (ok__law_part T) (hr.mono (by decide)) (by rfl) T._law_part.g T._law_part.F.kp T._law_part.b .nil pass0 (pa_cons (pv 6) (pa_cons (pv 4) (pa_cons pe_int pa_nil)))) pe_str (nomark _)) (pw_or1 (pt_cmpR op_ne (pe_call (ok__law_part T) (hr.mono (by decide)) (by rfl) T._law_part.g T._law_part.F.kp T._law_part.b .nil pass0 (pa_cons (pv 6) (pa_cons (pv 5) (pa_cons (pv 4) pa_nil)))) pe_str (nomark _)))))) (pss_one (ps_ret pe_bl)) pss_nil)))
      (pss_cons (ps_if (PW.pt (pw_or (pt_cmpR op_ne (pe_call (ok__law_part T) (hr.mono (by decide)) (by rfl) T._law_part.g T._law_part.F.kp T._law_part.b .nil pass0 (pa_cons pe_int (pa_cons (pv 5) (pa_cons pe_int pa_nil)))) pe_str (nomark _)) (pw_or (pt_cmpR op_ne (pe_call (ok__law_part T) (hr.mono (by decide)) (by rfl) T._law_part.g T._law_part.F.kp T._law_part.b .nil pass0 (pa_cons pe_int (pa_cons (pv 5) (pa_cons (pe_tup (pa_cons pe_int (pa_cons pe_int pa_nil))) pa_nil)))) pe_str (nomark _)) (pw_or (pt_cmpR op_ne (pe_call (ok__law_part T) (hr.mono (by decide)) (by rfl) T._law_part.g T._law_part.F.kp T._law_part.b .nil pass0 (pa_cons pe_int (pa_cons (pv 4) (pa_cons pe_int pa_nil)))) pe_str (nomark _)) (pw_or1 (pt_cmpR op_ne (pe_call (ok__law_part T) (hr.mono (by decide)) (by rfl) T._law_part.g T._law_part.F.kp T._law_part.b .nil pass0 (pa_cons pe_int (pa_cons (pv 4) (pa_cons pe_int pa_nil)))) pe_str (nomark _))))))) (pss_one (ps_ret pe_bl)) pss_nil)
      (pss_one (ps_ret (pe_and (pe_cmpR op_eq (pe_call (ok__law_part T) (hr.mono (by decide)) (by rfl) T._law_part.g T._law_part.F.kp T._law_part.b .nil pass0 (pa_cons pe_int (pa_cons (pe_tup (pa_cons pe_int (pa_cons pe_int pa_nil))) (pa_cons pe_int pa_nil)))) pe_str (nomark _)) (pe_and (pe_cmpR op_eq (pe_call (ok__law_part T) (hr.mono (by decide)) (by rfl) T._law_part.g T._law_part.F.kp T._law_part.b .nil pass0 (pa_cons pe_int (pa_cons (pv 1) (pa_cons pe_int pa_nil)))) pe_str (nomark _)) (pe_and (pe_cmpR op_eq (pe_call (ok__law_part T) (hr.mono (by decide)) (by rfl) T._law_part.g T._law_part.F.kp T._law_part.b .nil pass0 (pa_cons pe_int (pa_cons (pv 1) (pa_cons (pv 4) pa_nil)))) pe_str (nomark _)) (pe_one (pe_cmpR op_isN (pe_call (ok__law_part T) (hr.mono (by decide)) (by rfl) T._law_part.g T._law_part.F.kp T._law_part.b .nil pass0 (pa_cons pe_int (pa_cons (pv 1) (pa_cons (pv 2) pa_nil)))) pe_non (nomark _))))))))))))))))), ?_⟩
    refine seq_by fun N hN => ?_
    walk_at "vc"
    refine ⟨u, k + 17, rfl, hu, fun H1 m b1 u1 m0 m1 => ?_⟩
    walk_at "vc"
    refine ⟨u, _, k + 16, rfl, by decide, by decide, u1, fun H2 x b2 u2 x0 x1 => ?_⟩
    walk_at "vc"
    refine ⟨.inl (by decide), .inr ⟨by omega, by omega⟩, u, k + 13, rfl, u2, fun H3 n b3 u3 n0 n1 => ?_⟩
    walk_at "vc"
    refine ⟨u, _, k + 12, rfl, by decide, by decide, u3, fun H4 y b4 u4 y0 y1 => ?_⟩
    walk_at "vc"
    refine ⟨.inl (by decide), .inr ⟨by omega, by omega⟩, ?_⟩
    have b14 := ((b1.trans b2).trans b3).trans b4
    have ht : (m * (1 - 2 * x)).natAbs < 2 ^ 94 := by
      have : x = 0 ∨ x = 1 := by omega
      rcases this with rfl | rfl
      · rw [show (1 - 2 * 0 : Int) = 1 by decide, Int.mul_one]; omega
      · rw [show (1 - 2 * 1 : Int) = -1 by decide, Int.mul_neg_one]; omega
    have hn : ((n + 1) * (1 - 2 * y)).natAbs < 2 ^ 94 ∧ (n + 1) * (1 - 2 * y) ≠ 0 := by
      have : y = 0 ∨ y = 1 := by omega
      rcases this with rfl | rfl
      · rw [show (1 - 2 * 0 : Int) = 1 by decide, Int.mul_one]; omega
      · rw [show (1 - 2 * 1 : Int) = -1 by decide, Int.mul_neg_one]; omega
    generalize m * (1 - 2 * x) = t at *
    generalize (n + 1) * (1 - 2 * y) = d at *
    obtain ⟨hd, hd0⟩ := hn
    clear x0 x1 y0 y1 m0 m1 n0 n1 u1 u2 u3 b1 b2 b3 b4
    subst hN
    refine seq_by fun N hN => ?_
    walk_at "vc"
    have l8 : (2 : Nat) ^ 94 ≤ 2 ^ 8000 := pow_le (by decide)
    refine ⟨_, _, _, _, rfl, .int t, .int d, .inr (.inr (.inr ⟨t, d, rfl, rfl, hd0, Nat.lt_of_lt_of_le hd l8, fun H5 p5 s5 t5 => ?_⟩))⟩
    obtain ⟨lo1, lo2⟩ := low_abs (t := t) hd0
    have l4 : (2 : Nat) ^ 94 ≤ 2 ^ 4000 := pow_le (by decide)
    have lq := low_fit (t := t) hd0 (Nat.lt_of_lt_of_le ht (pow_le (by decide))) (Nat.lt_of_lt_of_le hd (pow_le (by decide)))
    have habs : (if d < 0 then -d else d).natAbs = d.natAbs := by split <;> omega
    have b45 : But u H H5 := b14.trans (same_but s5)
    have u5 : Urn H5 u (k + 12) := u4.same s5
    subst hN
    refine seq_by fun N hN => ?_
    have rest : ∀ H6, But u H H6 → Urn H6 u (k + 12) → N [some (.ref u), some (.int t), some (.int d), some (.ref p5), none, none, none] H6 := by
      clear u4 b14 s5 t5 b45 u5
      intro H6 b6 u6
      subst hN
      refine seq_by fun N hN => ?_
      have rest2 : ∀ H7, But u H H7 → Urn H7 u (k + 12) → N [some (.ref u), some (.int t), some (.int d), some (.ref p5), none, none, none] H7 := by
        clear b6 u6
        intro H7 b7 u7
        subst hN
        refine seq_by fun N hN => ?_
        walk_at "vc"
        obtain ⟨cu, yu, eu⟩ := u7.at
        refine ⟨by decide, fun q1 h1 => ?_⟩
        have n1 : q1 ≠ u := (ne_of_none eu h1).symm
        have s1 := same_upd (o := .tup [.int 2, .int 4]) h1
        have f1 : upd H7 q1 (.tup [.int 2, .int 4]) q1 = some (.tup [.int 2, .int 4]) := upd_same
        generalize upd H7 q1 (.tup [.int 2, .int 4]) = G1 at *
        have t1 : Same H7 G1 := s1
        refine ⟨by decide, fun q2 h2 => ?_⟩
        have n2 : q2 ≠ u := (ne_of_none (t1 _ _ eu) h2).symm
        have s2 := same_upd (o := .tup [.int 1, .int 0]) h2
        have f2 : upd G1 q2 (.tup [.int 1, .int 0]) q2 = some (.tup [.int 1, .int 0]) := upd_same
        generalize upd G1 q2 (.tup [.int 1, .int 0]) = G2 at *
        have t2 : Same H7 G2 := t1.trans s2
        refine ⟨by decide, fun q3 h3 => ?_⟩
        have n3 : q3 ≠ u := (ne_of_none (t2 _ _ eu) h3).symm
        have s3 := same_upd (o := .tup [.int 1, .int (-2)]) h3
        have f3 : upd G2 q3 (.tup [.int 1, .int (-2)]) q3 = some (.tup [.int 1, .int (-2)]) := upd_same
        generalize upd G2 q3 (.tup [.int 1, .int (-2)]) = G3 at *
        have t3 : Same H7 G3 := t2.trans s3
        refine ⟨by decide, fun q4 h4 => ?_⟩
        have n4 : q4 ≠ u := (ne_of_none (t3 _ _ eu) h4).symm
        have s4 := same_upd (o := .tup [.int 1, .int 2, .int 3]) h4
        have f4 : upd G3 q4 (.tup [.int 1, .int 2, .int 3]) q4 = some (.tup [.int 1, .int 2, .int 3]) := upd_same
        generalize upd G3 q4 (.tup [.int 1, .int 2, .int 3]) = G4 at *
        have t4 : Same H7 G4 := t3.trans s4
        refine ⟨by decide, fun q5 h5 => ?_⟩
        have n5 : q5 ≠ u := (ne_of_none (t4 _ _ eu) h5).symm
        have s5 := same_upd (o := .lst [.int 1]) h5
        have f5 : upd G4 q5 (.lst [.int 1]) q5 = some (.lst [.int 1]) := upd_same
        generalize upd G4 q5 (.lst [.int 1]) = G5 at *
        have t5 : Same H7 G5 := t4.trans s5
        refine ⟨by decide, fun q6 h6 => ?_⟩
        have n6 : q6 ≠ u := (ne_of_none (t5 _ _ eu) h6).symm
        have s6 := same_upd (o := .tup []) h6
        have f6 : upd G5 q6 (.tup []) q6 = some (.tup []) := upd_same
        generalize upd G5 q6 (.tup []) = G6 at *
        have t6 : Same H7 G6 := t5.trans s6
        refine ⟨by decide, fun q7 h7 => ?_⟩
        have n7 : q7 ≠ u := (ne_of_none (t6 _ _ eu) h7).symm
        have s7 := same_upd (o := .tup [.int 1, .bl true]) h7
        have f7 : upd G6 q7 (.tup [.int 1, .bl true]) q7 = some (.tup [.int 1, .bl true]) := upd_same
        generalize upd G6 q7 (.tup [.int 1, .bl true]) = G7 at *
        have t7 : Same H7 G7 := t6.trans s7
        refine ⟨by decide, fun q8 h8 => ?_⟩
        have n8 : q8 ≠ u := (ne_of_none (t7 _ _ eu) h8).symm
        have s8 := same_upd (o := .tup [.int 1, .int 1]) h8
        have f8 : upd G7 q8 (.tup [.int 1, .int 1]) q8 = some (.tup [.int 1, .int 1]) := upd_same
        generalize upd G7 q8 (.tup [.int 1, .int 1]) = G8 at *
        have t8 : Same H7 G8 := t7.trans s8
        refine ⟨by decide, fun q9 h9 => ?_⟩
        have n9 : q9 ≠ u := (ne_of_none (t8 _ _ eu) h9).symm
        have s9 := same_upd (o := .tup [.ref q8, .int 1]) h9
        have f9 : upd G8 q9 (.tup [.ref q8, .int 1]) q9 = some (.tup [.ref q8, .int 1]) := upd_same
        generalize upd G8 q9 (.tup [.ref q8, .int 1]) = G9 at *
        have t9 : Same H7 G9 := t8.trans s9
        refine fun q10 h10 => ?_
        have n10 : q10 ≠ u := (ne_of_none (t9 _ _ eu) h10).symm
        have s10 := same_upd (o := .dK []) h10
        walk_at "vc"
        refine ⟨upd_same, [(.inl 1, .int 2)], rfl, by decide, ?_⟩
        have s11 : Same G9 (upd (upd G9 q10 (.dK [])) q10 (.dK (mergeK [] [(.inl 1, .int 2)]))) := by
          rw [upd_upd]
          exact same_upd h10
        have f10 : upd (upd G9 q10 (.dK [])) q10 (.dK (mergeK [] [(.inl 1, .int 2)])) q10 = some (.dK (mergeK [] [(.inl 1, .int 2)])) := upd_same
        generalize upd (upd G9 q10 (.dK [])) q10 (.dK (mergeK [] [(.inl 1, .int 2)])) = G10 at *
        have t10 : Same H7 G10 := t9.trans s11
        refine ⟨by decide, fun q11 h11 => ?_⟩
        have n11 : q11 ≠ u := (ne_of_none (t10 _ _ eu) h11).symm
        have s12 := same_upd (o := .lst [.non, .bl true, .str "1", .ref q1, .ref q2, .ref q3, .ref q4, .ref q5, .ref q6, .ref q7, .ref q9, .ref q10]) h11
        have f11 : upd G10 q11 (.lst [.non, .bl true, .str "1", .ref q1, .ref q2, .ref q3, .ref q4, .ref q5, .ref q6, .ref q7, .ref q9, .ref q10]) q11 = some (.lst [.non, .bl true, .str "1", .ref q1, .ref q2, .ref q3, .ref q4, .ref q5, .ref q6, .ref q7, .ref q9, .ref q10]) := upd_same
        generalize upd G10 q11 (.lst [.non, .bl true, .str "1", .ref q1, .ref q2, .ref q3, .ref q4, .ref q5, .ref q6, .ref q7, .ref q9, .ref q10]) = G11 at *
        have t11 : Same H7 G11 := t10.trans s12
        refine ⟨u, q11, _, k + 11, rfl, n11, f11, by simp, by simp, u7.same t11, fun H8 v b8 u8 hv => ?_⟩
        have k10 : Same G10 G11 := s12
        have k9 : Same G9 G11 := s11.trans k10
        have k8 : Same G8 G11 := s9.trans k9
        have k7 : Same G7 G11 := s8.trans k8
        have k6 : Same G6 G11 := s7.trans k7
        have k5 : Same G5 G11 := s6.trans k6
        have k4 : Same G4 G11 := s5.trans k5
        have k3 : Same G3 G11 := s4.trans k4
        have k2 : Same G2 G11 := s3.trans k3
        have k1 : Same G1 G11 := s2.trans k2
        have g1 : ∀ H9, But u H8 H9 → H9 q1 = some _ := fun H9 b9 => (b8.trans b9) _ n1 _ (k1 _ _ f1)
        have g2 : ∀ H9, But u H8 H9 → H9 q2 = some _ := fun H9 b9 => (b8.trans b9) _ n2 _ (k2 _ _ f2)
        have g3 : ∀ H9, But u H8 H9 → H9 q3 = some _ := fun H9 b9 => (b8.trans b9) _ n3 _ (k3 _ _ f3)
        have g4 : ∀ H9, But u H8 H9 → H9 q4 = some _ := fun H9 b9 => (b8.trans b9) _ n4 _ (k4 _ _ f4)
        have g5 : ∀ H9, But u H8 H9 → H9 q5 = some _ := fun H9 b9 => (b8.trans b9) _ n5 _ (k5 _ _ f5)
        have g6 : ∀ H9, But u H8 H9 → H9 q6 = some _ := fun H9 b9 => (b8.trans b9) _ n6 _ (k6 _ _ f6)
        have g7 : ∀ H9, But u H8 H9 → H9 q7 = some _ := fun H9 b9 => (b8.trans b9) _ n7 _ (k7 _ _ f7)
        have g8 : ∀ H9, But u H8 H9 → H9 q8 = some _ := fun H9 b9 => (b8.trans b9) _ n8 _ (k8 _ _ f8)
        have g9 : ∀ H9, But u H8 H9 → H9 q9 = some _ := fun H9 b9 => (b8.trans b9) _ n9 _ (k9 _ _ f9)
        have g10 : ∀ H9, But u H8 H9 → H9 q10 = some _ := fun H9 b9 => (b8.trans b9) _ n10 _ (k10 _ _ f10)
        have bad : BadU K u H8 v := by
          intro H9 b9
          simp only [List.mem_cons, List.not_mem_nil, or_false] at hv
          rcases hv with rfl | rfl | rfl | rfl | rfl | rfl | rfl | rfl | rfl | rfl | rfl | rfl
          · exact ⟨.scal .non (by decide) (by decide) (by decide), _, .non, by decide⟩
          · exact ⟨.scal (.bl _) (by decide) (by decide) (by decide), _, .bl _, by decide⟩
          · exact ⟨.scal (.str _) (by decide) (by decide) (by decide), _, .str _, by decide⟩
          · exact ⟨.low (.inr (st_of (g1 H9 b9))) (fun h => absurd h.2 (by decide)), _, .tup (st_of (g1 H9 b9)), by decide⟩
          · exact ⟨.low (.inr (st_of (g2 H9 b9))) (zero_not 1), _, .tup (st_of (g2 H9 b9)), by decide⟩
          · exact ⟨.low (.inr (st_of (g3 H9 b9))) (fun h => absurd h.1 (by decide)), _, .tup (st_of (g3 H9 b9)), by decide⟩
          · exact ⟨.len (.inr (st_of (g4 H9 b9))) (by decide), _, .tup (st_of (g4 H9 b9)), by decide⟩
          · exact ⟨.len (.inl (sl_of (g5 H9 b9))) (by decide), _, .lst (sl_of (g5 H9 b9)), by decide⟩
          · exact ⟨.len (.inr (st_of (g6 H9 b9))) (by decide), _, .tup (st_of (g6 H9 b9)), by decide⟩
          · exact ⟨.und (.inr (st_of (g7 H9 b9))) (.bl true) (by decide), _, .tup (st_of (g7 H9 b9)), by decide⟩
          · exact ⟨.top (.inr (st_of (g9 H9 b9))) (.tup (st_of (g8 H9 b9))) (by decide) (.int 1), _, .tup (st_of (g9 H9 b9)), by decide⟩
          · exact ⟨.scal (.dict (g10 H9 b9)) (by decide) (by decide) (by decide), _, .dict (g10 H9 b9), by decide⟩
        have b78 : But u H7 H8 := (same_but t11).trans b8
        clear g1 g2 g3 g4 g5 g6 g7 g8 g9 g10 k1 k2 k3 k4 k5 k6 k7 k8 k9 k10 hv
        clear f1 f2 f3 f4 f5 f6 f7 f8 f9 f10 f11 s1 s2 s3 s4 s5 s6 s7 s8 s9 s10 s11 s12
        subst hN
        refine seq_by fun N hN => ?_
        walk_at "vc"
        refine ⟨u, k + 3, rfl, u8, fun H9 pg g b9 u9 hg cg sg => ?_⟩
        refine ⟨u, _, g, k + 1, rfl, ⟨pg, rfl, st_of hg⟩, cg, u9, fun H10 z b10 u10 ng => ?_⟩
        have b810 := b9.trans b10
        have bad := bad.but b810
        have sg4 : Sm 4000 g := sg.up (by decide)
        have fin : ∀ H', Same H10 H' → Q (.bl true) H' := fun H' s' => q H' ((b7.trans b78).trans (b810.trans (same_but s'))) ((u10.mono (by omega)).same s')
        clear u8 u9 b9 b10 hg b810
        subst hN
        refine seq_by fun N hN => ?_
        walk_at "vc"
        have rest3 : ∀ H11, Same H10 H11 → N [some (.ref u), some (.int t), some (.int d), some (.ref p5), some v, some z, none] H11 := by
          intro H11 s11
          subst hN
          refine seq_by fun N hN => ?_
          refine ⟨5, rfl, by decide, by decide, ?_⟩
          refine for_range (n := 5) (fun i σ H' => Same H10 H' ∧ ∃ y, σ = [some (.ref u), some (.int t), some (.int d), some (.ref p5), some v, some z, y]) ⟨s11, none, rfl⟩ ?_ ?_
          · rintro i σ H' hi ⟨s', y, rfl⟩
            walk_at "vc"
            refine part_bin (by omega) (by omega) (.inl ⟨(bad H' (same_but s')).1, fun H12 s12 => ⟨rfl, ?_⟩⟩)
            rw [if_neg (fun z => z rfl)]
            refine part_bin (by omega) (by omega) (.inl ⟨(bad H12 (same_but (s'.trans s12))).1, fun H13 s13 => ⟨rfl, ?_⟩⟩)
            rw [if_neg (fun z => z rfl)]
            refine part_bin (by omega) (by omega) (.inr ⟨g, ng.same ((s'.trans s12).trans s13), (bad H13 (same_but ((s'.trans s12).trans s13))).1, fun H14 s14 => ⟨rfl, ?_⟩⟩)
            rw [if_neg (fun z => z rfl)]
            exact ⟨((s'.trans s12).trans s13).trans s14, _, rfl⟩
          · rintro σ H' ⟨s', y, rfl⟩
            show N _ _
            subst hN
            refine seq_by fun N hN => ?_
            walk_at "vc"
            have z4 : Sm 4000 ((0, 1) : Int × Int) := ⟨Nat.two_pow_pos _, Nat.one_lt_two_pow (by decide)⟩
            refine part_zero (ng.same s') (.int 0) sg4 z4 rfl fun H12 s12 => ⟨rfl, ?_⟩
            rw [if_neg (fun z => z rfl)]
            refine ⟨by decide, fun p hp => ?_⟩
            have sp := same_upd (o := .tup [.int 0, .int 1]) hp
            have s02 := (s'.trans s12).trans sp
            refine part_zero (ng.same s02) (.sq (.inr (st_of upd_same)) ⟨by decide, by decide⟩) sg4 z4 rfl fun H13 s13 => ⟨rfl, ?_⟩
            rw [if_neg (fun z => z rfl)]
            have s03 := s02.trans s13
            refine part_value (bad H13 (same_but s03)).1 fun H14 s14 => ⟨rfl, ?_⟩
            rw [if_neg (fun z => z rfl)]
            have s04 := s03.trans s14
            obtain ⟨_, U4, hU4, hUi4⟩ := bad H14 (same_but s04)
            refine part_top7 hU4 hUi4 fun H15 s15 => ⟨rfl, ?_⟩
            rw [if_neg (fun z => z rfl)]
            have s05 := s04.trans s15
            subst hN
            walk_at "vc"
            refine ⟨by decide, fun p2 hp2 => ?_⟩
            have sp2 := same_upd (o := .tup [.int 1, .int 2]) hp2
            refine part_5 (.tup (st_of upd_same)) (.int 0) (.inl ⟨by decide, fun H16 s16 => ⟨rfl, ?_⟩⟩)
            rw [if_pos rfl]
            have s06 := (s05.trans sp2).trans s16
            refine part_5 (.int t) (.int 0) (.inr (.inr (.inl ⟨t, rfl, rfl, fun H17 s17 => ⟨rfl, ?_⟩⟩)))
            rw [if_pos rfl]
            have s07 := s06.trans s17
            obtain ⟨_, U5, hU5, hUi5⟩ := bad H17 (same_but s07)
            refine part_5 (.int t) hU5 (.inr (.inl ⟨rfl, hUi5, fun H18 s18 => ⟨rfl, ?_⟩⟩))
            rw [if_pos rfl]
            refine part_5 (.int t) (.int d) (.inr (.inr (.inr ⟨t, d, rfl, rfl, hd0, Nat.lt_of_lt_of_le hd l8, fun H19 s19 => ?_⟩)))
            exact fin H19 ((s07.trans s18).trans s19)
        obtain ⟨hb, U, hU, hUi⟩ := bad H10 (But.refl u H10)
        refine isnum_bad hb fun H11 s11 => ⟨_, rfl, ?_⟩
        rw [if_neg (fun z => z rfl)]
        refine ⟨v, U, rfl, hU.same s11, fun H12 s12 => ⟨_, rfl, ?_⟩⟩
        rw [beq_false_of_ne hUi, if_neg (fun z => z rfl)]
        have s02 := s11.trans s12
        refine ⟨z, rfl, .inl ⟨g, ng.same s02, fun H13 s13 => ⟨_, rfl, ?_⟩⟩⟩
        rw [if_neg (fun z => z rfl)]
        have s03 := s02.trans s13
        obtain ⟨W, hW, hw⟩ := (ng.same s03).ty
        refine ⟨z, W, rfl, hW, fun H14 s14 => ⟨by decide, fun p hp => ?_⟩⟩
        have sp := same_upd (o := .tup [.ty "list", .ty "tuple"]) hp
        refine ty_row (hW.same (s14.trans sp)) upd_same ⟨_, rfl, rfl, ?_⟩
        have s05 := (s03.trans s14).trans sp
        rcases hw with rfl | rfl | rfl
        · rw [if_neg (by decide)]; exact rest3 _ s05
        · rw [if_neg (by decide)]; exact rest3 _ s05
        · rw [if_neg (by decide)]; exact rest3 _ s05
      walk_at "vc"
      refine ⟨by decide, fun p hp => ?_⟩
      have sp := same_upd (o := .tup [.int t, .int d]) hp
      obtain ⟨bb, hbb, hnum⟩ := isnum_pair (K := K) (H := upd H6 p (.tup [.int t, .int d])) (p := p) (a := t) (b := d) (E := E0) (.inr (st_of upd_same))
      refine hnum _ fun H7 s7 => ⟨_, rfl, ?_⟩
      have s67 := sp.trans s7
      split
      · rename_i hdp
        refine ⟨t, d, rfl, Nat.lt_of_lt_of_le ht (pow_le (by decide)), Nat.lt_of_lt_of_le hd (pow_le (by decide)), ?_⟩
        walk_at "vc"
        refine ⟨rfl, rfl, ?_⟩
        have e : bb = true ↔ ((Nat.gcd t.natAbs d.natAbs : Nat) : Int) = 1 := by
          rw [hbb]
          constructor
          · intro z; exact_mod_cast z.2
          · intro z; exact ⟨by show 1 ≤ d; omega, by exact_mod_cast z⟩
        rw [if_neg (fun z => z (by simp only [e]))]
        refine ⟨.inl (by decide), .inl (by decide), by decide, fun p2 hp2 => ?_⟩
        have sp2 := same_upd (o := .lst [.int (2 * t), .int (2 * d)]) hp2
        refine isnum_bad (.low (.inl (sl_of upd_same)) (twice_not t d)) fun H8 s8 => ⟨_, rfl, ?_⟩
        rw [if_neg (fun z => z rfl)]
        refine ⟨by decide, fun p3 hp3 => ?_⟩
        have sp3 := same_upd (o := .tup [.int t, .int 0]) hp3
        refine isnum_bad (.low (.inr (st_of upd_same)) (zero_not t)) fun H9 s9 => ⟨_, rfl, ?_⟩
        rw [if_neg (fun z => z rfl)]
        have sE := (((s67.trans sp2).trans s8).trans sp3).trans s9
        exact rest2 H9 (b6.trans (same_but sE)) (u6.same sE)
      · rename_i hdp
        have e : bb = false := by
          cases hb : bb
          · rfl
          · have : (1 : Int) ≤ d := (hbb.mp hb).1
            omega
        subst e
        refine ⟨rfl, ?_⟩
        rw [if_neg (fun z => z (by simp only [Bool.false_eq_true, if_false]))]
        refine ⟨.inl (by decide), .inl (by decide), by decide, fun p2 hp2 => ?_⟩
        have sp2 := same_upd (o := .lst [.int (2 * t), .int (2 * d)]) hp2
        refine isnum_bad (.low (.inl (sl_of upd_same)) (twice_not t d)) fun H8 s8 => ⟨_, rfl, ?_⟩
        rw [if_neg (fun z => z rfl)]
        refine ⟨by decide, fun p3 hp3 => ?_⟩
        have sp3 := same_upd (o := .tup [.int t, .int 0]) hp3
        refine isnum_bad (.low (.inr (st_of upd_same)) (zero_not t)) fun H9 s9 => ⟨_, rfl, ?_⟩
        rw [if_neg (fun z => z rfl)]
        have sE := (((s67.trans sp2).trans s8).trans sp3).trans s9
        exact rest2 H9 (b6.trans (same_but sE)) (u6.same sE)
    have after : ∀ H6, Same H5 H6 → spNumber K A.c_BadNumber [.int t, .int 1] H6 (fun x H1 => 2 ≤ sizeLine ∧ ∀ p, H1 p = none → rNeD K x (.ref p) (upd H1 p (.tup [.int t, .int 1])) (fun x H' => ∃ k_1, x = .bl k_1 ∧ (if k_1 = true then Q (.bl false) H' else
        spIsNumber K [.ref p5] H' (fun x H1 => ∃ a, x = .bl a ∧ (if ¬ a = true then Q (.bl false) H1 else N [some (.ref u), some (.int t), some (.int d), some (.ref p5), none, none, none] H1)) E0))) E0 := by
      intro H6 s6
      refine ⟨_, _, _, _, rfl, .int t, .int 1, .inr (.inr (.inr ⟨t, 1, rfl, rfl, by decide, Nat.one_lt_two_pow (by decide), fun H7 p7 s7 t7 => ?_⟩))⟩
      rw [low_one] at t7
      refine ⟨by decide, fun p hp => ?_⟩
      have sp := same_upd (o := .tup [.int t, .int 1]) hp
      refine ⟨_, _, dpp (same_tup sp t7), dpp (a := (t, 1)) (st_of upd_same), sh_intsT _, sh_intsT _, _, rfl, ?_⟩
      rw [eqv_self]
      refine iteF ?_
      have s57 := (s6.trans s7).trans sp
      refine ⟨_, rfl, .inl ⟨low t d, .sq (.inr (same_tup s57 t5)) lq.1.1, fun H8 s8 => ⟨_, rfl, ?_⟩⟩⟩
      rw [if_neg (fun z => z rfl)]
      exact rest H8 (b45.trans (same_but (s57.trans s8))) (u5.same (s57.trans s8))
    walk_at "vc"
    split
    · rename_i z
      exact ⟨_, _, _, low t d, rfl, ⟨p5, rfl, t5⟩, lo1 z, lq.2.1, ⟨Nat.lt_of_lt_of_le ht l4, by rw [habs]; exact Nat.lt_of_lt_of_le hd l4⟩, fun H6 s6 => ⟨_, rfl, iteF' rfl (after H6 s6)⟩⟩
    · rename_i z
      exact ⟨_, _, _, low t d, rfl, ⟨p5, rfl, t5⟩, lo2 z, lq.2.1, ⟨by show (-t).natAbs < _; rw [Int.natAbs_neg]; exact Nat.lt_of_lt_of_le ht l4, by rw [habs]; exact Nat.lt_of_lt_of_le hd l4⟩, fun H6 s6 => ⟨_, rfl, iteF' rfl (after H6 s6)⟩⟩
def spLaw (K : PySem.W.Frag) : Sp := fun vs H Q _ => ∃ (a : Addr) (ns : List Int), vs = [.ref a] ∧ SqL K H a (ns.map V.int) ∧ ns.length ≤ 63 ∧ ∀ H', Q (.bl true) H'
theorem ok_law (T : Txt K mg A) : FnOk P w K mg base CX0 9 A.f_law A.d_law ["script"] (spLaw K) := by
  refine T.law.F.ok sc_law (fun vs H Q E h => ?_) (fun cdv A' outer s H vs Q E hr h => ?_)
  · obtain ⟨_, _, rfl, _⟩ := h; rfl
  · obtain ⟨a, ns, rfl, hS, hl, q⟩ := h
    refine ⟨_, (pss_cons (ps_set (i := 1) sc_law.nd rfl (.inl rfl) (pe_call (ok__law_urn T) (hr.mono (by decide)) (by rfl) T._law_urn.g T._law_urn.F.kp T._law_urn.b .nil pass0 (pa_cons (pv 0) pa_nil)))
      (pss_cons (ps_for PassesOwn.never rfl (pi_range1 rfl T.n_range (pa_cons (pe_op op_add pe_int (pe_call (ok__law_spill T) (hr.mono (by decide)) (by rfl) T._law_spill.g T._law_spill.F.kp T._law_spill.b .nil pass0 (pa_cons (pv 1) (pa_cons pe_int pa_nil)))) pa_nil)) (pg_name (i := 2) sc_law.nd rfl (.inl rfl)) (pss_one (ps_if (PW.pt (pw_or (pt_not (pt_val (pe_call (ok__law_sums_right T) (hr.mono (by decide)) (by rfl) T._law_sums_right.g T._law_sums_right.F.kp T._law_sums_right.b .nil pass0 (pa_cons (pv 1) pa_nil)))) (pw_or1 (pt_not (pt_val (pe_call (ok__law_made_right T) (hr.mono (by decide)) (by rfl) T._law_made_right.g T._law_made_right.F.kp T._law_made_right.b .nil pass0 (pa_cons (pv 1) pa_nil))))))) (pss_one (ps_ret pe_bl)) pss_nil)))
      (pss_cons (ps_set (i := 3) sc_law.nd rfl (.inl rfl) (pe_op op_sub (pe_call (ok__law_spill T) (hr.mono (by decide)) (by rfl) T._law_spill.g T._law_spill.F.kp T._law_spill.b .nil pass0 (pa_cons (pv 1) (pa_cons pe_int pa_nil))) pe_int))
      (pss_cons (ps_for PassesOwn.never rfl (pi_range2 rfl T.n_range (pa_cons (pe_un un_neg pe_int) (pa_cons pe_int pa_nil))) (pg_name (i := 4) sc_law.nd rfl (.inl rfl)) (pss_one (ps_if (PW.pt (pw_or (pt_cmpR op_ne (pe_call (ok_is_within T) (hr.mono (by decide)) (by rfl) T.is_within.g T.is_within.F.kp T.is_within.b .nil pass0 (pa_cons (pv 4) (pa_cons (pv 3) (pa_cons pe_int pa_nil)))) (pe_chain op_le op_le (pv 3) (pv 4) pe_int) (nomark _)) (pw_or (pt_cmpR op_ne (pe_call (ok_is_within T) (hr.mono (by decide)) (by rfl) T.is_within.g T.is_within.F.kp T.is_within.b .nil pass0 (pa_cons (pv 4) (pa_cons pe_non (pa_cons (pv 3) pa_nil)))) (pe_cmpR op_le (pv 4) (pv 3) (nomark _)) (nomark _)) (pw_or1 (pt_cmpR op_ne (pe_callN0 (ok_is_within T) (hr.mono (by decide)) (by rfl) T.is_within.g T.is_within.F.kp (kb_is_within T) pass0 (pk_cons (pv 4) (pk_cons (pv 3) (pk_cons pe_non pk_nil)))) (pe_cmpR op_ge (pv 4) (pv 3) (nomark _)) (nomark _)))))) (pss_one (ps_ret pe_bl)) pss_nil)))
      (pss_one (ps_ret (pe_and (pe_cmpR op_isBl (pe_call (ok_is_within T) (hr.mono (by decide)) (by rfl) T.is_within.g T.is_within.F.kp T.is_within.b .nil pass0 (pa_cons pe_bl (pa_cons pe_non (pa_cons pe_non pa_nil)))) pe_bl (nomark _)) (pe_and (pe_cmpR op_isBl (pe_call (ok_is_within T) (hr.mono (by decide)) (by rfl) T.is_within.g T.is_within.F.kp T.is_within.b .nil pass0 (pa_cons (pe_tup (pa_cons (pv 3) (pa_cons pe_int pa_nil))) (pa_cons pe_non (pa_cons pe_non pa_nil)))) pe_bl (nomark _)) (pe_one (pe_cmpR op_isBl (pe_call (ok_is_within T) (hr.mono (by decide)) (by rfl) T.is_within.g T.is_within.F.kp T.is_within.b .nil pass0 (pa_cons (pv 3) (pa_cons pe_non (pa_cons pe_non pa_nil)))) pe_bl (nomark _))))))))))), ?_⟩
    refine seq_by fun N hN => ?_
    walk_at "vc"
    refine ⟨a, ns, rfl, hS, hl, fun H1 u s1 u1 => ?_⟩
    subst hN
    refine seq_by fun N hN => ?_
    refine ⟨_, rfl, u, 4, 899999, rfl, by decide, by decide, u1, fun H2 m b2 u2 m0 m1 => ⟨2, m, rfl, rfl, 2 + m, rfl, by omega, by omega, ?_⟩⟩
    have hm5 : (2 + m).toNat ≤ 5 := by omega
    refine for_range (n := (2 + m).toNat) (fun i σ H' => ∃ y, σ = [some (.ref a), some (.ref u), y, none, none] ∧ Urn H' u (800000 - 100 * i)) ⟨none, rfl, u2.mono (by omega)⟩ ?_ ?_
    · rintro i σ H' hi ⟨y, rfl, ui⟩
      walk_at "vc"
      refine ⟨u, 800000 - 100 * i - 21, rfl, ui.mono (by omega), fun H3 b3 u3 => ⟨_, rfl, iteF' rfl ?_⟩⟩
      refine ⟨u, 800000 - 100 * (i + 1), rfl, u3.mono (by omega), fun H4 b4 u4 => ⟨_, rfl, iteF' rfl ?_⟩⟩
      exact u4
    · rintro σ H' ⟨y', rfl, ui⟩
      show N _ _
      subst hN
      refine seq_by fun N hN => ?_
      walk_at "vc"
      refine ⟨u, _, 1, rfl, by decide, by decide, ui.mono (by omega), fun H3 l b3 u3 l0 l1 => ⟨l, rfl, ?_⟩⟩
      generalize l - 10 = low
      subst hN
      refine seq_by fun N hN => ?_
      refine ⟨12, rfl, -12, 13, rfl, by decide, ?_⟩
      refine for_range (lo := -12) (n := 25) (fun i σ H' => ∃ y, σ = [some (.ref a), some (.ref u), y', some (.int low), y]) ⟨none, rfl⟩ ?_ ?_
      · rintro i σ H4 hi ⟨y4, rfl⟩
        generalize (-12 : Int) + (i : Int) = vl
        walk_at "vc"
        refine ⟨_, some low, some 5, rfl, .inr ⟨vl, rfl, fun H5 s5 => ?_⟩⟩
        split
        · rename_i h
          refine ⟨rfl, ?_⟩
          rw [if_neg (fun z => z (by simp [h]))]
          refine ⟨_, none, some low, rfl, .inr ⟨vl, rfl, fun H6 s6 => ⟨rfl, ?_⟩⟩⟩
          rw [if_neg (fun z => z (by simp))]
          refine ⟨_, some low, none, rfl, .inr ⟨vl, rfl, fun H7 s7 => ⟨rfl, ?_⟩⟩⟩
          rw [if_neg (fun z => z (by simp))]
          exact ⟨_, rfl⟩
        · rename_i h
          refine ⟨rfl, ?_⟩
          rw [if_neg (fun z => z (by simp [h]))]
          refine ⟨_, none, some low, rfl, .inr ⟨vl, rfl, fun H6 s6 => ⟨rfl, ?_⟩⟩⟩
          rw [if_neg (fun z => z (by simp))]
          refine ⟨_, some low, none, rfl, .inr ⟨vl, rfl, fun H7 s7 => ⟨rfl, ?_⟩⟩⟩
          rw [if_neg (fun z => z (by simp))]
          exact ⟨_, rfl⟩
      · rintro σ H4 ⟨y4, rfl⟩
        show N _ _
        subst hN
        walk_at "vc"
        refine ⟨_, none, none, rfl, .inl ⟨_, .bl true, by decide, fun H5 s5 => ⟨_, rfl, ?_⟩⟩⟩
        rw [if_pos rfl]
        refine ⟨by decide, fun p hp => ⟨_, none, none, rfl, .inl ⟨_, .tup (st_of upd_same), by decide, fun H6 s6 => ⟨_, rfl, ?_⟩⟩⟩⟩
        rw [if_pos rfl]
        refine ⟨_, none, none, rfl, .inr ⟨low, rfl, fun H7 s7 => ?_⟩⟩
        exact ⟨_, rfl, q H7⟩
end
end Odd
namespace Odd
open PySem PySem.Spec PyProof.Rows L2
theorem number_mk {K : PySem.W.Frag} {h : Heap} {mg : Str → Option Value} (X : K.In h) (G : h.Ns mainGlobals mg)
    {f TD : Addr} {od an odT : Option Addr} {sl slT : Array (Option Value)} {oc kV dc pm cd ct ocT : Value} {tk : Tok} {nT : Nat}
    (a : PySem.W.nsIn K mainGlobals "number" = some (some (.ref f))) (l : K.lookup f = some ⟨oc, od, .func (PySem.W.fnOf "number" "number" (defArgs s_number) (defBody s_number) (defScope s_number) (.ref TD) kV dc pm an cd ct), sl⟩) (c : PySem.W.codeIn K cd "number" = true) (k : PySem.W.keepIn K (.ref f) = true)
    (lT : K.lookup TD = some ⟨ocT, odT, .seq #[Value.int 1 tk] nT, slT⟩) : ∃ f fd, DefOkD K mg f fd :=
  ⟨f, _, PySem.W.mg_of X G a, ⟨⟨oc, od, _, kV, dc, pm, an, cd, ct, sl, rfl, l, c, .inr ⟨by simp, TD, _, [Value.int 1 tk], nT, rfl, lT, rfl, .cons ⟨tk, rfl⟩ .nil⟩, .inl rfl⟩, k⟩⟩
theorem exm_self {K : PySem.W.Frag} {S : Addr} (h1 : PySem.W.subIn K (.ref S) (.type "BaseException") = some true) (h2 : PySem.W.isClsIn K S = true) (h3 : PySem.W.typeIn K (.ref S) = some (.type "type")) (h4 : PySem.W.subIn K (.ref S) (.ref S) = some true) :
    PySem.W.exmOne K (.ref S) (.ref S) = some true := by
  have e1 : (PySem.W.subIn K (.ref S) (.type "BaseException") == some true) = true := by rw [h1] <;> rfl
  have e2 : ((PySem.W.clsIn K S).isSome && PySem.W.typeIn K (.ref S) == some (.type "type")) = true := by
    have h2' : (PySem.W.clsIn K S).isSome = true := h2
    rw [h2', h3] <;> rfl
  show (if (PySem.W.subIn K (.ref S) (.type "BaseException") == some true) = true then (if ((PySem.W.clsIn K S).isSome && PySem.W.typeIn K (.ref S) == some (.type "type")) = true then PySem.W.subIn K (.ref S) (.ref S) else none) else none) = some true
  rw [if_pos e1, if_pos e2]
  exact h4
theorem def_mk {K : PySem.W.Frag} {h : Heap} {mg : Str → Option Value} {x : Str} {st : Stmt} {ps : List Str} (X : K.In h) (G : h.Ns mainGlobals mg)
    (b : ∀ (kV doc pm : Value) (an : Option Addr) (cdv ct : Value) (us : List Value), us.length = ps.length → bindArgs (PySem.W.fnOf x x (defArgs st) (defBody st) (defScope st) .none kV doc pm an cdv ct) ⟨us, []⟩ = pure (ps.zip us))
    {f : Addr} {od an : Option Addr} {sl : Array (Option Value)} {oc kV dc pm cd ct : Value}
    (a : PySem.W.nsIn K mainGlobals x = some (some (.ref f))) (l : K.lookup f = some ⟨oc, od, .func (PySem.W.fnOf x x (defArgs st) (defBody st) (defScope st) .none kV dc pm an cd ct), sl⟩) (c : PySem.W.codeIn K cd x = true) (k : PySem.W.keepIn K (.ref f) = true) :
    ∃ f fd, DefOk K mg x st f fd ps := ⟨f, _, PySem.W.mg_of X G a, fun_mk l c k, (fun_mk l c k).binds b⟩
theorem low_mk {K : PySem.W.Frag} {h : Heap} {mg : Str → Option Value} {nx qn : Str} (X : K.In h) (G : h.Ns mainGlobals mg)
    {C f1 N CO : Addr} {nm q : Str} {bs : List Value} {sn : List Str} {sub : List Value} {ab : Bool} {col : Option Bool} {dd : Option Addr} {m0 m1 m2 m3 m5 : Option Value} {p1 p2 q1 q2 q3 q4 : Pos}
    {od1 an1 : Option Addr} {sl1 : Array (Option Value)} {oc1 dc1 pm1 cd1 ct1 : Value}
    (aC : PySem.W.nsIn K mainGlobals nx = some (some (.ref C)))
    (xL : K.lookup C = some (excClassObj nm q C N bs [.ref CO, .type "ValueError", .type "Exception", .type "BaseException", .type "object"] true sn sub ab col dd m0 m1 m2 m3 m5 "ValueError.__new__"))
    (sa : PySem.W.findIn K (.ref C) "__setattr__" = some (some (.builtin "object.__setattr__"))) (ga : PySem.W.findIn K (.ref C) "__getattribute__" = some (some (.builtin "BaseException.__getattribute__"))) (gg : PySem.W.findIn K (.ref C) "__getattr__" = some none) (nb : PySem.W.findIn K (.ref C) "part" = some none)
    (a1 : PySem.W.findIn K (.ref C) "__init__" = some (some (.ref f1))) (t1 : PySem.W.typeIn K (.ref f1) = some (.type "function"))
    (l1 : K.lookup f1 = some ⟨oc1, od1, .func (PySem.W.fnOf "__init__" qn (PySem.LowX.iA p1 p2) (PySem.LowX.iB q1 q2 q3 q4) PySem.LowX.iS .none .none dc1 pm1 an1 cd1 ct1), sl1⟩) (c1 : PySem.W.codeIn K cd1 qn = true)
    (kC : PySem.W.keepIn K (.ref C) = true) (eC : PySem.W.subIn K (.ref C) (.type "BaseException") = some true) (tC : PySem.W.typeIn K (.ref C) = some (.type "type")) (hC : PySem.W.hasDictIn K C = true) (iC : PySem.W.isClsIn K C = true) (sC : PySem.W.subIn K (.ref C) (.ref C) = some true) :
    ∃ C fI, PySem.LowX.LowTxt nx qn K mg C fI :=
  ⟨C, f1, { gC := PySem.W.mg_of X G aC, cls := ⟨nm, q, N, bs, _, sn, sub, ab, col, dd, m0, m1, m2, m3, m5, xL, (show PySem.HandSPX.refsVE [.type "ValueError", .type "Exception", .type "BaseException", .type "object"] = true by decide +kernel)⟩, sa := sa, ga := ga, gg := gg, noN := nb, iC := a1, tC := t1, kC := kC, exC := eC, tyC := tC, hdC := hC, te := exm_self eC iC tC sC, fn := ⟨_, _, _, _, _, _, _, _, _, _, _, _, _, _, l1, c1⟩ }⟩
theorem bi_lowest : ∀ (kV doc pm : Value) (an : Option Addr) (cdv ct : Value) (us : List Value), us.length = (["top", "under"] : List Str).length → bindArgs (PySem.W.fnOf "lowest" "lowest" (defArgs s_lowest) (defBody s_lowest) (defScope s_lowest) .none kV doc pm an cdv ct) ⟨us, []⟩ = pure ((["top", "under"] : List Str).zip us) := fun _ _ _ _ _ _ us hl => match us, hl with | [_, _], _ => rfl
theorem bi_pair_of : ∀ (kV doc pm : Value) (an : Option Addr) (cdv ct : Value) (us : List Value), us.length = (["value"] : List Str).length → bindArgs (PySem.W.fnOf "pair_of" "pair_of" (defArgs s_pair_of) (defBody s_pair_of) (defScope s_pair_of) .none kV doc pm an cdv ct) ⟨us, []⟩ = pure ((["value"] : List Str).zip us) := fun _ _ _ _ _ _ us hl => match us, hl with | [_], _ => rfl
theorem bi_sum_of : ∀ (kV doc pm : Value) (an : Option Addr) (cdv ct : Value) (us : List Value), us.length = (["one", "other"] : List Str).length → bindArgs (PySem.W.fnOf "sum_of" "sum_of" (defArgs s_sum_of) (defBody s_sum_of) (defScope s_sum_of) .none kV doc pm an cdv ct) ⟨us, []⟩ = pure ((["one", "other"] : List Str).zip us) := fun _ _ _ _ _ _ us hl => match us, hl with | [_, _], _ => rfl
theorem bi_difference : ∀ (kV doc pm : Value) (an : Option Addr) (cdv ct : Value) (us : List Value), us.length = (["one", "other"] : List Str).length → bindArgs (PySem.W.fnOf "difference" "difference" (defArgs s_difference) (defBody s_difference) (defScope s_difference) .none kV doc pm an cdv ct) ⟨us, []⟩ = pure ((["one", "other"] : List Str).zip us) := fun _ _ _ _ _ _ us hl => match us, hl with | [_, _], _ => rfl
theorem bi_product_of : ∀ (kV doc pm : Value) (an : Option Addr) (cdv ct : Value) (us : List Value), us.length = (["one", "other"] : List Str).length → bindArgs (PySem.W.fnOf "product_of" "product_of" (defArgs s_product_of) (defBody s_product_of) (defScope s_product_of) .none kV doc pm an cdv ct) ⟨us, []⟩ = pure ((["one", "other"] : List Str).zip us) := fun _ _ _ _ _ _ us hl => match us, hl with | [_, _], _ => rfl
theorem bi_quotient : ∀ (kV doc pm : Value) (an : Option Addr) (cdv ct : Value) (us : List Value), us.length = (["one", "other"] : List Str).length → bindArgs (PySem.W.fnOf "quotient" "quotient" (defArgs s_quotient) (defBody s_quotient) (defScope s_quotient) .none kV doc pm an cdv ct) ⟨us, []⟩ = pure ((["one", "other"] : List Str).zip us) := fun _ _ _ _ _ _ us hl => match us, hl with | [_, _], _ => rfl
theorem bi_is_below : ∀ (kV doc pm : Value) (an : Option Addr) (cdv ct : Value) (us : List Value), us.length = (["one", "other"] : List Str).length → bindArgs (PySem.W.fnOf "is_below" "is_below" (defArgs s_is_below) (defBody s_is_below) (defScope s_is_below) .none kV doc pm an cdv ct) ⟨us, []⟩ = pure ((["one", "other"] : List Str).zip us) := fun _ _ _ _ _ _ us hl => match us, hl with | [_, _], _ => rfl
theorem bi_sign : ∀ (kV doc pm : Value) (an : Option Addr) (cdv ct : Value) (us : List Value), us.length = (["top"] : List Str).length → bindArgs (PySem.W.fnOf "sign" "sign" (defArgs s_sign) (defBody s_sign) (defScope s_sign) .none kV doc pm an cdv ct) ⟨us, []⟩ = pure ((["top"] : List Str).zip us) := fun _ _ _ _ _ _ us hl => match us, hl with | [_], _ => rfl
theorem bi_is_integer : ∀ (kV doc pm : Value) (an : Option Addr) (cdv ct : Value) (us : List Value), us.length = (["value"] : List Str).length → bindArgs (PySem.W.fnOf "is_integer" "is_integer" (defArgs s_is_integer) (defBody s_is_integer) (defScope s_is_integer) .none kV doc pm an cdv ct) ⟨us, []⟩ = pure ((["value"] : List Str).zip us) := fun _ _ _ _ _ _ us hl => match us, hl with | [_], _ => rfl
theorem bi_is_within : ∀ (kV doc pm : Value) (an : Option Addr) (cdv ct : Value) (us : List Value), us.length = (["value", "least", "most"] : List Str).length → bindArgs (PySem.W.fnOf "is_within" "is_within" (defArgs s_is_within) (defBody s_is_within) (defScope s_is_within) .none kV doc pm an cdv ct) ⟨us, []⟩ = pure ((["value", "least", "most"] : List Str).zip us) := fun _ _ _ _ _ _ us hl => match us, hl with | [_, _, _], _ => rfl
theorem bi_is_row : ∀ (kV doc pm : Value) (an : Option Addr) (cdv ct : Value) (us : List Value), us.length = (["value"] : List Str).length → bindArgs (PySem.W.fnOf "is_row" "is_row" (defArgs s_is_row) (defBody s_is_row) (defScope s_is_row) .none kV doc pm an cdv ct) ⟨us, []⟩ = pure ((["value"] : List Str).zip us) := fun _ _ _ _ _ _ us hl => match us, hl with | [_], _ => rfl
theorem bi_is_pair : ∀ (kV doc pm : Value) (an : Option Addr) (cdv ct : Value) (us : List Value), us.length = (["value"] : List Str).length → bindArgs (PySem.W.fnOf "is_pair" "is_pair" (defArgs s_is_pair) (defBody s_is_pair) (defScope s_is_pair) .none kV doc pm an cdv ct) ⟨us, []⟩ = pure ((["value"] : List Str).zip us) := fun _ _ _ _ _ _ us hl => match us, hl with | [_], _ => rfl
theorem bi_is_number : ∀ (kV doc pm : Value) (an : Option Addr) (cdv ct : Value) (us : List Value), us.length = (["value"] : List Str).length → bindArgs (PySem.W.fnOf "is_number" "is_number" (defArgs s_is_number) (defBody s_is_number) (defScope s_is_number) .none kV doc pm an cdv ct) ⟨us, []⟩ = pure ((["value"] : List Str).zip us) := fun _ _ _ _ _ _ us hl => match us, hl with | [_], _ => rfl
theorem bi_number_in : ∀ (kV doc pm : Value) (an : Option Addr) (cdv ct : Value) (us : List Value), us.length = (["value", "part"] : List Str).length → bindArgs (PySem.W.fnOf "number_in" "number_in" (defArgs s_number_in) (defBody s_number_in) (defScope s_number_in) .none kV doc pm an cdv ct) ⟨us, []⟩ = pure ((["value", "part"] : List Str).zip us) := fun _ _ _ _ _ _ us hl => match us, hl with | [_, _], _ => rfl
theorem bi_plus : ∀ (kV doc pm : Value) (an : Option Addr) (cdv ct : Value) (us : List Value), us.length = (["one", "other"] : List Str).length → bindArgs (PySem.W.fnOf "plus" "plus" (defArgs s_plus) (defBody s_plus) (defScope s_plus) .none kV doc pm an cdv ct) ⟨us, []⟩ = pure ((["one", "other"] : List Str).zip us) := fun _ _ _ _ _ _ us hl => match us, hl with | [_, _], _ => rfl
theorem bi_minus : ∀ (kV doc pm : Value) (an : Option Addr) (cdv ct : Value) (us : List Value), us.length = (["one", "other"] : List Str).length → bindArgs (PySem.W.fnOf "minus" "minus" (defArgs s_minus) (defBody s_minus) (defScope s_minus) .none kV doc pm an cdv ct) ⟨us, []⟩ = pure ((["one", "other"] : List Str).zip us) := fun _ _ _ _ _ _ us hl => match us, hl with | [_, _], _ => rfl
theorem bi_times : ∀ (kV doc pm : Value) (an : Option Addr) (cdv ct : Value) (us : List Value), us.length = (["one", "other"] : List Str).length → bindArgs (PySem.W.fnOf "times" "times" (defArgs s_times) (defBody s_times) (defScope s_times) .none kV doc pm an cdv ct) ⟨us, []⟩ = pure ((["one", "other"] : List Str).zip us) := fun _ _ _ _ _ _ us hl => match us, hl with | [_, _], _ => rfl
theorem bi_over : ∀ (kV doc pm : Value) (an : Option Addr) (cdv ct : Value) (us : List Value), us.length = (["one", "other"] : List Str).length → bindArgs (PySem.W.fnOf "over" "over" (defArgs s_over) (defBody s_over) (defScope s_over) .none kV doc pm an cdv ct) ⟨us, []⟩ = pure ((["one", "other"] : List Str).zip us) := fun _ _ _ _ _ _ us hl => match us, hl with | [_, _], _ => rfl
theorem bi_is_less : ∀ (kV doc pm : Value) (an : Option Addr) (cdv ct : Value) (us : List Value), us.length = (["one", "other"] : List Str).length → bindArgs (PySem.W.fnOf "is_less" "is_less" (defArgs s_is_less) (defBody s_is_less) (defScope s_is_less) .none kV doc pm an cdv ct) ⟨us, []⟩ = pure ((["one", "other"] : List Str).zip us) := fun _ _ _ _ _ _ us hl => match us, hl with | [_, _], _ => rfl
theorem bi_sign_of : ∀ (kV doc pm : Value) (an : Option Addr) (cdv ct : Value) (us : List Value), us.length = (["value"] : List Str).length → bindArgs (PySem.W.fnOf "sign_of" "sign_of" (defArgs s_sign_of) (defBody s_sign_of) (defScope s_sign_of) .none kV doc pm an cdv ct) ⟨us, []⟩ = pure ((["value"] : List Str).zip us) := fun _ _ _ _ _ _ us hl => match us, hl with | [_], _ => rfl
theorem bi__law_urn : ∀ (kV doc pm : Value) (an : Option Addr) (cdv ct : Value) (us : List Value), us.length = (["script"] : List Str).length → bindArgs (PySem.W.fnOf "_law_urn" "_law_urn" (defArgs s__law_urn) (defBody s__law_urn) (defScope s__law_urn) .none kV doc pm an cdv ct) ⟨us, []⟩ = pure ((["script"] : List Str).zip us) := fun _ _ _ _ _ _ us hl => match us, hl with | [_], _ => rfl
theorem bi__law_spill : ∀ (kV doc pm : Value) (an : Option Addr) (cdv ct : Value) (us : List Value), us.length = (["urn", "many"] : List Str).length → bindArgs (PySem.W.fnOf "_law_spill" "_law_spill" (defArgs s__law_spill) (defBody s__law_spill) (defScope s__law_spill) .none kV doc pm an cdv ct) ⟨us, []⟩ = pure ((["urn", "many"] : List Str).zip us) := fun _ _ _ _ _ _ us hl => match us, hl with | [_, _], _ => rfl
theorem bi__law_one_of : ∀ (kV doc pm : Value) (an : Option Addr) (cdv ct : Value) (us : List Value), us.length = (["urn", "some"] : List Str).length → bindArgs (PySem.W.fnOf "_law_one_of" "_law_one_of" (defArgs s__law_one_of) (defBody s__law_one_of) (defScope s__law_one_of) .none kV doc pm an cdv ct) ⟨us, []⟩ = pure ((["urn", "some"] : List Str).zip us) := fun _ _ _ _ _ _ us hl => match us, hl with | [_, _], _ => rfl
theorem bi__law_shared : ∀ (kV doc pm : Value) (an : Option Addr) (cdv ct : Value) (us : List Value), us.length = (["one", "other"] : List Str).length → bindArgs (PySem.W.fnOf "_law_shared" "_law_shared" (defArgs s__law_shared) (defBody s__law_shared) (defScope s__law_shared) .none kV doc pm an cdv ct) ⟨us, []⟩ = pure ((["one", "other"] : List Str).zip us) := fun _ _ _ _ _ _ us hl => match us, hl with | [_, _], _ => rfl
theorem bi__law_size : ∀ (kV doc pm : Value) (an : Option Addr) (cdv ct : Value) (us : List Value), us.length = (["urn"] : List Str).length → bindArgs (PySem.W.fnOf "_law_size" "_law_size" (defArgs s__law_size) (defBody s__law_size) (defScope s__law_size) .none kV doc pm an cdv ct) ⟨us, []⟩ = pure ((["urn"] : List Str).zip us) := fun _ _ _ _ _ _ us hl => match us, hl with | [_], _ => rfl
theorem bi__law_drawn : ∀ (kV doc pm : Value) (an : Option Addr) (cdv ct : Value) (us : List Value), us.length = (["urn"] : List Str).length → bindArgs (PySem.W.fnOf "_law_drawn" "_law_drawn" (defArgs s__law_drawn) (defBody s__law_drawn) (defScope s__law_drawn) .none kV doc pm an cdv ct) ⟨us, []⟩ = pure ((["urn"] : List Str).zip us) := fun _ _ _ _ _ _ us hl => match us, hl with | [_], _ => rfl
theorem bi__law_passed : ∀ (kV doc pm : Value) (an : Option Addr) (cdv ct : Value) (us : List Value), us.length = (["urn", "pair"] : List Str).length → bindArgs (PySem.W.fnOf "_law_passed" "_law_passed" (defArgs s__law_passed) (defBody s__law_passed) (defScope s__law_passed) .none kV doc pm an cdv ct) ⟨us, []⟩ = pure ((["urn", "pair"] : List Str).zip us) := fun _ _ _ _ _ _ us hl => match us, hl with | [_, _], _ => rfl
theorem bi__law_is_pair : ∀ (kV doc pm : Value) (an : Option Addr) (cdv ct : Value) (us : List Value), us.length = (["value", "top", "under"] : List Str).length → bindArgs (PySem.W.fnOf "_law_is_pair" "_law_is_pair" (defArgs s__law_is_pair) (defBody s__law_is_pair) (defScope s__law_is_pair) .none kV doc pm an cdv ct) ⟨us, []⟩ = pure ((["value", "top", "under"] : List Str).zip us) := fun _ _ _ _ _ _ us hl => match us, hl with | [_, _, _], _ => rfl
theorem bi__law_done : ∀ (kV doc pm : Value) (an : Option Addr) (cdv ct : Value) (us : List Value), us.length = (["way", "one", "other"] : List Str).length → bindArgs (PySem.W.fnOf "_law_done" "_law_done" (defArgs s__law_done) (defBody s__law_done) (defScope s__law_done) .none kV doc pm an cdv ct) ⟨us, []⟩ = pure ((["way", "one", "other"] : List Str).zip us) := fun _ _ _ _ _ _ us hl => match us, hl with | [_, _, _], _ => rfl
theorem bi__law_part : ∀ (kV doc pm : Value) (an : Option Addr) (cdv ct : Value) (us : List Value), us.length = (["way", "one", "other"] : List Str).length → bindArgs (PySem.W.fnOf "_law_part" "_law_part" (defArgs s__law_part) (defBody s__law_part) (defScope s__law_part) .none kV doc pm an cdv ct) ⟨us, []⟩ = pure ((["way", "one", "other"] : List Str).zip us) := fun _ _ _ _ _ _ us hl => match us, hl with | [_, _, _], _ => rfl
theorem bi__law_sums_right : ∀ (kV doc pm : Value) (an : Option Addr) (cdv ct : Value) (us : List Value), us.length = (["urn"] : List Str).length → bindArgs (PySem.W.fnOf "_law_sums_right" "_law_sums_right" (defArgs s__law_sums_right) (defBody s__law_sums_right) (defScope s__law_sums_right) .none kV doc pm an cdv ct) ⟨us, []⟩ = pure ((["urn"] : List Str).zip us) := fun _ _ _ _ _ _ us hl => match us, hl with | [_], _ => rfl
theorem bi__law_made_right : ∀ (kV doc pm : Value) (an : Option Addr) (cdv ct : Value) (us : List Value), us.length = (["urn"] : List Str).length → bindArgs (PySem.W.fnOf "_law_made_right" "_law_made_right" (defArgs s__law_made_right) (defBody s__law_made_right) (defScope s__law_made_right) .none kV doc pm an cdv ct) ⟨us, []⟩ = pure ((["urn"] : List Str).zip us) := fun _ _ _ _ _ _ us hl => match us, hl with | [_], _ => rfl
theorem bi_law : ∀ (kV doc pm : Value) (an : Option Addr) (cdv ct : Value) (us : List Value), us.length = (["script"] : List Str).length → bindArgs (PySem.W.fnOf "law" "law" (defArgs s_law) (defBody s_law) (defScope s_law) .none kV doc pm an cdv ct) ⟨us, []⟩ = pure ((["script"] : List Str).zip us) := fun _ _ _ _ _ _ us hl => match us, hl with | [_], _ => rfl
end Odd
open PySem PySem.W PyProof.Rows
set_option maxHeartbeats 0 in
theorem PySem.Challenge.cw_oddsquares_k01_numbers_in_lowest_terms_holds : PySem.Challenge.rw_oddsquares_k01_numbers_in_lowest_terms.Holds := by
  w_on; o_law; k_head; (case hw => w_witness2)
  k_fill
  refine L2.walk_of (l := PySem.Challenge.rw_oddsquares_k01_numbers_in_lowest_terms) (n := 63) (k := 9) (x := "script") (CX := fun _ => L2.CX0) (sp := fun w => Odd.spLaw _) rfl (by decide) rfl ⟨rfl, by decide, by decide⟩ (fun w h Y => PySem.W.kIn_of Y) ?F (fun _ _ a ns hl _ hS => ⟨a, ns, rfl, hS, hl, fun _ => rfl⟩) (fun _ _ _ _ _ h => h)
  case F =>
    intro w mg fa h KX G hmg
    obtain ⟨f_lowest, d_lowest, D_lowest⟩ : ∃ f fd, Odd.DefOk _ mg "lowest" Odd.s_lowest f fd _ := by
      refine' Odd.def_mk KX G Odd.bi_lowest ?a_lowest ?l_lowest ?c_lowest ?k_lowest
      (case a_lowest => k_is); (case l_lowest => k_is); (case c_lowest => k_is); (case k_lowest => k_is)
    obtain ⟨f_pair_of, d_pair_of, D_pair_of⟩ : ∃ f fd, Odd.DefOk _ mg "pair_of" Odd.s_pair_of f fd _ := by
      refine' Odd.def_mk KX G Odd.bi_pair_of ?a_pair_of ?l_pair_of ?c_pair_of ?k_pair_of
      (case a_pair_of => k_is); (case l_pair_of => k_is); (case c_pair_of => k_is); (case k_pair_of => k_is)
    obtain ⟨f_sum_of, d_sum_of, D_sum_of⟩ : ∃ f fd, Odd.DefOk _ mg "sum_of" Odd.s_sum_of f fd _ := by
      refine' Odd.def_mk KX G Odd.bi_sum_of ?a_sum_of ?l_sum_of ?c_sum_of ?k_sum_of
      (case a_sum_of => k_is); (case l_sum_of => k_is); (case c_sum_of => k_is); (case k_sum_of => k_is)
    obtain ⟨f_difference, d_difference, D_difference⟩ : ∃ f fd, Odd.DefOk _ mg "difference" Odd.s_difference f fd _ := by
      refine' Odd.def_mk KX G Odd.bi_difference ?a_difference ?l_difference ?c_difference ?k_difference
      (case a_difference => k_is); (case l_difference => k_is); (case c_difference => k_is); (case k_difference => k_is)
    obtain ⟨f_product_of, d_product_of, D_product_of⟩ : ∃ f fd, Odd.DefOk _ mg "product_of" Odd.s_product_of f fd _ := by
      refine' Odd.def_mk KX G Odd.bi_product_of ?a_product_of ?l_product_of ?c_product_of ?k_product_of
      (case a_product_of => k_is); (case l_product_of => k_is); (case c_product_of => k_is); (case k_product_of => k_is)
    obtain ⟨f_quotient, d_quotient, D_quotient⟩ : ∃ f fd, Odd.DefOk _ mg "quotient" Odd.s_quotient f fd _ := by
      refine' Odd.def_mk KX G Odd.bi_quotient ?a_quotient ?l_quotient ?c_quotient ?k_quotient
      (case a_quotient => k_is); (case l_quotient => k_is); (case c_quotient => k_is); (case k_quotient => k_is)
    obtain ⟨f_is_below, d_is_below, D_is_below⟩ : ∃ f fd, Odd.DefOk _ mg "is_below" Odd.s_is_below f fd _ := by
      refine' Odd.def_mk KX G Odd.bi_is_below ?a_is_below ?l_is_below ?c_is_below ?k_is_below
      (case a_is_below => k_is); (case l_is_below => k_is); (case c_is_below => k_is); (case k_is_below => k_is)
    obtain ⟨f_sign, d_sign, D_sign⟩ : ∃ f fd, Odd.DefOk _ mg "sign" Odd.s_sign f fd _ := by
      refine' Odd.def_mk KX G Odd.bi_sign ?a_sign ?l_sign ?c_sign ?k_sign
      (case a_sign => k_is); (case l_sign => k_is); (case c_sign => k_is); (case k_sign => k_is)
    obtain ⟨f_is_integer, d_is_integer, D_is_integer⟩ : ∃ f fd, Odd.DefOk _ mg "is_integer" Odd.s_is_integer f fd _ := by
      refine' Odd.def_mk KX G Odd.bi_is_integer ?a_is_integer ?l_is_integer ?c_is_integer ?k_is_integer
      (case a_is_integer => k_is); (case l_is_integer => k_is); (case c_is_integer => k_is); (case k_is_integer => k_is)
    obtain ⟨f_is_within, d_is_within, D_is_within⟩ : ∃ f fd, Odd.DefOk _ mg "is_within" Odd.s_is_within f fd _ := by
      refine' Odd.def_mk KX G Odd.bi_is_within ?a_is_within ?l_is_within ?c_is_within ?k_is_within
      (case a_is_within => k_is); (case l_is_within => k_is); (case c_is_within => k_is); (case k_is_within => k_is)
    obtain ⟨f_is_row, d_is_row, D_is_row⟩ : ∃ f fd, Odd.DefOk _ mg "is_row" Odd.s_is_row f fd _ := by
      refine' Odd.def_mk KX G Odd.bi_is_row ?a_is_row ?l_is_row ?c_is_row ?k_is_row
      (case a_is_row => k_is); (case l_is_row => k_is); (case c_is_row => k_is); (case k_is_row => k_is)
    obtain ⟨f_is_pair, d_is_pair, D_is_pair⟩ : ∃ f fd, Odd.DefOk _ mg "is_pair" Odd.s_is_pair f fd _ := by
      refine' Odd.def_mk KX G Odd.bi_is_pair ?a_is_pair ?l_is_pair ?c_is_pair ?k_is_pair
      (case a_is_pair => k_is); (case l_is_pair => k_is); (case c_is_pair => k_is); (case k_is_pair => k_is)
    obtain ⟨f_is_number, d_is_number, D_is_number⟩ : ∃ f fd, Odd.DefOk _ mg "is_number" Odd.s_is_number f fd _ := by
      refine' Odd.def_mk KX G Odd.bi_is_number ?a_is_number ?l_is_number ?c_is_number ?k_is_number
      (case a_is_number => k_is); (case l_is_number => k_is); (case c_is_number => k_is); (case k_is_number => k_is)
    obtain ⟨f_number_in, d_number_in, D_number_in⟩ : ∃ f fd, Odd.DefOk _ mg "number_in" Odd.s_number_in f fd _ := by
      refine' Odd.def_mk KX G Odd.bi_number_in ?a_number_in ?l_number_in ?c_number_in ?k_number_in
      (case a_number_in => k_is); (case l_number_in => k_is); (case c_number_in => k_is); (case k_number_in => k_is)
    obtain ⟨f_plus, d_plus, D_plus⟩ : ∃ f fd, Odd.DefOk _ mg "plus" Odd.s_plus f fd _ := by
      refine' Odd.def_mk KX G Odd.bi_plus ?a_plus ?l_plus ?c_plus ?k_plus
      (case a_plus => k_is); (case l_plus => k_is); (case c_plus => k_is); (case k_plus => k_is)
    obtain ⟨f_minus, d_minus, D_minus⟩ : ∃ f fd, Odd.DefOk _ mg "minus" Odd.s_minus f fd _ := by
      refine' Odd.def_mk KX G Odd.bi_minus ?a_minus ?l_minus ?c_minus ?k_minus
      (case a_minus => k_is); (case l_minus => k_is); (case c_minus => k_is); (case k_minus => k_is)
    obtain ⟨f_times, d_times, D_times⟩ : ∃ f fd, Odd.DefOk _ mg "times" Odd.s_times f fd _ := by
      refine' Odd.def_mk KX G Odd.bi_times ?a_times ?l_times ?c_times ?k_times
      (case a_times => k_is); (case l_times => k_is); (case c_times => k_is); (case k_times => k_is)
    obtain ⟨f_over, d_over, D_over⟩ : ∃ f fd, Odd.DefOk _ mg "over" Odd.s_over f fd _ := by
      refine' Odd.def_mk KX G Odd.bi_over ?a_over ?l_over ?c_over ?k_over
      (case a_over => k_is); (case l_over => k_is); (case c_over => k_is); (case k_over => k_is)
    obtain ⟨f_is_less, d_is_less, D_is_less⟩ : ∃ f fd, Odd.DefOk _ mg "is_less" Odd.s_is_less f fd _ := by
      refine' Odd.def_mk KX G Odd.bi_is_less ?a_is_less ?l_is_less ?c_is_less ?k_is_less
      (case a_is_less => k_is); (case l_is_less => k_is); (case c_is_less => k_is); (case k_is_less => k_is)
    obtain ⟨f_sign_of, d_sign_of, D_sign_of⟩ : ∃ f fd, Odd.DefOk _ mg "sign_of" Odd.s_sign_of f fd _ := by
      refine' Odd.def_mk KX G Odd.bi_sign_of ?a_sign_of ?l_sign_of ?c_sign_of ?k_sign_of
      (case a_sign_of => k_is); (case l_sign_of => k_is); (case c_sign_of => k_is); (case k_sign_of => k_is)
    obtain ⟨f__law_urn, d__law_urn, D__law_urn⟩ : ∃ f fd, Odd.DefOk _ mg "_law_urn" Odd.s__law_urn f fd _ := by
      refine' Odd.def_mk KX G Odd.bi__law_urn ?a__law_urn ?l__law_urn ?c__law_urn ?k__law_urn
      (case a__law_urn => k_is); (case l__law_urn => k_is); (case c__law_urn => k_is); (case k__law_urn => k_is)
    obtain ⟨f__law_spill, d__law_spill, D__law_spill⟩ : ∃ f fd, Odd.DefOk _ mg "_law_spill" Odd.s__law_spill f fd _ := by
      refine' Odd.def_mk KX G Odd.bi__law_spill ?a__law_spill ?l__law_spill ?c__law_spill ?k__law_spill
      (case a__law_spill => k_is); (case l__law_spill => k_is); (case c__law_spill => k_is); (case k__law_spill => k_is)
    obtain ⟨f__law_one_of, d__law_one_of, D__law_one_of⟩ : ∃ f fd, Odd.DefOk _ mg "_law_one_of" Odd.s__law_one_of f fd _ := by
      refine' Odd.def_mk KX G Odd.bi__law_one_of ?a__law_one_of ?l__law_one_of ?c__law_one_of ?k__law_one_of
      (case a__law_one_of => k_is); (case l__law_one_of => k_is); (case c__law_one_of => k_is); (case k__law_one_of => k_is)
    obtain ⟨f__law_shared, d__law_shared, D__law_shared⟩ : ∃ f fd, Odd.DefOk _ mg "_law_shared" Odd.s__law_shared f fd _ := by
      refine' Odd.def_mk KX G Odd.bi__law_shared ?a__law_shared ?l__law_shared ?c__law_shared ?k__law_shared
      (case a__law_shared => k_is); (case l__law_shared => k_is); (case c__law_shared => k_is); (case k__law_shared => k_is)
    obtain ⟨f__law_size, d__law_size, D__law_size⟩ : ∃ f fd, Odd.DefOk _ mg "_law_size" Odd.s__law_size f fd _ := by
      refine' Odd.def_mk KX G Odd.bi__law_size ?a__law_size ?l__law_size ?c__law_size ?k__law_size
      (case a__law_size => k_is); (case l__law_size => k_is); (case c__law_size => k_is); (case k__law_size => k_is)
    obtain ⟨f__law_drawn, d__law_drawn, D__law_drawn⟩ : ∃ f fd, Odd.DefOk _ mg "_law_drawn" Odd.s__law_drawn f fd _ := by
      refine' Odd.def_mk KX G Odd.bi__law_drawn ?a__law_drawn ?l__law_drawn ?c__law_drawn ?k__law_drawn
      (case a__law_drawn => k_is); (case l__law_drawn => k_is); (case c__law_drawn => k_is); (case k__law_drawn => k_is)
    obtain ⟨f__law_passed, d__law_passed, D__law_passed⟩ : ∃ f fd, Odd.DefOk _ mg "_law_passed" Odd.s__law_passed f fd _ := by
      refine' Odd.def_mk KX G Odd.bi__law_passed ?a__law_passed ?l__law_passed ?c__law_passed ?k__law_passed
      (case a__law_passed => k_is); (case l__law_passed => k_is); (case c__law_passed => k_is); (case k__law_passed => k_is)
    obtain ⟨f__law_is_pair, d__law_is_pair, D__law_is_pair⟩ : ∃ f fd, Odd.DefOk _ mg "_law_is_pair" Odd.s__law_is_pair f fd _ := by
      refine' Odd.def_mk KX G Odd.bi__law_is_pair ?a__law_is_pair ?l__law_is_pair ?c__law_is_pair ?k__law_is_pair
      (case a__law_is_pair => k_is); (case l__law_is_pair => k_is); (case c__law_is_pair => k_is); (case k__law_is_pair => k_is)
    obtain ⟨f__law_done, d__law_done, D__law_done⟩ : ∃ f fd, Odd.DefOk _ mg "_law_done" Odd.s__law_done f fd _ := by
      refine' Odd.def_mk KX G Odd.bi__law_done ?a__law_done ?l__law_done ?c__law_done ?k__law_done
      (case a__law_done => k_is); (case l__law_done => k_is); (case c__law_done => k_is); (case k__law_done => k_is)
    obtain ⟨f__law_part, d__law_part, D__law_part⟩ : ∃ f fd, Odd.DefOk _ mg "_law_part" Odd.s__law_part f fd _ := by
      refine' Odd.def_mk KX G Odd.bi__law_part ?a__law_part ?l__law_part ?c__law_part ?k__law_part
      (case a__law_part => k_is); (case l__law_part => k_is); (case c__law_part => k_is); (case k__law_part => k_is)
    obtain ⟨f__law_sums_right, d__law_sums_right, D__law_sums_right⟩ : ∃ f fd, Odd.DefOk _ mg "_law_sums_right" Odd.s__law_sums_right f fd _ := by
      refine' Odd.def_mk KX G Odd.bi__law_sums_right ?a__law_sums_right ?l__law_sums_right ?c__law_sums_right ?k__law_sums_right
      (case a__law_sums_right => k_is); (case l__law_sums_right => k_is); (case c__law_sums_right => k_is); (case k__law_sums_right => k_is)
    obtain ⟨f__law_made_right, d__law_made_right, D__law_made_right⟩ : ∃ f fd, Odd.DefOk _ mg "_law_made_right" Odd.s__law_made_right f fd _ := by
      refine' Odd.def_mk KX G Odd.bi__law_made_right ?a__law_made_right ?l__law_made_right ?c__law_made_right ?k__law_made_right
      (case a__law_made_right => k_is); (case l__law_made_right => k_is); (case c__law_made_right => k_is); (case k__law_made_right => k_is)
    obtain ⟨f_law, d_law, D_law⟩ : ∃ f fd, Odd.DefOk _ mg "law" Odd.s_law f fd _ := by
      refine' Odd.def_mk KX G Odd.bi_law ?a_law ?l_law ?c_law ?k_law
      (case a_law => k_is); (case l_law => k_is); (case c_law => k_is); (case k_law => k_is)
    obtain ⟨c_BadNumber, i_BadNumber, L_BadNumber⟩ : ∃ C fI, PySem.LowX.LowTxt "BadNumber" "BadNumber.__init__" _ mg C fI := by
      refine' Odd.low_mk KX G ?aC_BadNumber ?xL_BadNumber ?sa_BadNumber ?ga_BadNumber ?gg_BadNumber ?nb_BadNumber ?a1_BadNumber ?t1_BadNumber ?l1_BadNumber ?c1_BadNumber ?kC_BadNumber ?eC_BadNumber ?tC_BadNumber ?hC_BadNumber ?iC_BadNumber ?sC_BadNumber
      (case aC_BadNumber => k_is); (case xL_BadNumber => k_is); (case sa_BadNumber => k_is); (case ga_BadNumber => k_is); (case gg_BadNumber => k_is); (case nb_BadNumber => k_is)
      (case a1_BadNumber => k_is); (case t1_BadNumber => k_is); (case l1_BadNumber => k_is); (case c1_BadNumber => k_is)
      (case kC_BadNumber => k_is); (case eC_BadNumber => k_is); (case tC_BadNumber => k_is); (case hC_BadNumber => k_is); (case iC_BadNumber => k_is); (case sC_BadNumber => first | rfl | k_is)
    obtain ⟨f_number, d_number, D_number⟩ : ∃ f fd, Odd.DefOkD _ mg f fd := by
      refine' Odd.number_mk KX G ?na ?nl ?nc ?nk ?nlT
      (case na => k_is); (case nl => k_is); (case nc => k_is); (case nk => k_is); (case nlT => k_is)
    have n_len : mg "len" = none := by
      refine' PySem.W.mg_none_of KX G ?z_len
      (case z_len => k_is)
    have n_abs : mg "abs" = none := by
      refine' PySem.W.mg_none_of KX G ?z_abs
      (case z_abs => k_is)
    have n_repr : mg "repr" = none := by
      refine' PySem.W.mg_none_of KX G ?z_repr
      (case z_repr => k_is)
    have n_isinstance : mg "isinstance" = none := by
      refine' PySem.W.mg_none_of KX G ?z_isinstance
      (case z_isinstance => k_is)
    have n_int : mg "int" = none := by
      refine' PySem.W.mg_none_of KX G ?z_int
      (case z_int => k_is)
    have n_bool : mg "bool" = none := by
      refine' PySem.W.mg_none_of KX G ?z_bool
      (case z_bool => k_is)
    have n_list : mg "list" = none := by
      refine' PySem.W.mg_none_of KX G ?z_list
      (case z_list => k_is)
    have n_tuple : mg "tuple" = none := by
      refine' PySem.W.mg_none_of KX G ?z_tuple
      (case z_tuple => k_is)
    have n_range : mg "range" = none := by
      refine' PySem.W.mg_none_of KX G ?z_range
      (case z_range => k_is)
    have g_gcd : mg "gcd" = some (.builtin "math.gcd") := by
      refine' PySem.W.mg_of KX G ?z_gcd
      (case z_gcd => k_is)
    have T : Odd.Txt _ mg ⟨f_lowest, d_lowest, f_pair_of, d_pair_of, f_sum_of, d_sum_of, f_difference, d_difference, f_product_of, d_product_of, f_quotient, d_quotient, f_is_below, d_is_below, f_sign, d_sign, f_is_integer, d_is_integer, f_is_within, d_is_within, f_is_row, d_is_row, f_is_pair, d_is_pair, f_is_number, d_is_number, f_number_in, d_number_in, f_number, d_number, f_plus, d_plus, f_minus, d_minus, f_times, d_times, f_over, d_over, f_is_less, d_is_less, f_sign_of, d_sign_of, f__law_urn, d__law_urn, f__law_spill, d__law_spill, f__law_one_of, d__law_one_of, f__law_shared, d__law_shared, f__law_size, d__law_size, f__law_drawn, d__law_drawn, f__law_passed, d__law_passed, f__law_is_pair, d__law_is_pair, f__law_done, d__law_done, f__law_part, d__law_part, f__law_sums_right, d__law_sums_right, f__law_made_right, d__law_made_right, f_law, d_law, c_BadNumber, i_BadNumber⟩ := ⟨D_lowest, D_pair_of, D_sum_of, D_difference, D_product_of, D_quotient, D_is_below, D_sign, D_is_integer, D_is_within, D_is_row, D_is_pair, D_is_number, D_number_in, D_plus, D_minus, D_times, D_over, D_is_less, D_sign_of, D__law_urn, D__law_spill, D__law_one_of, D__law_shared, D__law_size, D__law_drawn, D__law_passed, D__law_is_pair, D__law_done, D__law_part, D__law_sums_right, D__law_made_right, D_law, D_number, L_BadNumber, n_len, n_abs, n_repr, n_isinstance, n_int, n_bool, n_list, n_tuple, n_range, g_gcd⟩
    have e := hmg.symm.trans D_law.g
    cases e
    obtain ⟨oc, od, kV, doc, pm, an, cdv, ct, osl, rfl, lk, hcd⟩ := D_law.F.ex
    exact ⟨_, fun s v => .of_eq rfl, fun base _ _ => Odd.ok_law T⟩
#print axioms PySem.Challenge.cw_oddsquares_k01_numbers_in_lowest_terms_holds
