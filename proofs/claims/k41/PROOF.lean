import PyProof.Rows.All
import Wide.All
import OpenK.AllK
import Wide.FinOn
import HandS.Base
import HandS.Call
import HandS.List
import HandS.Comp
import HandS.Iter
import HandS.Text
import HandS.Words
import HandS.Codes
import PyProof.NoPylong
import PyProof.Fits
import Flt.Len
import KE.KMathG
import HandS.Gcd
import HandS.IsInst
import HandS.Zip
import HandS.Style
import HandS.Defaults
import HandS.MakeKwOnly
import PyProof.SumAny
import KE.DataMinMax
import HandS.TupAny
import HandS.RevRange
import HandS.TupMul
import HandS.Conv
import HandS.Sort
import HandS.More
import PyProof.Rows.TmSorted
import KE.KDictZip
import KE.KItemsList
import KE.KTurns
import HandS.ListItems
import HandS.Walk
import KE.SortData
import HandS.Deep
import HandS.WordsDict
import PyProof.Claim2Refuses
import HandS.DictTup
import HandS.SortKw
import HandS.DictComp
import HandS.TupLen
import HandS.Flow
import KE.DatumOrd
import HandS.TryMany
import HandS.ExcField
import HandS.ExcOwn
import HandS.Lambda
import HandS.CallSlots
import HandS.ExcInit
import HandS.ExcIs
import KE.KTypeName
import HandS.WordsExc
import KE.KNestM
import HandS.EndTab
import KE.KExcInit
import KE.KEqDict
import PySem.Challenge.RW_calmcuts_k41_neighbours_of_boxes
set_option Elab.async false
set_option linter.all false
set_option maxRecDepth 100000
namespace Cc
/-! ### parts as rationals -/
/-- sizes: |num| and den below 2^n -/
def Sz (n : Nat) (q : Rat) : Prop := q.num.natAbs < 2 ^ n ∧ q.den < 2 ^ n
theorem den_pos (q : Rat) : (0 : Int) < (q.den : Int) := by
  have := q.den_nz
  omega
theorem divInt_own (q : Rat) : Rat.divInt q.num q.den = q := by
  rw [Rat.divInt_ofNat]
  exact Rat.mkRat_self q
theorem dv_add (x y : Rat) : Rat.divInt (x.num * y.den + y.num * x.den) (x.den * y.den) = x + y := by
  have h := Rat.divInt_add_divInt x.num y.num (Int.ne_of_gt (den_pos x)) (Int.ne_of_gt (den_pos y))
  rw [divInt_own, divInt_own] at h
  exact h.symm
theorem dv_mul (x y : Rat) : Rat.divInt (x.num * y.num) (x.den * y.den) = x * y := by
  have h := Rat.divInt_mul_divInt x.num y.num (d₁ := x.den) (d₂ := y.den)
  rw [divInt_own, divInt_own] at h
  exact h.symm
theorem dv_sub (x y : Rat) : Rat.divInt (x.num * y.den - y.num * x.den) (x.den * y.den) = x - y := by
  have h := Rat.divInt_add_divInt x.num (-y.num) (Int.ne_of_gt (den_pos x)) (Int.ne_of_gt (den_pos y))
  rw [divInt_own, ← Rat.neg_divInt, divInt_own] at h
  rw [Rat.sub_eq_add_neg, h, Int.neg_mul, Int.sub_eq_add_neg]
theorem dv_div (x y : Rat) : Rat.divInt (x.num * y.den) (x.den * y.num) = x / y := by
  rw [Rat.div_def]
  have h := Rat.divInt_mul_divInt x.num y.den (d₁ := x.den) (d₂ := y.num)
  rw [divInt_own] at h
  rw [← h]
  congr 1
  rw [← Rat.inv_divInt, divInt_own]
theorem num_zero_iff (q : Rat) : q.num = 0 ↔ q = 0 := by
  constructor
  · intro h
    have := divInt_own q
    rw [h, Rat.zero_divInt] at this
    exact this.symm
  · rintro rfl
    rfl
theorem rat_ext {x y : Rat} (h1 : x.num = y.num) (h2 : x.den = y.den) : x = y := by
  rw [← divInt_own x, ← divInt_own y, h1, h2]
/-- x is a/c in lowest terms: what part(a, c) computes -/
theorem divInt_num_eq {a c : Int} (h : 0 < c) : (Rat.divInt a c).num = a / ((Int.gcd a c : Nat) : Int) ∧ ((Rat.divInt a c).den : Int) = c / ((Int.gcd a c : Nat) : Int) := by
  have hc : c = ((c.toNat : Nat) : Int) := by omega
  have h0 : c.toNat ≠ 0 := by omega
  rw [hc, Rat.divInt_ofNat]
  have e1 := Rat.num_mkRat a c.toNat
  have e2 := Rat.den_mkRat a c.toNat
  rw [if_neg h0] at e1 e2
  have eg : Int.gcd a ((c.toNat : Nat) : Int) = c.toNat.gcd a.natAbs := by
    rw [Int.gcd_eq_natAbs_gcd_natAbs, Int.natAbs_natCast, Nat.gcd_comm]
  rw [e1, e2, eg]
  exact ⟨rfl, by rw [Int.natCast_ediv]⟩
theorem divInt_num_neg {a c : Int} (h : c < 0) : (Rat.divInt a c).num = a.fdiv (-((Int.gcd a c : Nat) : Int)) ∧ ((Rat.divInt a c).den : Int) = c.fdiv (-((Int.gcd a c : Nat) : Int)) := by
  have g := divInt_num_eq (a := -a) (c := -c) (by omega)
  rw [Rat.neg_divInt_neg, Int.neg_gcd, Int.gcd_neg] at g
  have nf : ∀ x : Int, x.fdiv (-((Int.gcd a c : Nat) : Int)) = (-x) / ((Int.gcd a c : Nat) : Int) := fun x => by
    have h1 := Int.neg_fdiv_neg (-x) ((Int.gcd a c : Nat) : Int)
    rw [Int.neg_neg] at h1
    rw [h1, Int.fdiv_eq_ediv_of_nonneg _ (Int.natCast_nonneg _)]
  rw [nf, nf]
  exact g
theorem size_divInt {a c : Int} {n : Nat} (h : c ≠ 0) (ha : a.natAbs < 2 ^ n) (hc : c.natAbs < 2 ^ n) : Sz n (Rat.divInt a c) := by
  have key : ∀ {a c : Int}, 0 < c → a.natAbs < 2 ^ n → c.natAbs < 2 ^ n → Sz n (Rat.divInt a c) := by
    intro a c h ha hc
    obtain ⟨e1, e2⟩ := divInt_num_eq (a := a) h
    constructor
    · rw [e1]
      have hd : ((Int.gcd a c : Nat) : Int) ∣ a := Int.gcd_dvd_left ..
      rw [Int.natAbs_ediv_of_dvd hd, Int.natAbs_natCast]
      exact Nat.lt_of_le_of_lt (Nat.div_le_self _ _) ha
    · have e3 : (Rat.divInt a c).den = c.natAbs / Int.gcd a c := by
        have hd : ((Int.gcd a c : Nat) : Int) ∣ c := Int.gcd_dvd_right ..
        have e4 := congrArg Int.natAbs e2
        rw [Int.natAbs_natCast, Int.natAbs_ediv_of_dvd hd, Int.natAbs_natCast] at e4
        exact e4
      rw [e3]
      exact Nat.lt_of_le_of_lt (Nat.div_le_self _ _) hc
  rcases Int.lt_trichotomy c 0 with h1 | h1 | h1
  · rw [← Rat.neg_divInt_neg]
    exact key (by omega) (by omega) (by omega)
  · exact absurd h1 h
  · exact key h1 ha hc
theorem natAbs_add_lt {a b : Int} {m n : Nat} (ha : a.natAbs < 2 ^ m) (hb : b.natAbs < 2 ^ n) : (a + b).natAbs < 2 ^ (max m n + 1) := by
  have h1 : 2 ^ m ≤ 2 ^ max m n := Nat.pow_le_pow_right (by decide) (Nat.le_max_left ..)
  have h2 : 2 ^ n ≤ 2 ^ max m n := Nat.pow_le_pow_right (by decide) (Nat.le_max_right ..)
  rw [Nat.pow_succ]
  omega
theorem natAbs_sub_lt {a b : Int} {m n : Nat} (ha : a.natAbs < 2 ^ m) (hb : b.natAbs < 2 ^ n) : (a - b).natAbs < 2 ^ (max m n + 1) := by
  rw [Int.sub_eq_add_neg]
  exact natAbs_add_lt ha (by rw [Int.natAbs_neg]; exact hb)
theorem natAbs_mul_lt {a b : Int} {m n : Nat} (ha : a.natAbs < 2 ^ m) (hb : b.natAbs < 2 ^ n) : (a * b).natAbs < 2 ^ (m + n) := by
  rw [Int.natAbs_mul, Nat.pow_add]
  exact Nat.mul_lt_mul'' ha hb
theorem pow_mono_lt {a m n : Nat} (h : a < 2 ^ m) (hm : m ≤ n) : a < 2 ^ n := Nat.lt_of_lt_of_le h (Nat.pow_le_pow_right (by decide) hm)
theorem Sz.mono {m n : Nat} {q : Rat} (h : Sz m q) (hm : m ≤ n) : Sz n q := ⟨pow_mono_lt h.1 hm, pow_mono_lt h.2 hm⟩
theorem Sz.pos {n : Nat} {q : Rat} (h : Sz n q) : 0 < n := by
  have h1 := h.2
  have h2 := q.den_nz
  rcases Nat.eq_zero_or_pos n with h3 | h3
  · subst h3
    omega
  · exact h3
theorem sz_add {m n k : Nat} {x y : Rat} (hx : Sz m x) (hy : Sz n y) (h : m + n + 1 ≤ k) : Sz k (x + y) := by
  refine Sz.mono (m := m + n + 1) ?_ h
  rw [← dv_add]
  refine size_divInt ?_ ?_ ?_
  · have h1 := den_pos x
    have h2 := den_pos y
    exact Int.ne_of_gt (Int.mul_pos h1 h2)
  · have h1 := natAbs_add_lt (natAbs_mul_lt hx.1 (b := (y.den : Int)) (n := n) (by rw [Int.natAbs_natCast]; exact hy.2)) (natAbs_mul_lt hy.1 (b := (x.den : Int)) (n := m) (by rw [Int.natAbs_natCast]; exact hx.2))
    exact pow_mono_lt h1 (by omega)
  · exact pow_mono_lt (natAbs_mul_lt (a := (x.den : Int)) (b := (y.den : Int)) (m := m) (n := n) (by rw [Int.natAbs_natCast]; exact hx.2) (by rw [Int.natAbs_natCast]; exact hy.2)) (by omega)
theorem sz_neg {m : Nat} {x : Rat} (hx : Sz m x) : Sz m (-x) := by
  constructor
  · rw [Rat.neg_num, Int.natAbs_neg]
    exact hx.1
  · rw [Rat.neg_den]
    exact hx.2
theorem sz_sub {m n k : Nat} {x y : Rat} (hx : Sz m x) (hy : Sz n y) (h : m + n + 1 ≤ k) : Sz k (x - y) := by
  rw [Rat.sub_eq_add_neg]
  exact sz_add hx (sz_neg hy) h
theorem sz_mul {m n k : Nat} {x y : Rat} (hx : Sz m x) (hy : Sz n y) (h : m + n ≤ k) : Sz k (x * y) := by
  refine Sz.mono (m := m + n) ?_ h
  rw [← dv_mul]
  refine size_divInt ?_ ?_ ?_
  · exact Int.ne_of_gt (Int.mul_pos (den_pos x) (den_pos y))
  · exact natAbs_mul_lt hx.1 hy.1
  · exact natAbs_mul_lt (a := (x.den : Int)) (b := (y.den : Int)) (m := m) (n := n) (by rw [Int.natAbs_natCast]; exact hx.2) (by rw [Int.natAbs_natCast]; exact hy.2)
theorem sz_div {m n k : Nat} {x y : Rat} (hx : Sz m x) (hy : Sz n y) (h0 : y ≠ 0) (h : m + n ≤ k) : Sz k (x / y) := by
  refine Sz.mono (m := m + n) ?_ h
  rw [← dv_div]
  refine size_divInt ?_ ?_ ?_
  · have h1 : y.num ≠ 0 := fun z => h0 ((num_zero_iff y).mp z)
    exact Int.mul_ne_zero (Int.ne_of_gt (den_pos x)) h1
  · exact natAbs_mul_lt (b := (y.den : Int)) hx.1 (by rw [Int.natAbs_natCast]; exact hy.2)
  · exact natAbs_mul_lt (a := (x.den : Int)) (by rw [Int.natAbs_natCast]; exact hx.2) hy.1
theorem dv_cancel (x : Rat) {d : Int} (h : d ≠ 0) : Rat.divInt (x.num * d) (d * x.den) = x := by
  have e := Rat.divInt_mul_divInt x.num d (d₁ := x.den) (d₂ := d)
  rw [divInt_own, Rat.divInt_self' h, Rat.mul_one] at e
  rw [Int.mul_comm d, ← e]
theorem far_size {r e : Int} {k : Nat} (h0 : 0 ≤ r) (h1 : r < 1000 ^ k) (hk : k ≤ 20) (he : e = 0 ∨ e = 1) : ((r + 1) * (1 - 2 * e)).natAbs < 2 ^ 200 := by
  have h2 : (1000 : Int) ^ k ≤ 1000 ^ 20 := by
    have h := Nat.pow_le_pow_right (n := 1000) (by decide) hk
    have e : ∀ n : Nat, (1000 : Int) ^ n = ((1000 ^ n : Nat) : Int) := fun n => (Int.natCast_pow 1000 n).symm
    rw [e, e]
    exact Int.ofNat_le.mpr h
  have h3 : (1000 : Int) ^ 20 < 2 ^ 200 := by decide
  have h4 : (2 : Int) ^ 200 = ((2 ^ 200 : Nat) : Int) := by decide
  have h5 : r + 1 < ((2 ^ 200 : Nat) : Int) := by omega
  generalize (2 ^ 200 : Nat) = N at *
  rcases he with rfl | rfl
  · rw [show (1 - 2 * 0 : Int) = 1 by decide, Int.mul_one]
    omega
  · rw [show (1 - 2 * 1 : Int) = -1 by decide, Int.mul_neg, Int.mul_one]
    omega
theorem gcd_step (x y : Int) : Int.gcd y (x % y) = Int.gcd x y := by
  have h := Int.gcd_add_mul_left_right y (x % y) (x / y)
  rw [Int.emod_add_mul_ediv] at h
  rw [← h, Int.gcd_comm]
end Cc
namespace Cc
open PySem PySem.Spec PyProof.Rows L2
/-! ### operators of ints of any size -/
/-- // by a divisor of any sign, below 2 ^ 9000 -/
def CDivA (_ j : Int) : Prop := j ≠ 0 ∧ j.natAbs < 2 ^ 9000
/-- * : one factor small, or both together below a million bits -/
def CMulA (i j : Int) : Prop := CMul i j ∨ ∃ a b : Nat, i.natAbs < 2 ^ a ∧ j.natAbs < 2 ^ b ∧ a + b ≤ 900000
theorem CMulA.ok {i j : Int} (h : CMulA i j) : IntMulOk i j := by
  rcases h with h | ⟨a, b, ha, hb, hab⟩
  · exact h.ok
  · have ha' := pow_mono_lt ha (Nat.le_succ a)
    have hb' := pow_mono_lt hb (Nat.le_succ b)
    have x := PySem.Flt.log2_lt_of (Nat.succ_pos a) ha'
    have y := PySem.Flt.log2_lt_of (Nat.succ_pos b) hb'
    have bb : ∀ x : Int, Builtin.Int.intBits x ≤ x.natAbs.log2 + 1 := fun x => by
      unfold Builtin.Int.intBits
      split <;> omega
    have h1 := bb i
    have h2 := bb j
    have e : bitsLine = 134217728 := by decide
    unfold IntMulOk
    intro z
    rw [Bool.and_eq_true] at z
    have z2 := z.2
    unfold Builtin.Int.intTooBig at z2
    have z3 := of_decide_eq_true z2
    rw [e] at z3
    omega
section
variable {X : Cx}
theorem op_fdivA : OpR X (binaryOp .FloorDiv) (rI CDivA fun i j => .int (i.fdiv j)) := opI fun i j _ _ _ _ _ hc q =>
  floordiv_int hc.1 q (.inl (PyProof.noPylong_of_log2 (PySem.Flt.log2_lt_of (by decide) hc.2)))
theorem op_mulA : OpR X (binaryOp .Mult) (rI CMulA fun i j => .int (i * j)) := opI fun _ _ _ _ _ _ _ hc q => mul_int q hc.ok
end
theorem cmul_l {i j : Int} (h : -(2 ^ 64) < i ∧ i < 2 ^ 64) : CMulA i j := .inl (.inl h)
theorem cmul_r {i j : Int} (h : -(2 ^ 64) < j ∧ j < 2 ^ 64) : CMulA i j := .inl (.inr h)
theorem cmul_w {i j : Int} {a b : Nat} (ha : i.natAbs < 2 ^ a) (hb : j.natAbs < 2 ^ b) (h : a + b ≤ 900000) : CMulA i j := .inr ⟨a, b, ha, hb, h⟩
/-! ### a def of the program, by its name -/
/-- the def of that name keeps the promise -/
def DefOk (P : Program) (w : World) (K : PySem.W.Frag) (mg : Str → Option Value) (base : Heap) (k : Nat) (x : Str) (ps : List Str) (sp : Sp) : Prop :=
  ∃ f fd, FnOk P w K mg base CX0 k f fd ps sp ∧ mg x = some (.ref f) ∧ PySem.W.keepIn K (.ref f) = true ∧ Binds K fd ps []
/-- the def as the top has left it -/
def DefAt (K : PySem.W.Frag) (mg : Str → Option Value) (x : Str) (st : Stmt) (ps : List Str) : Prop :=
  ∃ f fd, Fun K x x st f fd ∧ mg x = some (.ref f) ∧ Binds K fd ps []
theorem defAt_mk {K : PySem.W.Frag} {mg : Str → Option Value} {h : Heap} {x : Str} {st : Stmt} {ps : List Str} (X : K.In h) (G : h.Ns mainGlobals mg) {f : Addr} {oc : Value} {od an : Option Addr} {osl : Array (Option Value)} {kV doc pm cdv ct : Value}
    (a : PySem.W.nsIn K mainGlobals x = some (some (.ref f))) (l : K.lookup f = some ⟨oc, od, .func (PySem.W.fnOf x x (defArgs st) (defBody st) (defScope st) .none kV doc pm an cdv ct), osl⟩) (c : PySem.W.codeIn K cdv x = true) (k : PySem.W.keepIn K (.ref f) = true)
    (hb : ∀ (kV doc pm : Value) (an : Option Addr) (cdv ct : Value) (us : List Value), us.length = ps.length → bindArgs (PySem.W.fnOf x x (defArgs st) (defBody st) (defScope st) .none kV doc pm an cdv ct) ⟨us, []⟩ = pure (ps.zip us)) : DefAt K mg x st ps :=
  ⟨f, _, fun_mk l c k, PySem.W.mg_of X G a, (fun_mk l c k).binds hb⟩
section
variable {X : Cx} {k j : Nat} {x : Str} {ps : List Str} {sp : Sp} {p pos : Pos} {e : Expr} {es : List Expr} {t : TA}
theorem pe_callD (D : DefOk X.prog X.w X.K X.mg X.base k x ps sp) (hr : Room j X.A) (hkj : k ≤ j) (hg : Gl X x) (ha : PA X (e :: es) t) (hdb : (x == ("__debug__" : Str)) = false := by decide)
    (he : starEach (e :: es) X.env = (false, eval e X.env) :: starEach es X.env := by rfl) (hpl : (backTo pos (starEach es X.env)).any (·.1) = false := by rfl) :
    PE X (.Call (.Name x p) (e :: es) [] pos) (tCall sp [] E0 t) := by
  obtain ⟨f, fd, F, hm, hk, hb⟩ := D
  exact pe_call F (hr.mono hkj) hg hm hk hb .nil pass0 ha hdb he hpl
end
theorem DefAt.ok {P : Program} {w : World} {K : PySem.W.Frag} {mg : Str → Option Value} {base : Heap} {x : Str} {st : Stmt} {N ps : List Str} {k : Nat} {sp : Sp} (F : DefAt K mg x st ps) (S : FnScope N ps (defScope st)) (len : ∀ vs H Q E, sp vs H Q E → vs.length = ps.length)
    (hbody : ∀ (f : Addr) (cdv : Value) (A : Around) (outer : List Env) (s : Shared) (H : Hp) (vs : List V) (Q : VK) (E : XK), Room k (A.deeper (envOfC x (defScope st) s.heap.objs.size f cdv)) → sp vs H Q E →
      ∃ t, PSs (cxOf CX0 P w K mg base N x (defScope st) f cdv A outer s H E).nox (defBody st) t ∧ t { nx := fun _ H' => Q .non H', rt := Q } (start N vs) H) : DefOk P w K mg base (k + 1) x ps sp := by
  obtain ⟨f, fd, F, hm, hb⟩ := F
  exact ⟨f, fd, F.ok S len (hbody f), hm, F.kp, hb⟩
/-! ### tests -/
theorem iteB {c : Bool} {A B : Prop} (h1 : c = true → A) (h2 : c = false → B) : if c = true then A else B := by
  cases c with
  | true => exact iteT (h1 rfl)
  | false => exact iteF (h2 rfl)
theorem iteD {c A B : Prop} {i : Decidable c} (h1 : c → A) (h2 : ¬ c → B) : if (@decide c i) = true then A else B := by
  by_cases h : c
  · rw [if_pos (decide_eq_true h)]
    exact h1 h
  · rw [if_neg (by rw [decide_eq_false h]; exact Bool.false_ne_true)]
    exact h2 h
theorem iteDT {c A B : Prop} {i : Decidable c} (h : c) (h1 : A) : if (@decide c i) = true then A else B := iteD (fun _ => h1) (fun z => absurd h z)
theorem iteDF {c A B : Prop} {i : Decidable c} (h : ¬ c) (h1 : B) : if (@decide c i) = true then A else B := iteD (fun z => absurd z h) (fun _ => h1)
/-! ### heaps -/
theorem same_new {H : Hp} {p : Addr} {o : HO} (h : H p = none) : Same H (upd H p o) := fun b x e => by
  rw [upd_ne (ne_of_none e h)]
  exact e
/-- all but what stands at b is as it was -/
def Kp (b : Addr) (H H' : Hp) : Prop := ∀ a o, H a = some o → a ≠ b → H' a = some o
theorem Kp.refl (b : Addr) (H : Hp) : Kp b H H := fun _ _ h _ => h
theorem Kp.trans {b : Addr} {H H1 H2 : Hp} (x : Kp b H H1) (y : Kp b H1 H2) : Kp b H H2 := fun a o h n => y a o (x a o h n) n
theorem Kp.of {b : Addr} {H H' : Hp} (h : Same H H') : Kp b H H' := fun a o e _ => h a o e
theorem Kp.upd {b : Addr} {H : Hp} {o : HO} : Kp b H (upd H b o) := fun a u e n => by
  rw [upd_ne n]
  exact e
/-- xs[k] = v, the heap behind it a letter -/
theorem setL_step {H : Hp} {p : Addr} {xs ys : List V} {k : Int} {j : Nat} {v : V} {Q : Hp → Prop} (hp : H p = some (.lst xs)) (hj : ixN xs.length k = some j) (hy : xs.set j v = ys) (h : ∀ H1, H1 p = some (.lst ys) → Kp p H H1 → Q H1) :
    rSetL (.ref p) (.int k) v H Q := ⟨p, xs, k, j, rfl, rfl, hp, hj, h _ (by rw [hy]; exact upd_same) Kp.upd⟩
/-! ### parts as they stand -/
section
variable {K : PySem.W.Frag} {H H' : Hp}
def PtV (K : PySem.W.Frag) (H : Hp) (v : V) (q : Rat) : Prop := ∃ a, v = .ref a ∧ SqT K H a [.int q.num, .int (q.den : Int)]
theorem seqT_same {a : Addr} {xs : List V} (e : Same H H') (h : SqT K H a xs) : SqT K H' a xs := by
  rcases h with (h | ⟨o, h⟩) | h
  · exact .inl (.inl (e _ _ h))
  · exact .inl (.inr ⟨o, e _ _ h⟩)
  · exact .inr h
theorem seqT_kp {b a : Addr} {xs ys : List V} (e : Kp b H H') (hb : H b = some (.lst ys)) (h : SqT K H a xs) : SqT K H' a xs := by
  rcases h with (h | ⟨o, h⟩) | h
  · exact .inl (.inl (e _ _ h (ne_of h hb (by intro z; cases z))))
  · exact .inl (.inr ⟨o, e _ _ h (ne_of h hb (by intro z; cases z))⟩)
  · exact .inr h
theorem PtV.same {v : V} {q : Rat} (h : PtV K H v q) (e : Same H H') : PtV K H' v q := by
  obtain ⟨a, rfl, h⟩ := h
  exact ⟨a, rfl, seqT_same e h⟩
theorem PtV.kp {b : Addr} {ys : List V} {v : V} {q : Rat} (h : PtV K H v q) (e : Kp b H H') (hb : H b = some (.lst ys)) : PtV K H' v q := by
  obtain ⟨a, rfl, h⟩ := h
  exact ⟨a, rfl, seqT_kp e hb h⟩
theorem PtV.new {p : Addr} {q : Rat} {a c : Int} (h1 : q.num = a) (h2 : (q.den : Int) = c) : PtV K (upd H p (.tup [.int a, .int c])) (.ref p) q := by
  refine ⟨p, rfl, SqT.of ?_⟩
  rw [upd_same, h1, h2]
def dPart (q : Rat) : PyData := .tuple [.int q.num, .int (q.den : Int)]
theorem PtV.dp {v : V} {q : Rat} (h : PtV K H v q) : Dp K H v (dPart q) := by
  obtain ⟨a, rfl, h⟩ := h
  exact .tup h (.cons (.int _) (.cons (.int _) .nil))
theorem dPart_shaped (q : Rat) : SeqAt.shaped (dPart q) = true := by
  rfl
theorem eqv_part (x y : Rat) : PyData.eqv (dPart x) (dPart y) = decide (x = y) := by
  show (x.num == y.num && ((x.den : Int) == (y.den : Int) && true)) = decide (x = y)
  by_cases h : x = y
  · subst h
    simp
  · rw [decide_eq_false h]
    by_cases h1 : x.num = y.num
    · have h2 : ¬ (x.den : Int) = (y.den : Int) := fun z => h (rat_ext h1 (by omega))
      simp [h2]
    · simp [h1]
end
/-! ### the bag of the law -/
/-- at b: the bag; the cells of the script, the place, the rest, the mixed number, the count -/
def Bag (H : Hp) (b : Addr) : Prop := ∃ (c : Addr) (ns : List Int) (p r x q : Int), H b = some (.lst [.ref c, .int p, .int r, .int x, .int q]) ∧ H c = some (.lst (ns.map V.int)) ∧ c ≠ b ∧ ns.length ≤ 63 ∧ 0 ≤ p ∧ 0 ≤ x ∧ x < 2147483629
theorem Bag.lst {H : Hp} {b : Addr} (h : Bag H b) : ∃ ys, H b = some (.lst ys) := by
  obtain ⟨c, ns, p, r, x, q, h, _⟩ := h
  exact ⟨_, h⟩
theorem Bag.same {H H' : Hp} {b : Addr} (h : Bag H b) (e : Same H H') : Bag H' b := by
  obtain ⟨c, ns, p, r, x, q, h1, h2, h3⟩ := h
  exact ⟨c, ns, p, r, x, q, e _ _ h1, e _ _ h2, h3⟩
theorem PtV.bag {K : PySem.W.Frag} {H H' : Hp} {b : Addr} {v : V} {q : Rat} (h : PtV K H v q) (e : Kp b H H') (hb : Bag H b) : PtV K H' v q := by
  obtain ⟨ys, hb⟩ := hb.lst
  exact h.kp e hb
theorem cut63 {xs : List V} (h : xs.length ≤ 63) : cutV xs none (some 63) = xs := by
  unfold cutV
  rw [HT.sIx_none, show HT.sIx xs.length xs.length (some 63) = min 63 xs.length from HT.sIx_nat xs.length xs.length 63, List.drop_zero, Nat.sub_zero]
  exact List.take_of_length_le (by omega)
theorem bag_ne {b L : Addr} (h : Bag H b) (n : H L = none) : L ≠ b := fun z => by
  obtain ⟨ys, e⟩ := h.lst
  rw [z, e] at n
  cases n
/-- the list at b begins with the address c -/
def Hd (H : Hp) (b c : Addr) : Prop := ∃ r, H b = some (.lst (.ref c :: r))
/-- all but what stands at b is as it was, and b begins as it did -/
structure KpG (b : Addr) (H H' : Hp) : Prop where
  k0 : Kp b H H'
  hd : ∀ c, Hd H b c → Hd H' b c
instance {b : Addr} {H H' : Hp} : Coe (KpG b H H') (Kp b H H') := ⟨KpG.k0⟩
instance {b : Addr} {H H' : Hp} : CoeFun (KpG b H H') (fun _ => ∀ a o, H a = some o → a ≠ b → H' a = some o) := ⟨KpG.k0⟩
theorem KpG.trans {b : Addr} {H H1 H2 : Hp} (x : KpG b H H1) (y : Kp b H1 H2) : Kp b H H2 := x.k0.trans y
theorem KpG.then {b : Addr} {H H1 H2 : Hp} (x : KpG b H H1) (y : KpG b H1 H2) : KpG b H H2 := ⟨x.k0.trans y.k0, fun c h => y.hd c (x.hd c h)⟩
theorem KpG.of {b : Addr} {H H' : Hp} (h : Same H H') : KpG b H H' := ⟨Kp.of h, fun _ ⟨r, e⟩ => ⟨r, h _ _ e⟩⟩
theorem KpG.put {b D : Addr} {H : Hp} {o : HO} (nD : H D = none) (H1 : Hp) (k : KpG b H H1) (hD : D ≠ b) : KpG b H (upd H1 D o) :=
  ⟨fun a u e n => by
    rw [upd_ne (ne_of_none e nD)]
    exact k.k0 a u e n, fun c h => by
    obtain ⟨r, e⟩ := k.hd c h
    exact ⟨r, by rw [upd_ne hD.symm]; exact e⟩⟩
theorem Bag.put {H : Hp} {b c D : Addr} {o : HO} (h : Bag H b) (hc : Hd H b c) (h1 : D ≠ b) (h2 : D ≠ c) : Bag (upd H D o) b := by
  obtain ⟨c', ns, p, r, x, q, e1, e2, e3⟩ := h
  obtain ⟨r', e⟩ := hc
  rw [e] at e1
  cases e1
  exact ⟨c, ns, p, r, x, q, by rw [upd_ne h1.symm]; exact e, by rw [upd_ne h2.symm]; exact e2, e3⟩
theorem Bag.hd {H : Hp} {b : Addr} (h : Bag H b) : ∃ c o, Hd H b c ∧ H c = some o := by
  obtain ⟨c, ns, p, r, x, q, e1, e2, e3⟩ := h
  exact ⟨c, _, ⟨_, e1⟩, e2⟩
/-- the bag, and where its cells stand -/
def BagC (H : Hp) (b cc : Addr) : Prop := Bag H b ∧ Hd H b cc ∧ ∃ o, H cc = some o
theorem BagC.kp {H H' : Hp} {b cc : Addr} (x : BagC H b cc) (k : KpG b H H') (hb : Bag H' b) : BagC H' b cc := by
  obtain ⟨h1, h2, o, h3⟩ := x
  refine ⟨hb, k.hd cc h2, ?_⟩
  obtain ⟨c', ns, p, r, x, q, e1, e2, e3, _⟩ := h1
  obtain ⟨r', e⟩ := h2
  rw [e] at e1
  cases e1
  exact ⟨o, k.k0 _ _ h3 e3⟩
theorem BagC.put {H : Hp} {b cc D : Addr} {o : HO} (x : BagC H b cc) (h1 : D ≠ b) (h2 : D ≠ cc) : BagC (upd H D o) b cc := by
  obtain ⟨a, c, u, d⟩ := x
  refine ⟨a.put c h1 h2, ?_, u, by rw [upd_ne h2.symm]; exact d⟩
  obtain ⟨r, e⟩ := c
  exact ⟨r, by rw [upd_ne h1.symm]; exact e⟩
theorem BagC.same {H H' : Hp} {b cc : Addr} (x : BagC H b cc) (e : Same H H') : BagC H' b cc := by
  obtain ⟨a, ⟨r, c⟩, u, d⟩ := x
  exact ⟨a.same e, ⟨r, e _ _ c⟩, u, e _ _ d⟩
theorem BagC.ne {H : Hp} {b cc D : Addr} (x : BagC H b cc) (n : H D = none) : D ≠ b ∧ D ≠ cc := by
  obtain ⟨a, ⟨r, c⟩, u, d⟩ := x
  exact ⟨fun z => (by rw [z, c] at n; cases n), fun z => (by rw [z, d] at n; cases n)⟩
theorem Bag.c {H : Hp} {b : Addr} (h : Bag H b) : ∃ cc, BagC H b cc := by
  obtain ⟨c, o, h1, h2⟩ := h.hd
  exact ⟨c, h, h1, o, h2⟩
theorem kp_none {c D : Addr} {H H2 : Hp} (k : Kp c H H2) (n : H2 D = none) (h : D ≠ c) : H D = none := by
  cases e : H D with
  | none => rfl
  | some o =>
    rw [k _ _ e h] at n
    cases n
theorem kp_put {c D : Addr} {H H2 : Hp} {o : HO} (k : Kp c H H2) (n : H D = none) : Kp c H (upd H2 D o) := fun b u e h => by
  rw [upd_ne (ne_of_none e n)]
  exact k b u e h
/-! ### the promises of the law's helpers -/
def spBag (K : PySem.W.Frag) : Sp := fun vs H Q _ => ∃ (a : Addr) (ns : List Int), vs = [.ref a] ∧ SqL K H a (ns.map V.int) ∧ ns.length ≤ 63 ∧ ∀ b H', H b = none → Same H H' → Bag H' b → Q (.ref b) H'
def spGet : Sp := fun vs H Q _ => ∃ (b : Addr) (m : Int), vs = [.ref b, .int m] ∧ Bag H b ∧ 0 < m ∧ m < 1073741824 ∧ ∀ r H', 0 ≤ r → r < m → Bag H' b → KpG b H H' → Q (.int r) H'
def spFar : Sp := fun vs H Q _ => ∃ (b : Addr) (k : Nat), vs = [.ref b, .int k] ∧ Bag H b ∧ k ≤ 300 ∧ ∀ (r : Int) H', 0 ≤ r → r < 1000 ^ k → Bag H' b → Kp b H H' → Q (.int r) H'
def spGcd : Sp := fun vs H Q _ => ∃ a c : Int, vs = [.int a, .int c] ∧ 0 ≤ a ∧ 0 ≤ c ∧ Q (.int (Int.gcd a c : Nat)) H
def spPart (K : PySem.W.Frag) : Sp := fun vs H Q _ => ∃ a c : Int, vs = [.int a, .int c] ∧ c ≠ 0 ∧ a.natAbs < 2 ^ 8000 ∧ c.natAbs < 2 ^ 8000 ∧ ∀ v H', Same H H' → PtV K H' v (Rat.divInt a c) → Q v H'
def spNumber : Sp := fun vs H Q _ => ∃ b : Addr, vs = [.ref b] ∧ Bag H b ∧ ∀ (r : Int) H', r.natAbs < 2 ^ 200 → Bag H' b → Kp b H H' → Q (.int r) H'
def spSomePart (K : PySem.W.Frag) : Sp := fun vs H Q _ => ∃ b : Addr, vs = [.ref b] ∧ Bag H b ∧ ∀ v q H', PtV K H' v q → Sz 201 q → Bag H' b → Kp b H H' → Q v H'
/-- two parts in, f of them out -/
@[irreducible] def spTwo (K : PySem.W.Frag) (C : Rat → Rat → Prop) (f : Rat → Rat → Rat) : Sp := fun vs H Q _ => ∃ (v w : V) (x y : Rat), vs = [v, w] ∧ PtV K H v x ∧ PtV K H w y ∧ Sz 3900 x ∧ Sz 3900 y ∧ C x y ∧ ∀ u H', Same H H' → PtV K H' u (f x y) → Q u H'
@[irreducible] def spLess (K : PySem.W.Frag) : Sp := fun vs H Q _ => ∃ (v w : V) (x y : Rat), vs = [v, w] ∧ PtV K H v x ∧ PtV K H w y ∧ Sz 3900 x ∧ Sz 3900 y ∧ ∀ r, r = V.bl (decide (x < y)) → Q r H
end Cc
namespace Cc
open PySem PySem.Spec PyProof.Rows L2
/-! ### steps of a reading -/
section
variable {K : PySem.W.Frag} {H : Hp} {v w : V} {x y : Rat} {Q : VK}
theorem two_step {C : Rat → Rat → Prop} {g : Rat → Rat → Rat} {m n : Nat} {vs : List V} {E : XK} (hv : PtV K H v x) (hw : PtV K H w y) (sx : Sz m x) (sy : Sz n y) (hm : m ≤ 3900) (hn : n ≤ 3900) (hc : C x y) (h : ∀ u H', Same H H' → PtV K H' u (g x y) → Q u H') (hvs : vs = [v, w] := by rfl) : spTwo K C g vs H Q E := by
  unfold spTwo
  exact ⟨v, w, x, y, hvs, hv, hw, sx.mono hm, sy.mono hn, hc, h⟩
theorem less_step {m n : Nat} {vs : List V} {E : XK} (hv : PtV K H v x) (hw : PtV K H w y) (sx : Sz m x) (sy : Sz n y) (hm : m ≤ 3900) (hn : n ≤ 3900) (h : Q (.bl (decide (x < y))) H) (hvs : vs = [v, w] := by rfl) : spLess K vs H Q E := by
  unfold spLess
  exact ⟨v, w, x, y, hvs, hv, hw, sx.mono hm, sy.mono hn, fun _ e => e ▸ h⟩
theorem neD_step (hv : PtV K H v x) (hw : PtV K H w y) (h : Q (.bl (!decide (x = y))) H) : rNeD K v w H Q :=
  ⟨_, _, hv.dp, hw.dp, dPart_shaped _, dPart_shaped _, by rw [eqv_part]; exact h⟩
theorem eqD_step (hv : PtV K H v x) (hw : PtV K H w y) (h : Q (.bl (decide (x = y))) H) : rEqD K v w H Q :=
  ⟨_, _, hv.dp, hw.dp, dPart_shaped _, dPart_shaped _, by rw [eqv_part]; exact h⟩
end
section
variable {X : Cx}
def rCntB (K : PySem.W.Frag) : V → List V → Hp → VK → Prop := fun x xs H Q => ∃ (p : Addr) (bs : List Bool) (k : Bool), x = .ref p ∧ xs = [.bl k] ∧ SqL K H p (bs.map V.bl) ∧ Q (.int (bs.count k : Nat)) H
theorem reads_bools (hp : Heap) : ∀ bs : List Bool, ∃ as, ReadsAll hp (bs.map Value.bool) (bs.map PyData.bool) as
  | [] => ⟨_, ReadsAll.nil⟩
  | b :: r => by
    obtain ⟨as, h⟩ := reads_bools hp r
    exact ⟨_, ReadsAll.cons (Reads.bool b) h⟩
theorem countIn_bools (k : Bool) : ∀ bs : List Bool, countIn (.bool k) (bs.map PyData.bool) = (bs.count k : Nat)
  | [] => rfl
  | b :: r => by
    have ih := countIn_bools k r
    rw [List.map_cons, countIn, ih, List.count_cons]
    cases b <;> cases k <;> simp [same] <;> omega
theorem mt_lcountB : MtR X "list.count" (rCntB X.K) := by
  intro pins s σ H x xs v us Q I rx rxs h
  obtain ⟨p, bs, k, rfl, rfl, hs, q⟩ := h
  cases rx
  obtain ⟨u, rfl, ru⟩ := rxs.one
  cases ru
  obtain ⟨its, rv, hl, hlen⟩ := I.list hs
  have hb := rv.bls
  obtain ⟨as, ra⟩ := reads_bools s.heap bs
  refine count_list_bools (xs := bs.map PyData.bool) hl.isList (by rw [hb]; exact ra) ?_ ?_
  · rw [List.all_map]
    exact List.all_eq_true.mpr fun b _ => by cases b <;> rfl
  · rw [countIn_bools]
    exact ⟨.int _, H, I.tok _, ⟨_, rfl⟩, q⟩
end
theorem sz_abs {n : Nat} {x : Rat} (h : Sz n x) : x.num.natAbs < 2 ^ n ∧ ((x.den : Nat) : Int).natAbs < 2 ^ n := ⟨h.1, by rw [Int.natAbs_natCast]; exact h.2⟩
def spLaw (K : PySem.W.Frag) : Sp := fun vs H Q _ => ∃ (a : Addr) (ns : List Int), vs = [.ref a] ∧ SqL K H a (ns.map V.int) ∧ ns.length ≤ 63 ∧ ∀ H', Q (.bl true) H'
end Cc
namespace Cc
open PySem PySem.Spec PyProof.Rows L2
/-! ### data that stand still -/
section
variable {K : PySem.W.Frag} {H H' : Hp}
theorem seqL_same {a : Addr} {xs : List V} (e : Same H H') (h : SqL K H a xs) : SqL K H' a xs := e.seq h
mutual
theorem Dp.mono (e : Same H H') : ∀ (d : PyData) (v : V), Dp K H v d → Dp K H' v d
  | .none, _, h => by cases h; exact .non
  | .bool b, _, h => by cases h; exact .bl b
  | .int i, _, h => by cases h; exact .int i
  | .str x, _, h => by cases h; exact .str x
  | .list ds, _, h => by
    cases h with
    | lst hs ha => exact .lst (seqL_same e hs) (Dp.monoAll e ds _ ha)
  | .tuple ds, _, h => by
    cases h with
    | tup hs ha => exact .tup (seqT_same e hs) (Dp.monoAll e ds _ ha)
  | .dict _, _, h => by cases h
theorem Dp.monoAll (e : Same H H') : ∀ (ds : List PyData) (vs : List V), DpAll K H vs ds → DpAll K H' vs ds
  | [], _, h => by cases h; exact .nil
  | d :: ds, _, h => by
    cases h with
    | cons h1 h2 => exact .cons (Dp.mono e d _ h1) (Dp.monoAll e ds _ h2)
end
theorem dpAll_len : ∀ {vs : List V} {ds : List PyData}, DpAll K H vs ds → vs.length = ds.length
  | _, _, .nil => rfl
  | _, _, .cons _ h => by rw [List.length_cons, List.length_cons, dpAll_len h]
theorem dpAll_get : ∀ {vs : List V} {ds : List PyData} (h : DpAll K H vs ds) {i : Nat} {v : V}, vs[i]? = some v → ∃ d, ds[i]? = some d ∧ Dp K H v d
  | _, _, .nil, i, v, e => by simp at e
  | _, _, .cons (d := d) h1 h2, 0, v, e => by
    cases e
    exact ⟨d, rfl, h1⟩
  | _, _, .cons h1 h2, i + 1, v, e => by
    rw [List.getElem?_cons_succ] at e
    obtain ⟨d, hd, h⟩ := dpAll_get h2 e
    exact ⟨d, by rw [List.getElem?_cons_succ]; exact hd, h⟩
/-! ### types of data -/
def tyN : PyData → String
  | .none => "NoneType"
  | .bool _ => "bool"
  | .int _ => "int"
  | .str _ => "str"
  | .list _ => "list"
  | .tuple _ => "tuple"
  | .dict _ => "dict"
theorem tyx_tup {a : Addr} {xs : List V} (h : SqT K H a xs) : TyX K H (.ref a) (.type "tuple") := by
  rcases h with (h | ⟨o, h⟩) | ⟨o, its, n, h1, h2, _⟩
  · exact .base (.tup h)
  · exact .fTuple h
  · exact .kTuple h1 h2
theorem tyx_lst {a : Addr} {xs : List V} (h : SqL K H a xs) : TyX K H (.ref a) (.type "list") := by
  rcases h with (h | ⟨o, h⟩) | ⟨o, its, n, h1, h2, _⟩
  · exact .base (.lst h)
  · exact .base (.frz h)
  · exact .kList h1 h2
theorem tyx_of {v : V} : ∀ {d : PyData}, Dp K H v d → TyX K H v (.type (tyN d))
  | _, .non => .base .non
  | _, .bl b => .base (.bl b)
  | _, .int i => .base (.int i)
  | _, .str x => .base (.str x)
  | _, .lst h _ => tyx_lst h
  | _, .tup h _ => tyx_tup h
@[irreducible] def rIsiI (K : PySem.W.Frag) : List V → Hp → VK → Prop := rIsi K
@[irreducible] def rIsiTI (K : PySem.W.Frag) : List V → Hp → VK → Prop := rIsiT K
theorem call_isiI {X : Cx} : CallR X (.builtin "isinstance") (rIsiI X.K) := by
  unfold rIsiI
  exact call_isi
theorem call_isiTI {X : Cx} : CallR X (.builtin "isinstance") (rIsiTI X.K) := by
  unfold rIsiTI
  exact call_isiT
/-- isinstance of one type, of a datum -/
theorem isi_step {v : V} {d : PyData} (t n : String) (b : Bool) {Q : VK} {vs : List V} (h : Dp K H v d) (ht : tyN d = t) (hk : kitB t n = some b) (q : Q (.bl b) H) (hvs : vs = [v, .ty n] := by rfl) : rIsiI K vs H Q := by
  unfold rIsiI
  exact ⟨v, .ty n, _, _, b, hvs, .ty n, tyx_of h, kit_ty (by rw [ht]; exact hk), q⟩
theorem isiT_step {v : V} {d : PyData} {t n m : String} {b c : Bool} {tp : Addr} {Q : VK} {vs : List V} (h : Dp K H v d) (ht : tyN d = t) (hT : H tp = some (.tup [.ty n, .ty m])) (hk : kitB t n = some b) (hk2 : kitB t m = some c) (q : Q (.bl (b || c)) H) (hvs : vs = [v, .ref tp] := by rfl) : rIsiTI K vs H Q := by
  unfold rIsiTI
  subst ht
  refine ⟨v, tp, [.ty n, .ty m], _, [.type n, .type m], b || c, hvs, hT, .cons (.ty n) (.cons (.ty m) .nil), tyx_of h, ?_, q⟩
  refine kitAny_cons (kit_ty hk) (fun e => ?_) (fun e => by rw [e]; rfl)
  subst e
  refine kitAny_cons (r := false || c) (kit_ty hk2) (fun e => ?_) (fun e => by rw [e]; rfl)
  subst e
  exact kitAny_nil
end
/-! ### the promise of _law_same -/
/-- the datum is less deep than n, its lists and tuples short -/
def dle : Nat → PyData → Bool
  | 0, _ => false
  | n + 1, .list ds => decide (ds.length ≤ 1000) && ds.all (dle n)
  | n + 1, .tuple ds => decide (ds.length ≤ 1000) && ds.all (dle n)
  | _ + 1, .dict _ => false
  | _ + 1, .str x => SeqAt.shaped (.str x)
  | _ + 1, _ => true
/-- two things of one datum are the same -/
@[irreducible] def spSame (K : PySem.W.Frag) (n : Nat) : Sp := fun vs H Q _ => ∃ (v w : V) (d : PyData), vs = [v, w] ∧ Dp K H v d ∧ Dp K H w d ∧ dle n d = true ∧ ∀ r H', Same H H' → r = V.bl true → Q r H'
theorem same_step {K : PySem.W.Frag} {H : Hp} {n : Nat} {v w : V} {d : PyData} {Q : VK} {E : XK} {vs : List V} (hv : Dp K H v d) (hw : Dp K H w d) (hd : dle n d = true) (q : ∀ H', Same H H' → Q (.bl true) H') (hvs : vs = [v, w] := by rfl) : spSame K n vs H Q E := by
  unfold spSame
  exact ⟨v, w, d, hvs, hv, hw, hd, fun r H' s e => by rw [e]; exact q H' s⟩
theorem fn_none {P : Program} {w : World} {K : PySem.W.Frag} {mg : Str → Option Value} {base : Heap} {f : Addr} {fd : FuncData} {ps : List Str} {sp : Sp} {k : Nat} (h : ∀ vs H Q E, ¬ sp vs H Q E) : FnOk P w K mg base CX0 k f fd ps sp :=
  ⟨fun vs H Q E z => absurd z (h vs H Q E), fun A outer s H args us vs Q E _ _ _ _ z => absurd z (h vs H Q E)⟩
theorem defOk_none {P : Program} {w : World} {K : PySem.W.Frag} {mg : Str → Option Value} {base : Heap} {x : Str} {st : Stmt} {ps : List Str} {sp : Sp} {k : Nat} (F : DefAt K mg x st ps) (h : ∀ vs H Q E, ¬ sp vs H Q E) : DefOk P w K mg base k x ps sp := by
  obtain ⟨f, fd, F, hm, hb⟩ := F
  exact ⟨f, fd, fn_none h, hm, F.kp, hb⟩
end Cc
namespace Cc
open PySem PySem.Spec PyProof.Rows L2
/-- a box of the mathematics -/
structure Bx where
  l : Rat
  t : Rat
  w : Rat
  h : Rat
structure Bx.Ok (n : Nat) (b : Bx) : Prop where
  w0 : 0 < b.w
  h0 : 0 < b.h
  sl : Sz n b.l
  st : Sz n b.t
  sw : Sz n b.w
  sh : Sz n b.h
theorem Bx.Ok.mono {m n : Nat} {b : Bx} (x : b.Ok m) (h : m ≤ n) : b.Ok n := ⟨x.w0, x.h0, x.sl.mono h, x.st.mono h, x.sw.mono h, x.sh.mono h⟩
section
variable {K : PySem.W.Frag} {H H' : Hp}
/-- a box as it stands: its tuple at a, its parts -/
def BxAt (K : PySem.W.Frag) (H : Hp) (a : Addr) (v1 v2 v3 v4 : V) (b : Bx) : Prop :=
  SqT K H a [v1, v2, v3, v4] ∧ PtV K H v1 b.l ∧ PtV K H v2 b.t ∧ PtV K H v3 b.w ∧ PtV K H v4 b.h
def BxV (K : PySem.W.Frag) (H : Hp) (v : V) (b : Bx) : Prop := ∃ a v1 v2 v3 v4, v = .ref a ∧ BxAt K H a v1 v2 v3 v4 b
theorem BxAt.same {a : Addr} {v1 v2 v3 v4 : V} {b : Bx} (x : BxAt K H a v1 v2 v3 v4 b) (e : Same H H') : BxAt K H' a v1 v2 v3 v4 b :=
  ⟨seqT_same e x.1, x.2.1.same e, x.2.2.1.same e, x.2.2.2.1.same e, x.2.2.2.2.same e⟩
theorem BxAt.bag {a c : Addr} {v1 v2 v3 v4 : V} {b : Bx} (x : BxAt K H a v1 v2 v3 v4 b) (e : Kp c H H') (hb : Bag H c) : BxAt K H' a v1 v2 v3 v4 b := by
  obtain ⟨ys, h⟩ := hb.lst
  exact ⟨seqT_kp e h x.1, x.2.1.kp e h, x.2.2.1.kp e h, x.2.2.2.1.kp e h, x.2.2.2.2.kp e h⟩
theorem BxV.same {v : V} {b : Bx} (x : BxV K H v b) (e : Same H H') : BxV K H' v b := by
  obtain ⟨a, v1, v2, v3, v4, rfl, x⟩ := x
  exact ⟨a, v1, v2, v3, v4, rfl, x.same e⟩
theorem BxV.bag {c : Addr} {v : V} {b : Bx} (x : BxV K H v b) (e : Kp c H H') (hb : Bag H c) : BxV K H' v b := by
  obtain ⟨a, v1, v2, v3, v4, rfl, x⟩ := x
  exact ⟨a, v1, v2, v3, v4, rfl, x.bag e hb⟩
theorem BxV.mk {p : Addr} {v1 v2 v3 v4 : V} {b : Bx} (np : H p = none) (h1 : PtV K H v1 b.l) (h2 : PtV K H v2 b.t) (h3 : PtV K H v3 b.w) (h4 : PtV K H v4 b.h) : BxV K (upd H p (.tup [v1, v2, v3, v4])) (.ref p) b :=
  ⟨p, v1, v2, v3, v4, rfl, SqT.of upd_same, h1.same (same_new np), h2.same (same_new np), h3.same (same_new np), h4.same (same_new np)⟩
def dBox (b : Bx) : PyData := .tuple [dPart b.l, dPart b.t, dPart b.w, dPart b.h]
theorem BxV.dp {v : V} {b : Bx} (x : BxV K H v b) : Dp K H v (dBox b) := by
  obtain ⟨a, v1, v2, v3, v4, rfl, h, h1, h2, h3, h4⟩ := x
  exact .tup h (.cons h1.dp (.cons h2.dp (.cons h3.dp (.cons h4.dp .nil))))
/-- a part that is whole -/
theorem ptv_int {p : Addr} (np : H p = none) (i : Int) : PtV K (upd H p (.tup [.int i, .int 1])) (.ref p) (i : Rat) := PtV.new rfl rfl
end
/-- a name of the module that holds nought -/
def NoughtAt (K : PySem.W.Frag) (mg : Str → Option Value) : Prop := ∃ a, mg "NOUGHT" = some (.ref a) ∧ ∀ H, PtV K H (.ref a) 0
theorem nought_mk {K : PySem.W.Frag} {mg : Str → Option Value} {h : Heap} (X : K.In h) (G : h.Ns mainGlobals mg) {a : Addr} {dd : Option Addr} {n : Nat} {t u : Tok} {sl : Array (Option Value)}
    (e : PySem.W.nsIn K mainGlobals "NOUGHT" = some (some (.ref a))) (l : K.lookup a = some ⟨.type "tuple", dd, .seq #[.int 0 t, .int 1 u] n, sl⟩) : NoughtAt K mg :=
  ⟨a, PySem.W.mg_of X G e, fun _ => ⟨a, rfl, .inr ⟨_, _, _, l, rfl, rfl, (show 2 ≤ sizeLine by decide), .cons ⟨t, rfl⟩ (.cons ⟨u, rfl⟩ .nil)⟩⟩⟩
/-! ### promises -/
@[irreducible] def spIsNum : Sp := fun vs H Q _ => ∃ i : Int, vs = [.int i] ∧ ∀ r, r = V.bl true → Q r H
@[irreducible] def spIsPart (K : PySem.W.Frag) : Sp := fun vs H Q _ => ∃ (v : V) (q : Rat), vs = [v] ∧ PtV K H v q ∧ ∀ r, r = V.bl true → Q r H
@[irreducible] def spIsBox (K : PySem.W.Frag) : Sp := fun vs H Q _ => ∃ (v : V) (b : Bx), vs = [v] ∧ BxV K H v b ∧ b.Ok 3900 ∧ ∀ r H', Same H H' → r = V.bl true → Q r H'
@[irreducible] def spCheck (K : PySem.W.Frag) : Sp := fun vs H Q _ => ∃ (v : V) (b : Bx), vs = [v] ∧ BxV K H v b ∧ b.Ok 3900 ∧ ∀ r H', Same H H' → r = V.non → Q r H'
/-- a part of a box -/
@[irreducible] def spOfBox (K : PySem.W.Frag) (g : Bx → Rat) : Sp := fun vs H Q _ => ∃ (v : V) (b : Bx), vs = [v] ∧ BxV K H v b ∧ b.Ok 1900 ∧ ∀ u H', Same H H' → PtV K H' u (g b) → Q u H'
def gr (x y : Rat) : Rat := if x < y then y else x
def ls (x y : Rat) : Rat := if x < y then x else y
def shp (b : Bx) : Rat := gr (b.w / b.h) (b.h / b.w)
@[irreducible] def spSomeBox (K : PySem.W.Frag) : Sp := fun vs H Q _ => ∃ c : Addr, vs = [.ref c] ∧ Bag H c ∧ ∀ v b H', BxV K H' v b → b.Ok 202 → Bag H' c → Kp c H H' → Q v H'
@[irreducible] def spAbove (K : PySem.W.Frag) : Sp := fun vs H Q _ => ∃ c : Addr, vs = [.ref c] ∧ Bag H c ∧ ∀ v q H', PtV K H' v q → 0 < q → Sz 202 q → Bag H' c → Kp c H H' → Q v H'
section
variable {K : PySem.W.Frag} {H : Hp} {v : V} {b : Bx} {Q : VK} {vs : List V} {E : XK} {q : Rat}
theorem isnum_step {i : Int} (h : Q (.bl true) H) (hvs : vs = [.int i] := by rfl) : spIsNum vs H Q E := by
  unfold spIsNum
  exact ⟨i, hvs, fun r e => by rw [e]; exact h⟩
theorem ispart_step (hv : PtV K H v q) (h : Q (.bl true) H) (hvs : vs = [v] := by rfl) : spIsPart K vs H Q E := by
  unfold spIsPart
  exact ⟨v, q, hvs, hv, fun r e => by rw [e]; exact h⟩
theorem isbox_step {n : Nat} (hv : BxV K H v b) (hb : b.Ok n) (hn : n ≤ 3900) (h : ∀ H', Same H H' → Q (.bl true) H') (hvs : vs = [v] := by rfl) : spIsBox K vs H Q E := by
  unfold spIsBox
  exact ⟨v, b, hvs, hv, hb.mono hn, fun r H' s e => by rw [e]; exact h H' s⟩
theorem check_step {n : Nat} (hv : BxV K H v b) (hb : b.Ok n) (hn : n ≤ 3900) (h : ∀ H', Same H H' → Q .non H') (hvs : vs = [v] := by rfl) : spCheck K vs H Q E := by
  unfold spCheck
  exact ⟨v, b, hvs, hv, hb.mono hn, fun r H' s e => by rw [e]; exact h H' s⟩
theorem ofbox_step {g : Bx → Rat} {n : Nat} (hv : BxV K H v b) (hb : b.Ok n) (hn : n ≤ 1900) (h : ∀ u H', Same H H' → PtV K H' u (g b) → Q u H') (hvs : vs = [v] := by rfl) : spOfBox K g vs H Q E := by
  unfold spOfBox
  exact ⟨v, b, hvs, hv, hb.mono hn, h⟩
theorem somebox_step {c : Addr} (hb : Bag H c) (h : ∀ v b H', BxV K H' v b → b.Ok 202 → Bag H' c → Kp c H H' → Q v H') (hvs : vs = [.ref c] := by rfl) : spSomeBox K vs H Q E := by
  unfold spSomeBox
  exact ⟨c, hvs, hb, h⟩
theorem above_step {c : Addr} (hb : Bag H c) (h : ∀ v q H', PtV K H' v q → 0 < q → Sz 202 q → Bag H' c → Kp c H H' → Q v H') (hvs : vs = [.ref c] := by rfl) : spAbove K vs H Q E := by
  unfold spAbove
  exact ⟨c, hvs, hb, h⟩
end
@[irreducible] def spPick : Sp := fun vs H Q _ => ∃ (c L : Addr) (xs : List V), vs = [.ref c, .ref L] ∧ Bag H c ∧ H L = some (.lst xs) ∧ L ≠ c ∧ 0 < xs.length ∧ xs.length ≤ 1000 ∧ ∀ v H', v ∈ xs → Bag H' c → Kp c H H' → Q v H'
@[irreducible] def spEnds (K : PySem.W.Frag) : Sp := fun vs H Q _ => ∃ (v : V) (b : Bx), vs = [v] ∧ BxV K H v b ∧ b.Ok 1900 ∧ ∀ p v1 v2 v3 v4 H', Same H H' → BxAt K H' p v1 v2 v3 v4 ⟨b.l, b.l + b.w, b.t, b.t + b.h⟩ → Q (.ref p) H'
@[irreducible] def spStretch (K : PySem.W.Frag) : Sp := fun vs H Q _ => ∃ (v1 v2 v3 : V) (x l p : Rat), vs = [v1, v2, v3] ∧ PtV K H v1 x ∧ PtV K H v2 l ∧ PtV K H v3 p ∧ Sz 1900 x ∧ Sz 1900 l ∧ Sz 3900 p ∧ ∀ r H', Same H H' → r = V.bl (!decide (p < x) && decide (p < x + l)) → Q r H'
def lies (b : Bx) (x y : Rat) : Bool := (!decide (x < b.l) && decide (x < b.l + b.w)) && (!decide (y < b.t) && decide (y < b.t + b.h))
@[irreducible] def spLies (K : PySem.W.Frag) : Sp := fun vs H Q _ => ∃ (v1 v2 v3 : V) (b : Bx) (x y : Rat), vs = [v1, v2, v3] ∧ BxV K H v1 b ∧ PtV K H v2 x ∧ PtV K H v3 y ∧ b.Ok 1900 ∧ Sz 3900 x ∧ Sz 3900 y ∧ ∀ r H', Same H H' → r = V.bl (lies b x y) → Q r H'
section
variable {K : PySem.W.Frag} {H : Hp} {v : V} {b : Bx} {Q : VK} {vs : List V} {E : XK}
theorem pick_step {c L : Addr} {xs : List V} (hb : Bag H c) (hL : H L = some (.lst xs)) (hne : L ≠ c) (h0 : 0 < xs.length) (h1 : xs.length ≤ 1000) (h : ∀ v H', v ∈ xs → Bag H' c → Kp c H H' → Q v H') (hvs : vs = [.ref c, .ref L] := by rfl) : spPick vs H Q E := by
  unfold spPick
  exact ⟨c, L, xs, hvs, hb, hL, hne, h0, h1, h⟩
theorem ends_step {n : Nat} (hv : BxV K H v b) (hb : b.Ok n) (hn : n ≤ 1900) (h : ∀ p v1 v2 v3 v4 H', Same H H' → BxAt K H' p v1 v2 v3 v4 ⟨b.l, b.l + b.w, b.t, b.t + b.h⟩ → Q (.ref p) H') (hvs : vs = [v] := by rfl) : spEnds K vs H Q E := by
  unfold spEnds
  exact ⟨v, b, hvs, hv, hb.mono hn, h⟩
theorem stretch_step {v1 v2 v3 : V} {x l p : Rat} {m n k : Nat} (h1 : PtV K H v1 x) (h2 : PtV K H v2 l) (h3 : PtV K H v3 p) (s1 : Sz m x) (s2 : Sz n l) (s3 : Sz k p) (hm : m ≤ 1900) (hn : n ≤ 1900) (hk : k ≤ 3900)
    (h : ∀ H', Same H H' → Q (.bl (!decide (p < x) && decide (p < x + l))) H') (hvs : vs = [v1, v2, v3] := by rfl) : spStretch K vs H Q E := by
  unfold spStretch
  exact ⟨v1, v2, v3, x, l, p, hvs, h1, h2, h3, s1.mono hm, s2.mono hn, s3.mono hk, fun r H' s e => by rw [e]; exact h H' s⟩
theorem lies_step {v1 v2 v3 : V} {x y : Rat} {m n k : Nat} (h1 : BxV K H v1 b) (h2 : PtV K H v2 x) (h3 : PtV K H v3 y) (s1 : b.Ok m) (s2 : Sz n x) (s3 : Sz k y) (hm : m ≤ 1900) (hn : n ≤ 3900) (hk : k ≤ 3900)
    (h : ∀ H', Same H H' → Q (.bl (lies b x y)) H') (hvs : vs = [v1, v2, v3] := by rfl) : spLies K vs H Q E := by
  unfold spLies
  exact ⟨v1, v2, v3, b, x, y, hvs, h1, h2, h3, s1.mono hm, s2.mono hn, s3.mono hk, fun r H' s e => by rw [e]; exact h H' s⟩
end
/-! ### mathematics -/
theorem divInt_pos {a c : Int} (h : 0 < a) (hc : 0 < c) : 0 < Rat.divInt a c := by
  rw [Rat.divInt_eq_div, Rat.div_def]
  exact Rat.mul_pos (Rat.intCast_pos.mpr h) (Rat.inv_pos.mpr (Rat.intCast_pos.mpr hc))
theorem int_pos {i : Int} (h : 0 < i) : (0 : Rat) < (i : Rat) := Rat.intCast_pos.mpr h
theorem int_sz {i : Int} (h : -1000 ≤ i ∧ i ≤ 1000) : Sz 202 ((i : Int) : Rat) := by
  constructor
  · show i.natAbs < 2 ^ 202
    exact Nat.lt_of_lt_of_le (show i.natAbs < 2 ^ 10 by omega) (Nat.pow_le_pow_right (by decide) (by decide))
  · exact Nat.one_lt_two_pow (by decide)

theorem dv_lt {w h : Rat} (hw : 0 < w) (hh : 0 < h) (e : w < h) : w / h < h / w := by
  have h1 : w / h < 1 := (Rat.div_lt_iff hh).mpr (by grind)
  have h2 : 1 < h / w := (Rat.lt_div_iff hw).mpr (by grind)
  grind
theorem gr_shape {w h : Rat} (hw : 0 < w) (hh : 0 < h) : (if w < h then h / w else w / h) = gr (w / h) (h / w) := by
  unfold gr
  by_cases e : w < h
  · rw [if_pos e, if_pos (dv_lt hw hh e)]
  · rw [if_neg e]
    by_cases e2 : h < w
    · rw [if_neg (by have := dv_lt hh hw e2; grind)]
    · have e3 : w = h := by grind
      subst e3
      rw [if_neg (by grind)]
theorem gr_comm (x y : Rat) : gr x y = gr y x := by
  unfold gr
  split <;> split <;> grind
theorem one_le_shape {w h : Rat} (hw : 0 < w) (hh : 0 < h) : ¬ gr (w / h) (h / w) < 1 := by
  rw [← gr_shape hw hh]
  split
  · rename_i e
    have h2 : 1 < h / w := (Rat.lt_div_iff hw).mpr (by grind)
    grind
  · rename_i e
    by_cases e2 : h < w
    · have h2 : 1 < w / h := (Rat.lt_div_iff hh).mpr (by grind)
      grind
    · have e3 : w = h := by grind
      subst e3
      rw [Rat.div_def, Rat.mul_inv_cancel w (by grind)]
      grind
/-! ### lists of parts -/
def PtsL (K : PySem.W.Frag) (H : Hp) (L : Addr) (n : Nat) : Prop := ∃ xs, H L = some (.lst xs) ∧ 0 < xs.length ∧ xs.length ≤ 1000 ∧ ∀ v ∈ xs, ∃ q, PtV K H v q ∧ Sz n q
theorem PtsL.same {K : PySem.W.Frag} {H H' : Hp} {L : Addr} {n : Nat} (x : PtsL K H L n) (e : Same H H') : PtsL K H' L n := by
  obtain ⟨xs, h, h0, h1, h2⟩ := x
  refine ⟨xs, e _ _ h, h0, h1, fun v hv => ?_⟩
  obtain ⟨q, hq, hz⟩ := h2 v hv
  exact ⟨q, hq.same e, hz⟩
theorem PtsL.bag {K : PySem.W.Frag} {H H' : Hp} {L c : Addr} {n : Nat} (x : PtsL K H L n) (e : Kp c H H') (hb : Bag H c) (hne : L ≠ c) : PtsL K H' L n := by
  obtain ⟨xs, h, h0, h1, h2⟩ := x
  refine ⟨xs, e _ _ h hne, h0, h1, fun v hv => ?_⟩
  obtain ⟨q, hq, hz⟩ := h2 v hv
  exact ⟨q, hq.bag e hb, hz⟩
theorem PtsL.pick {K : PySem.W.Frag} {H : Hp} {L c : Addr} {n : Nat} {Q : VK} {E : XK} {vs : List V} (x : PtsL K H L n) (hb : Bag H c) (hne : L ≠ c) (h : ∀ v q H', PtV K H' v q → Sz n q → Bag H' c → Kp c H H' → Q v H') (hvs : vs = [.ref c, .ref L] := by rfl) : spPick vs H Q E := by
  obtain ⟨xs, hL, h0, h1, h2⟩ := x
  refine pick_step hb hL hne h0 h1 (fun v H' hv hb' k => ?_) hvs
  obtain ⟨q, hq, hz⟩ := h2 v hv
  exact h v q H' (hq.bag k hb) hz hb' k
theorem tiny_part {K : PySem.W.Frag} {H : Hp} {p : Addr} {d : Int} (h0 : 0 < d) : PtV K (upd H p (.tup [.int 1, .int d])) (.ref p) (Rat.divInt 1 d) := by
  obtain ⟨e1, e2⟩ := divInt_num_eq (a := 1) h0
  rw [Int.one_gcd] at e1 e2
  exact PtV.new (by rw [e1]; rfl) (by rw [e2]; exact Int.ediv_one d)
end Cc
namespace Cc
open PySem PySem.Spec PyProof.Rows L2
/-! ### sum(t), t a tuple of ints -/
/-- the k-th of ns, nought behind them -/
def nth (ns : List Int) (k : Nat) : Int := ns.getD k 0
theorem nth_get {ns : List Int} {k : Nat} (h : k < ns.length) : nth ns k = ns[k] := by simp [nth, h]
theorem nth_sum (ns : List Int) : ∀ k, k ≤ ns.length → preSum (nth ns) k = (ns.take k).sum
  | 0, _ => by rw [List.take_zero]; rfl
  | k + 1, h => by
    show preSum (nth ns) k + nth ns k = _
    rw [nth_sum ns k (by omega), List.take_succ_eq_append_getElem h, List.sum_append, List.sum_singleton, nth_get h]
theorem ints_len {ns : List Int} {its : List Value} (rv : Vals (ns.map V.int) its) : its.toArray.size = ns.length := by
  have l := rv.length
  rw [List.length_map] at l
  exact l.symm
theorem ints_at {ns : List Int} {its : List Value} (rv : Vals (ns.map V.int) its) (i : Nat) (v : Value) (h : its.toArray[i]? = some v) : ∃ t, v = .int (nth ns i) t := by
  obtain ⟨hi, e⟩ := Array.getElem?_eq_some_iff.mp h
  have hn : i < ns.length := by rw [← ints_len rv]; exact hi
  obtain ⟨u, hu, t, ru⟩ := rv.get (i := i) (show (ns.map V.int)[i]? = some (V.int (nth ns i)) by rw [List.getElem?_map, List.getElem?_eq_getElem hn, nth_get hn]; rfl)
  rw [List.getElem?_toArray, hu] at h
  cases h
  exact ⟨t, ru⟩
section
variable {X : Cx}
/-- ints that stand in a list or in a tuple -/
def IntsV (K : PySem.W.Frag) (H : Hp) (a : Addr) (ns : List Int) : Prop := SqL K H a (ns.map V.int) ∨ SqT K H a (ns.map V.int)
@[irreducible] def rSumA (K : PySem.W.Frag) : List V → Hp → VK → Prop := fun vs H Q => ∃ (a : Addr) (ns : List Int), vs = [V.ref a] ∧ IntsV K H a ns ∧ ∀ r, r = V.int ns.sum → Q r H
theorem cr_sumA (hc : X.calm = true) : CallR X (.builtin "sum") (rSumA X.K) := fun pins s σ H vs us Q I r h => by
  unfold rSumA at h
  obtain ⟨a, ns, ev, hs, q⟩ := h
  subst ev
  rw [Vals.ref1 r]
  rcases hs with hs | hs
  · obtain ⟨its, rv, hl, -⟩ := I.list hs
    exact sum_raw (I.ok.hd hc) hl.isList rv.ints fun h' tk t old => ⟨.int _, H, I.kept old, ⟨t, rfl⟩, q _ rfl⟩
  · obtain ⟨its, rv, hl, -⟩ := I.tuple hs
    refine call_sum_walkAnyS (PySem.W.iter_tupleW (A := X.A.in1) (I.ok.hd hc) hl fun s2 e W st hb _ _ => ?_)
    refine ⟨_, _, _, _, _, _, _, nth ns, rfl, W, st, hb, ints_at rv, fun s' t m => ?_⟩
    obtain ⟨h', tk, rfl, old⟩ := PySem.W.moved_old e rfl m
    refine ⟨.int ns.sum, H, I.kept old, ⟨t, ?_⟩, q _ rfl⟩
    rw [ints_len rv, nth_sum ns _ (Nat.le_refl _), List.take_length]
theorem sum_step {K : PySem.W.Frag} {H : Hp} {a : Addr} {ns : List Int} {vs : List V} {Q : VK} (h : IntsV K H a ns) (q : Q (.int ns.sum) H) (hvs : vs = [.ref a] := by rfl) : rSumA K vs H Q := by
  unfold rSumA
  exact ⟨a, ns, hvs, h, fun r e => by rw [e]; exact q⟩
/-- two readings of one thing walked -/
theorem pi_or {tg e : Expr} {w1 w2 : TI} (h1 : PI X tg e w1) (h2 : PI X tg e w2) : PI X tg e (fun σ H R => w1 σ H R ∨ w2 σ H R) :=
  ⟨fun pins s σ H R I h => h.elim (h1.run pins s σ H R I) (h2.run pins s σ H R I)⟩
theorem pe_or2 {e : Expr} {t1 t2 : TE} (h1 : PE X e t1) (h2 : PE X e t2) : PE X e (fun σ H Q => t1 σ H Q ∨ t2 σ H Q) :=
  ⟨fun pins s σ H Q I h => h.elim (h1.run pins s σ H Q I) (h2.run pins s σ H Q I)⟩
end
/-! ### a def with one keyword-only parameter side -/
/-- as it stands: n positional parameters, then side with the default v0 -/
def DefAtS (K : PySem.W.Frag) (mg : Str → Option Value) (x : Str) (st : Stmt) (ps : List Str) (n : Nat) (v0 : V) : Prop :=
  ∃ f fd, FunD K x x (defArgs st) (defBody st) (defScope st) [] [("side", v0)] f fd ∧ mg x = some (.ref f) ∧ (∃ ds, Vals [v0] ds ∧ Binds K fd ps ds) ∧ ∃ mv : List Value, KBn K fd ps n ["side"] (fun us ws => us ++ ws) (fun vs zs => vs ++ zs)
def DefOkS (P : Program) (w : World) (K : PySem.W.Frag) (mg : Str → Option Value) (base : Heap) (k : Nat) (x : Str) (ps : List Str) (n : Nat) (v0 : V) (sp : Sp) : Prop :=
  ∃ f fd, FnOk P w K mg base CX0 k f fd ps sp ∧ mg x = some (.ref f) ∧ PySem.W.keepIn K (.ref f) = true ∧ (∃ ds, Vals [v0] ds ∧ Binds K fd ps ds) ∧ KBn K fd ps n ["side"] (fun us ws => us ++ ws) (fun vs zs => vs ++ zs)
theorem DefAtS.ok {P : Program} {w : World} {K : PySem.W.Frag} {mg : Str → Option Value} {base : Heap} {x : Str} {st : Stmt} {N ps : List Str} {k n : Nat} {v0 : V} {sp : Sp} (F : DefAtS K mg x st ps n v0) (S : FnScope N ps (defScope st)) (len : ∀ vs H Q E, sp vs H Q E → vs.length = ps.length)
    (hbody : ∀ (f : Addr) (cdv : Value) (A : Around) (outer : List Env) (s : Shared) (H : Hp) (vs : List V) (Q : VK) (E : XK), Room k (A.deeper (envOfC x (defScope st) s.heap.objs.size f cdv)) → sp vs H Q E →
      ∃ t, PSs (cxOf CX0 P w K mg base N x (defScope st) f cdv A outer s H E).nox (defBody st) t ∧ t { nx := fun _ H' => Q .non H', rt := Q } (start N vs) H) : DefOkS P w K mg base (k + 1) x ps n v0 sp := by
  obtain ⟨f, fd, F, hm, hb, mv, hk⟩ := F
  refine ⟨f, fd, F.ok S len (fun cdv A outer s H vs Q E hr h => ?_), hm, F.kp, hb, hk⟩
  obtain ⟨t, h1, h2⟩ := hbody f cdv A outer s H vs Q E hr h
  exact ⟨t, h1.nox, h2⟩
section
variable {X : Cx} {k j n : Nat} {x : Str} {ps : List Str} {sp : Sp} {p pos : Pos} {e : Expr} {es : List Expr} {kws : List Keyword} {t tk : TA} {v0 : V}
theorem pe_callS0 (D : DefOkS X.prog X.w X.K X.mg X.base k x ps n v0 sp) (hr : Room j X.A) (hkj : k ≤ j) (hg : Gl X x) (ha : PA X (e :: es) t) (hdb : (x == ("__debug__" : Str)) = false := by decide)
    (he : starEach (e :: es) X.env = (false, eval e X.env) :: starEach es X.env := by rfl) (hpl : (backTo pos (starEach es X.env)).any (·.1) = false := by rfl) :
    PE X (.Call (.Name x p) (e :: es) [] pos) (tCall sp [v0] E0 t) := by
  obtain ⟨f, fd, F, hm, hk, ⟨ds, hd, hb⟩, _⟩ := D
  exact pe_call F (hr.mono hkj) hg hm hk hb hd pass0 ha hdb he hpl
theorem pe_callS1 (D : DefOkS X.prog X.w X.K X.mg X.base k x ps n v0 sp) (hr : Room j X.A) (hkj : k ≤ j) (hg : Gl X x) (ha : PA X (e :: es) t) (hkw : PK X kws tk) (hall : (backToKw pos (keywordEach kws X.env)).all (·.1.isSome) = true := by rfl) (hks : (backToKw pos (keywordEach kws X.env)).filterMap (·.1) = (["side"] : List Str) := by rfl)
    (hdb : (x == ("__debug__" : Str)) = false := by decide) (he : starEach (e :: es) X.env = (false, eval e X.env) :: starEach es X.env := by rfl)
    (hpl : ((backTo pos (starEach (e :: es) X.env)).any (·.1) || (backToKw pos (keywordEach kws X.env)).any (·.1.isNone)) = false := by rfl) :
    PE X (.Call (.Name x p) (e :: es) kws pos) (tCallN n 1 sp (fun vs zs => vs ++ zs) E0 t tk) := by
  obtain ⟨f, fd, F, hm, hk, _, hb⟩ := D
  exact pe_callN F (hr.mono hkj) hg hm hk hb pass0 ha hkw hall hks hdb he hpl
end
theorem defAtS_mk {K : PySem.W.Frag} {mg : Str → Option Value} {h : Heap} {x : Str} {st : Stmt} {ps : List Str} {n : Nat} {z : Str} (X : K.In h) (G : h.Ns mainGlobals mg) {f D : Addr} {oc : Value} {od an : Option Addr} {osl : Array (Option Value)} {doc pm cdv ct : Value} {tz : Tok}
    (a : PySem.W.nsIn K mainGlobals x = some (some (.ref f))) (l : K.lookup f = some ⟨oc, od, .func (PySem.W.fnOf x x (defArgs st) (defBody st) (defScope st) .none (.ref D) doc pm an cdv ct), osl⟩) (c : PySem.W.codeIn K cdv x = true) (k : PySem.W.keepIn K (.ref f) = true)
    (d : PySem.W.nsIn K D "side" = some (some (.str z tz))) (hn : n + 1 = ps.length)
    (h0 : ∀ (D : Addr) (doc pm : Value) (an : Option Addr) (cdv ct : Value) (us ks : List Value), us.length = n → ks.length = 1 → KwChain D ((["side"] : List Str).zip ks) (bindArgs (PySem.W.fnOf x x (defArgs st) (defBody st) (defScope st) .none (.ref D) doc pm an cdv ct) ⟨us, []⟩) (ps.zip (us ++ ks)))
    (h1 : ∀ (D : Addr) (doc pm : Value) (an : Option Addr) (cdv ct : Value) (us ws : List Value), us.length = n → ws.length = 1 → bindArgs (PySem.W.fnOf x x (defArgs st) (defBody st) (defScope st) .none (.ref D) doc pm an cdv ct) ⟨us, (["side"] : List Str).zip ws⟩ = pure (ps.zip (us ++ ws))) : DefAtS K mg x st ps n (.str z) := by
  have F : FunD K x x (defArgs st) (defBody st) (defScope st) [] [("side", .str z)] f (PySem.W.fnOf x x (defArgs st) (defBody st) (defScope st) .none (.ref D) doc pm an cdv ct) :=
    ⟨⟨oc, od, .none, .ref D, doc, pm, an, cdv, ct, osl, rfl, l, c, .inl ⟨rfl, rfl⟩, .inr ⟨D, rfl, fun q hq => by
      rcases List.mem_cons.mp hq with rfl | hq
      · exact ⟨_, d, ⟨_, rfl⟩⟩
      · cases hq⟩⟩, k⟩
  refine ⟨f, _, F, PySem.W.mg_of X G a, ?_, ?_⟩
  · exact F.binds0 n (by simp) hn h0
  · obtain ⟨mv, hk⟩ := F.kbinds0 (ps := ps) n ["side"] [] (fun us _ ws => us ++ ws) (by simp) (by simp) (fun r1 _ r3 => r1.append r3) (fun D doc pm an cdv ct us mv ws l1 _ l3 => h1 D doc pm an cdv ct us ws l1 l3)
    exact ⟨mv, hk⟩
/-! ### weights and sides -/
structure WOk (ws : List Int) : Prop where
  l0 : 1 ≤ ws.length
  l1 : ws.length ≤ 12
  w : ∀ x ∈ ws, 1 ≤ x ∧ x ≤ 400000
def sd (d : Bool) : Str := if d then "down" else "across"
theorem sum_le : ∀ {ws : List Int}, (∀ x ∈ ws, 1 ≤ x ∧ x ≤ 400000) → (ws.length : Int) ≤ ws.sum ∧ ws.sum ≤ 400000 * ws.length
  | [], _ => by simp
  | x :: r, h => by
    have h1 := h x List.mem_cons_self
    have h2 := sum_le fun y hy => h y (List.mem_cons_of_mem _ hy)
    rw [List.sum_cons, List.length_cons]
    omega
theorem WOk.sum {ws : List Int} (h : WOk ws) : 0 < ws.sum ∧ ws.sum ≤ 4800000 := by
  have h1 := sum_le h.w
  have h2 := h.l0
  have h3 := h.l1
  omega
theorem WOk.take {ws : List Int} (h : WOk ws) (i : Nat) : 0 ≤ (ws.take i).sum ∧ (ws.take i).sum ≤ 4800000 := by
  have h1 := sum_le (ws := ws.take i) fun x hx => h.w x (List.mem_of_mem_take hx)
  have h2 : (ws.take i).length ≤ 12 := by
    have := h.l1
    rw [List.length_take]
    omega
  omega
def slab (b : Bx) (ahead share : Rat) (d : Bool) : Bx := if d then ⟨b.l, b.t + b.h * ahead, b.w, b.h * share⟩ else ⟨b.l + b.w * ahead, b.t, b.w * share, b.h⟩
/-- the i-th box of a split -/
def cutAt (b : Bx) (ws : List Int) (d : Bool) (i : Nat) : Bx := slab b (Rat.divInt (ws.take i).sum ws.sum) (Rat.divInt (ws.getD i 0) ws.sum) d
def cutM (b : Bx) (ws : List Int) (d : Bool) : List Bx := (List.range ws.length).map (cutAt b ws d)
theorem sz23 {i : Int} (h : -4800000 ≤ i ∧ i ≤ 4800000) : i.natAbs < 2 ^ 23 := by omega
theorem sz_share {a c : Int} (h : 0 ≤ a ∧ a ≤ 4800000) (hc : 0 < c ∧ c ≤ 4800000) : Sz 23 (Rat.divInt a c) := size_divInt (by omega) (sz23 (by omega)) (sz23 (by omega))
/-- boxes that stand in a list -/
inductive Bxs (K : PySem.W.Frag) (H : Hp) : List V → List Bx → Prop
  | nil : Bxs K H [] []
  | cons {v : V} {vs : List V} {b : Bx} {bs : List Bx} : BxV K H v b → Bxs K H vs bs → Bxs K H (v :: vs) (b :: bs)
theorem Bxs.same {K : PySem.W.Frag} {H H' : Hp} (e : Same H H') : ∀ {vs : List V} {bs : List Bx}, Bxs K H vs bs → Bxs K H' vs bs
  | _, _, .nil => .nil
  | _, _, .cons h r => .cons (h.same e) (r.same e)
theorem Bxs.snoc {K : PySem.W.Frag} {H : Hp} {v : V} {b : Bx} (hv : BxV K H v b) : ∀ {vs : List V} {bs : List Bx}, Bxs K H vs bs → Bxs K H (vs ++ [v]) (bs ++ [b])
  | _, _, .nil => .cons hv .nil
  | _, _, .cons h r => .cons h (r.snoc hv)
theorem Bxs.dp {K : PySem.W.Frag} {H : Hp} : ∀ {vs : List V} {bs : List Bx}, Bxs K H vs bs → DpAll K H vs (bs.map dBox)
  | _, _, .nil => .nil
  | _, _, .cons h r => .cons h.dp r.dp
theorem Bxs.len {K : PySem.W.Frag} {H : Hp} : ∀ {vs : List V} {bs : List Bx}, Bxs K H vs bs → vs.length = bs.length
  | _, _, .nil => rfl
  | _, _, .cons _ r => by rw [List.length_cons, List.length_cons, r.len]
@[irreducible] def spCheckW (K : PySem.W.Frag) : Sp := fun vs H Q _ => ∃ (a : Addr) (ws : List Int), vs = [.ref a] ∧ IntsV K H a ws ∧ WOk ws ∧ ∀ r H', Same H H' → r = V.non → Q r H'
@[irreducible] def spCheckS : Sp := fun vs H Q _ => ∃ d : Bool, vs = [.str (sd d)] ∧ ∀ r H', Same H H' → r = V.non → Q r H'
@[irreducible] def spSlab (K : PySem.W.Frag) : Sp := fun vs H Q _ => ∃ (v1 v2 v3 : V) (b : Bx) (x y : Rat) (d : Bool), vs = [v1, v2, v3, .str (sd d)] ∧ BxV K H v1 b ∧ b.Ok 1500 ∧ PtV K H v2 x ∧ PtV K H v3 y ∧ Sz 23 x ∧ Sz 23 y ∧ ∀ v H', Same H H' → BxV K H' v (slab b x y d) → Q v H'
@[irreducible] def spSplit (K : PySem.W.Frag) : Sp := fun vs H Q _ => ∃ (v : V) (a : Addr) (b : Bx) (ws : List Int) (d : Bool), vs = [v, .ref a, .str (sd d)] ∧ BxV K H v b ∧ b.Ok 1500 ∧ IntsV K H a ws ∧ WOk ws ∧ ∀ L us H', H L = none → Same H H' → H' L = some (.lst us) → Bxs K H' us (cutM b ws d) → Q (.ref L) H'
/-! ### steps -/
section
variable {K : PySem.W.Frag} {H H' : Hp} {a : Addr} {ws : List Int}
theorem IntsV.same (h : IntsV K H a ws) (e : Same H H') : IntsV K H' a ws := by
  rcases h with h | h
  · exact .inl (seqL_same e h)
  · exact .inr (seqT_same e h)
theorem dp_ints (K : PySem.W.Frag) (H : Hp) : ∀ ws : List Int, DpAll K H (ws.map V.int) (ws.map PyData.int)
  | [] => .nil
  | x :: r => .cons (.int x) (dp_ints K H r)
/-- isinstance(weights, (list, tuple)) -/
theorem IntsV.isi {tp : Addr} {Q : VK} {vs : List V} (h : IntsV K H a ws) (hT : H tp = some (.tup [.ty "list", .ty "tuple"])) (q : Q (.bl true) H) (hvs : vs = [.ref a, .ref tp] := by rfl) : rIsiTI K vs H Q := by
  rcases h with h | h
  · exact isiT_step (t := "list") (n := "list") (m := "tuple") (b := true) (c := false) (.lst h (dp_ints K H ws)) rfl hT (by decide +kernel) (by decide +kernel) q hvs
  · exact isiT_step (t := "tuple") (n := "list") (m := "tuple") (b := false) (c := true) (.tup h (dp_ints K H ws)) rfl hT (by decide +kernel) (by decide +kernel) q hvs
variable {Q : VK} {E : XK} {vs : List V}
theorem checkw_step (h : IntsV K H a ws) (hw : WOk ws) (q : ∀ H', Same H H' → Q .non H') (hvs : vs = [.ref a] := by rfl) : spCheckW K vs H Q E := by
  unfold spCheckW
  exact ⟨a, ws, hvs, h, hw, fun r H' s e => by rw [e]; exact q H' s⟩
theorem checks_step {d : Bool} (q : ∀ H', Same H H' → Q .non H') (hvs : vs = [.str (sd d)] := by rfl) : spCheckS vs H Q E := by
  unfold spCheckS
  exact ⟨d, hvs, fun r H' s e => by rw [e]; exact q H' s⟩
theorem slab_step {v1 v2 v3 : V} {b : Bx} {x y : Rat} {d : Bool} (h1 : BxV K H v1 b) (hb : b.Ok 1500) (h2 : PtV K H v2 x) (h3 : PtV K H v3 y) (z2 : Sz 23 x) (z3 : Sz 23 y) (q : ∀ v H', Same H H' → BxV K H' v (slab b x y d) → Q v H') (hvs : vs = [v1, v2, v3, .str (sd d)] := by rfl) : spSlab K vs H Q E := by
  unfold spSlab
  exact ⟨v1, v2, v3, b, x, y, d, hvs, h1, hb, h2, h3, z2, z3, q⟩
theorem split_step {v : V} {b : Bx} {d : Bool} {n : Nat} (hv : BxV K H v b) (hb : b.Ok n) (hn : n ≤ 1500) (h : IntsV K H a ws) (hw : WOk ws) (q : ∀ L us H', H L = none → Same H H' → H' L = some (.lst us) → Bxs K H' us (cutM b ws d) → Q (.ref L) H') (hvs : vs = [v, .ref a, .str (sd d)] := by rfl) : spSplit K vs H Q E := by
  unfold spSplit
  exact ⟨v, a, b, ws, d, hvs, hv, hb.mono hn, h, hw, q⟩
theorem sd_eq (d : Bool) : decide (V.str (sd d) = V.str "down") = d := by
  cases d <;> decide +kernel
theorem cutM_succ {b : Bx} {ws : List Int} {d : Bool} {i : Nat} (hi : i < ws.length) : (cutM b ws d).take (i + 1) = (cutM b ws d).take i ++ [cutAt b ws d i] := by
  have h : (cutM b ws d)[i]? = some (cutAt b ws d i) := by
    unfold cutM
    rw [List.getElem?_map, List.getElem?_range hi]
    rfl
  rw [List.take_add_one, h]
  rfl
theorem cutM_len (b : Bx) (ws : List Int) (d : Bool) : (cutM b ws d).length = ws.length := by
  unfold cutM
  rw [List.length_map, List.length_range]
theorem take_sum {ws : List Int} {i : Nat} (hi : i < ws.length) : (ws.take (i + 1)).sum = (ws.take i).sum + ws.getD i 0 := by
  rw [List.take_add_one, List.getElem?_eq_getElem hi, List.sum_append, List.getD_eq_getElem?_getD, List.getElem?_eq_getElem hi]
  simp
end
section
variable {K : PySem.W.Frag} {H H' : Hp} {c : Addr} {ys : List V}
theorem BxV.kp {v : V} {b : Bx} (x : BxV K H v b) (e : Kp c H H') (h : H c = some (.lst ys)) : BxV K H' v b := by
  obtain ⟨a, v1, v2, v3, v4, rfl, x⟩ := x
  exact ⟨a, v1, v2, v3, v4, rfl, seqT_kp e h x.1, x.2.1.kp e h, x.2.2.1.kp e h, x.2.2.2.1.kp e h, x.2.2.2.2.kp e h⟩
theorem Bxs.kp (e : Kp c H H') (h : H c = some (.lst ys)) : ∀ {vs : List V} {bs : List Bx}, Bxs K H vs bs → Bxs K H' vs bs
  | _, _, .nil => .nil
  | _, _, .cons x r => .cons (x.kp e h) (r.kp e h)
theorem same_write {H3 G : Hp} {o : HO} (nF : H3 c = none) (s : Same H3 G) : Same H3 (upd G c o) := fun b u e => by
  rw [upd_ne (ne_of_none e nF)]
  exact s b u e
end
/-- a short list of ints may be written, were it the cells' own -/
theorem Bag.write {H : Hp} {c D : Addr} {zs : List Int} (hB : Bag H c) (hDc : D ≠ c) (hz : zs.length ≤ 63) : Bag (upd H D (.lst (zs.map V.int))) c := by
  obtain ⟨a, ns, p, r, x, q, h1, h2, h3, h4, h5, h6, h7⟩ := hB
  by_cases e : a = D
  · subst e
    exact ⟨a, zs, p, r, x, q, by rw [upd_ne hDc.symm]; exact h1, upd_same, h3, hz, h5, h6, h7⟩
  · exact ⟨a, ns, p, r, x, q, by rw [upd_ne hDc.symm]; exact h1, by rw [upd_ne e]; exact h2, h3, h4, h5, h6, h7⟩
@[irreducible] def spWeight : Sp := fun vs H Q _ => ∃ (c : Addr) (k : Int), vs = [.ref c, .int k] ∧ Bag H c ∧ ∀ r H', 1 ≤ r → r ≤ 400000 → Bag H' c → Kp c H H' → Q (.int r) H'
@[irreducible] def spWeights (K : PySem.W.Frag) : Sp := fun vs H Q _ => ∃ (c : Addr) (m : Int), vs = [.ref c, .int m] ∧ Bag H c ∧ 1 ≤ m ∧ m ≤ 12 ∧ ∀ L ws H', H L = none → H' L = some (.lst (ws.map V.int)) → WOk ws → Bag H' c → Kp c H H' → Q (.ref L) H'
@[irreducible] def spLean : Sp := fun vs H Q _ => ∃ c : Addr, vs = [.ref c] ∧ Bag H c ∧ ∀ d H', Bag H' c → Kp c H H' → Q (.str (sd d)) H'
theorem weight_step {H : Hp} {Q : VK} {E : XK} {vs : List V} {c : Addr} {k : Int} (hb : Bag H c) (q : ∀ r H', 1 ≤ r → r ≤ 400000 → Bag H' c → Kp c H H' → Q (.int r) H') (hvs : vs = [.ref c, .int k] := by rfl) : spWeight vs H Q E := by
  unfold spWeight
  exact ⟨c, k, hvs, hb, q⟩
theorem weights_step {K : PySem.W.Frag} {H : Hp} {Q : VK} {E : XK} {vs : List V} {c : Addr} {m : Int} (hb : Bag H c) (h0 : 1 ≤ m) (h1 : m ≤ 12) (q : ∀ L ws H', H L = none → H' L = some (.lst (ws.map V.int)) → WOk ws → Bag H' c → Kp c H H' → Q (.ref L) H') (hvs : vs = [.ref c, .int m] := by rfl) : spWeights K vs H Q E := by
  unfold spWeights
  exact ⟨c, m, hvs, hb, h0, h1, q⟩
theorem lean_step {H : Hp} {Q : VK} {E : XK} {vs : List V} {c : Addr} (hb : Bag H c) (q : ∀ d H', Bag H' c → Kp c H H' → Q (.str (sd d)) H') (hvs : vs = [.ref c] := by rfl) : spLean vs H Q E := by
  unfold spLean
  exact ⟨c, hvs, hb, q⟩
/-- constants of the module -/
theorem glob_int {K : PySem.W.Frag} {mg : Str → Option Value} {h : Heap} {x : Str} {i : Int} {t : Tok} (X : K.In h) (G : h.Ns mainGlobals mg) (e : PySem.W.nsIn K mainGlobals x = some (some (.int i t))) : ∃ t, mg x = some (.int i t) := ⟨t, PySem.W.mg_of X G e⟩
theorem glob_str {K : PySem.W.Frag} {mg : Str → Option Value} {h : Heap} {x z : Str} {t : Tok} (X : K.In h) (G : h.Ns mainGlobals mg) (e : PySem.W.nsIn K mainGlobals x = some (some (.str z t))) : ∃ t, mg x = some (.str z t) := ⟨t, PySem.W.mg_of X G e⟩
-- glob_val
theorem num_gt {q : Rat} (h : 0 < q) : 0 < q.num := by
  have e := (Rat.lt_iff 0 q).mp h
  have e1 : (0 : Rat).num = 0 := rfl
  have e2 : (0 : Rat).den = 1 := rfl
  rw [e1, e2] at e
  omega
/-- a pair of ints, not in lowest terms -/
def PrV (K : PySem.W.Frag) (H : Hp) (v : V) (q : Rat) : Prop := ∃ p a c, v = .ref p ∧ SqT K H p [.int a, .int c] ∧ 0 < c ∧ a.natAbs < 2 ^ 100 ∧ c.natAbs < 2 ^ 100 ∧ q = Rat.divInt a c
@[irreducible] def spTimesR (K : PySem.W.Frag) : Sp := fun vs H Q _ => ∃ (v w : V) (x y : Rat), vs = [v, w] ∧ PtV K H v x ∧ Sz 2000 x ∧ PrV K H w y ∧ ∀ u H', Same H H' → PtV K H' u (x * y) → Q u H'
theorem timesr_step {K : PySem.W.Frag} {H : Hp} {Q : VK} {E : XK} {vs : List V} {v w : V} {x y : Rat} {n : Nat} (hv : PtV K H v x) (zx : Sz n x) (hn : n ≤ 2000) (hw : PrV K H w y) (q : ∀ u H', Same H H' → PtV K H' u (x * y) → Q u H') (hvs : vs = [v, w] := by rfl) : spTimesR K vs H Q E := by
  unfold spTimesR
  exact ⟨v, w, x, y, hvs, hv, zx.mono hn, hw, q⟩
theorem PrV.bag {K : PySem.W.Frag} {H H' : Hp} {c : Addr} {v : V} {q : Rat} (x : PrV K H v q) (e : Kp c H H') (hb : Bag H c) : PrV K H' v q := by
  obtain ⟨ys, hy⟩ := hb.lst
  obtain ⟨p, a, c, rfl, h, r⟩ := x
  exact ⟨p, a, c, rfl, seqT_kp e hy h, r⟩
theorem PrV.same {K : PySem.W.Frag} {H H' : Hp} {v : V} {q : Rat} (x : PrV K H v q) (e : Same H H') : PrV K H' v q := by
  obtain ⟨p, a, c, rfl, h, r⟩ := x
  exact ⟨p, a, c, rfl, seqT_same e h, r⟩
theorem bxs_get {K : PySem.W.Frag} {H : Hp} : ∀ {vs : List V} {bs : List Bx}, Bxs K H vs bs → ∀ {i : Nat} {v : V}, vs[i]? = some v → ∃ b, bs[i]? = some b ∧ BxV K H v b
  | _, _, .nil, i, v, e => by simp at e
  | _, _, .cons (b := b) h r, 0, v, e => by
    cases e
    exact ⟨b, rfl, h⟩
  | _, _, .cons h r, i + 1, v, e => by
    rw [List.getElem?_cons_succ] at e
    obtain ⟨b, h1, h2⟩ := bxs_get r e
    exact ⟨b, by rw [List.getElem?_cons_succ]; exact h1, h2⟩
theorem cutM_get {b : Bx} {ws : List Int} {d : Bool} {i : Nat} {x : Bx} (h : (cutM b ws d)[i]? = some x) : i < ws.length ∧ x = cutAt b ws d i := by
  unfold cutM at h
  rw [List.getElem?_map] at h
  obtain ⟨j, h1, h2⟩ := Option.map_eq_some_iff.mp h
  have hj : i < (List.range ws.length).length := (List.getElem?_eq_some_iff.mp h1).1
  rw [List.length_range] at hj
  rw [List.getElem?_range hj] at h1
  cases h1
  exact ⟨hj, h2.symm⟩
/-! ### the parts of the whole -/
def pre (ws : List Int) (i : Nat) : Rat := Rat.divInt (ws.take i).sum ws.sum
def shr (ws : List Int) (i : Nat) : Rat := Rat.divInt (ws.getD i 0) ws.sum
theorem getD_ok {ws : List Int} (h : WOk ws) {i : Nat} (hi : i < ws.length) : 1 ≤ ws.getD i 0 ∧ ws.getD i 0 ≤ 400000 := by
  rw [List.getD_eq_getElem?_getD, List.getElem?_eq_getElem hi]
  exact h.w _ (List.getElem_mem hi)
theorem shr_pos {ws : List Int} (h : WOk ws) {i : Nat} (hi : i < ws.length) : 0 < shr ws i := divInt_pos (by have := getD_ok h hi; omega) h.sum.1
theorem pre_zero (ws : List Int) : pre ws 0 = 0 := by
  unfold pre
  rw [List.take_zero, List.sum_nil, Rat.zero_divInt]
theorem pre_len {ws : List Int} (h : WOk ws) : pre ws ws.length = 1 := by
  unfold pre
  rw [List.take_length, Rat.divInt_self' (by have := h.sum; omega)]
theorem dv_plus (a c T : Int) : Rat.divInt a T + Rat.divInt c T = Rat.divInt (a + c) T := by
  rw [Rat.divInt_eq_div, Rat.divInt_eq_div, Rat.divInt_eq_div, Rat.intCast_add, Rat.div_def, Rat.div_def, Rat.div_def, Rat.add_mul]
theorem pre_succ {ws : List Int} {i : Nat} (hi : i < ws.length) : pre ws (i + 1) = pre ws i + shr ws i := by
  unfold pre shr
  rw [dv_plus, take_sum hi]
theorem cutAt_eq (b : Bx) (ws : List Int) (d : Bool) (i : Nat) : cutAt b ws d i = slab b (pre ws i) (shr ws i) d := rfl
theorem shr_times {ws : List Int} (h : WOk ws) (i : Nat) : shr ws i * ((ws.sum : Int) : Rat) = ((ws.getD i 0 : Int) : Rat) := by
  unfold shr
  rw [Rat.divInt_eq_div, Rat.div_def, Rat.mul_assoc, Rat.inv_mul_cancel _ (by have := int_pos h.sum.1; grind), Rat.mul_one]
theorem slab_ok {b : Bx} {ws : List Int} {d : Bool} {i n : Nat} (hb : b.Ok n) (hW : WOk ws) (hi : i < ws.length) : (cutAt b ws d i).Ok (n + n + 24) := by
  have s0 := shr_pos hW hi
  have hg := getD_ok hW hi
  have z1 : Sz 23 (pre ws i) := sz_share (hW.take i) hW.sum
  have z2 : Sz 23 (shr ws i) := sz_share (by omega) hW.sum
  rw [cutAt_eq]
  unfold slab
  cases d with
  | true =>
    rw [if_pos rfl]
    exact ⟨hb.w0, Rat.mul_pos hb.h0 s0, hb.sl.mono (by omega), sz_add hb.st (sz_mul hb.sh z1 (Nat.le_refl _)) (by omega), hb.sw.mono (by omega), sz_mul hb.sh z2 (by omega)⟩
  | false =>
    rw [if_neg Bool.false_ne_true]
    exact ⟨Rat.mul_pos hb.w0 s0, hb.h0, sz_add hb.sl (sz_mul hb.sw z1 (Nat.le_refl _)) (by omega), hb.st.mono (by omega), sz_mul hb.sw z2 (by omega), hb.sh.mono (by omega)⟩
end Cc
namespace Cc
/-! ### one stretch of many holds a point -/
def inStretch (f : Nat → Rat) (y : Rat) (i : Nat) : Bool := !decide (y < f i) && decide (y < f (i + 1))
theorem count_none (f : Nat → Rat) (y : Rat) : ∀ n, (∀ i, i < n → f i ≤ f (i + 1)) → f n ≤ y → ((List.range n).map (inStretch f y)).count true = 0
  | 0, _, _ => rfl
  | n + 1, hm, h => by
    have h2 := hm n (Nat.lt_succ_self n)
    have ih := count_none f y n (fun i hi => hm i (Nat.lt_succ_of_lt hi)) (by grind)
    rw [List.range_succ, List.map_append, List.count_append, ih]
    have e : inStretch f y n = false := by
      unfold inStretch
      rw [decide_eq_false (show ¬ y < f (n + 1) by grind), Bool.and_false]
    rw [List.map_cons, List.map_nil, e]
    rfl
theorem count_one (f : Nat → Rat) (y : Rat) : ∀ n, (∀ i, i < n → f i ≤ f (i + 1)) → f 0 ≤ y → y < f n → ((List.range n).map (inStretch f y)).count true = 1
  | 0, _, h0, h1 => by grind
  | n + 1, hm, h0, h1 => by
    rw [List.range_succ, List.map_append, List.count_append, List.map_cons, List.map_nil]
    by_cases h : y < f n
    · have ih := count_one f y n (fun i hi => hm i (Nat.lt_succ_of_lt hi)) h0 h
      have e : inStretch f y n = false := by
        unfold inStretch
        rw [decide_eq_true h]
        rfl
      rw [ih, e]
      rfl
    · have ih := count_none f y n (fun i hi => hm i (Nat.lt_succ_of_lt hi)) (by grind)
      have e : inStretch f y n = true := by
        unfold inStretch
        rw [decide_eq_false h, decide_eq_true h1]
        rfl
      rw [ih, e]
      rfl
end Cc
namespace Cc
open PySem PySem.Spec PyProof.Rows L2
/-! ### weights of rows -/
theorem sum_nn : ∀ {ws : List Int}, (∀ x ∈ ws, 1 ≤ x) → (ws.length : Int) ≤ ws.sum
  | [], _ => by simp
  | x :: r, h => by
    have h1 := h x List.mem_cons_self
    have h2 := sum_nn fun y hy => h y (List.mem_cons_of_mem _ hy)
    rw [List.sum_cons, List.length_cons]
    omega
theorem mem_le_sum : ∀ {ws : List Int}, (∀ x ∈ ws, 1 ≤ x) → ∀ x ∈ ws, x ≤ ws.sum
  | [], _, x, hx => by cases hx
  | y :: r, h, x, hx => by
    have h2 := sum_nn (ws := r) fun z hz => h z (List.mem_cons_of_mem _ hz)
    have h3 := h y List.mem_cons_self
    rw [List.sum_cons]
    rcases List.mem_cons.mp hx with rfl | hx
    · omega
    · have := mem_le_sum (fun z hz => h z (List.mem_cons_of_mem _ hz)) x hx
      omega
structure WGk (ws : List Int) : Prop where
  l0 : 1 ≤ ws.length
  l1 : ws.length ≤ 12
  w : ∀ x ∈ ws, 1 ≤ x
  s : ws.sum ≤ 4800000
theorem WOk.g {ws : List Int} (h : WOk ws) : WGk ws := ⟨h.l0, h.l1, fun x hx => (h.w x hx).1, h.sum.2⟩
theorem WGk.sum {ws : List Int} (h : WGk ws) : 0 < ws.sum ∧ ws.sum ≤ 4800000 := by
  have h1 := sum_nn h.w
  have h2 := h.l0
  have h3 := h.s
  omega
theorem WGk.take {ws : List Int} (h : WGk ws) (i : Nat) : 0 ≤ (ws.take i).sum ∧ (ws.take i).sum ≤ 4800000 := by
  have h1 := sum_nn (ws := ws.take i) fun x hx => h.w x (List.mem_of_mem_take hx)
  have h2 := sum_nn (ws := ws.drop i) fun x hx => h.w x (List.mem_of_mem_drop hx)
  have h3 : ws.sum = (ws.take i).sum + (ws.drop i).sum := by rw [← List.sum_append, List.take_append_drop]
  have h4 := h.s
  omega
theorem WGk.mem {ws : List Int} (h : WGk ws) {x : Int} (hx : x ∈ ws) : 1 ≤ x ∧ x ≤ 4800000 := by
  have h1 := h.w x hx
  have h2 := mem_le_sum h.w x hx
  have h3 := h.s
  omega
theorem WGk.getD {ws : List Int} (h : WGk ws) {i : Nat} (hi : i < ws.length) : 1 ≤ ws.getD i 0 ∧ ws.getD i 0 ≤ 4800000 := by
  rw [List.getD_eq_getElem?_getD, List.getElem?_eq_getElem hi]
  exact h.mem (List.getElem_mem hi)
theorem WGk.shr {ws : List Int} (h : WGk ws) {i : Nat} (hi : i < ws.length) : 0 < shr ws i := divInt_pos (by have := h.getD hi; omega) h.sum.1
theorem slab_okG {b : Bx} {ws : List Int} {d : Bool} {i n : Nat} (hb : b.Ok n) (hW : WGk ws) (hi : i < ws.length) : (cutAt b ws d i).Ok (n + n + 24) := by
  have s0 := hW.shr hi
  have hg := hW.getD hi
  have z1 : Sz 23 (pre ws i) := sz_share (hW.take i) hW.sum
  have z2 : Sz 23 (shr ws i) := sz_share (by omega) hW.sum
  rw [cutAt_eq]
  unfold slab
  cases d with
  | true =>
    rw [if_pos rfl]
    exact ⟨hb.w0, Rat.mul_pos hb.h0 s0, hb.sl.mono (by omega), sz_add hb.st (sz_mul hb.sh z1 (Nat.le_refl _)) (by omega), hb.sw.mono (by omega), sz_mul hb.sh z2 (by omega)⟩
  | false =>
    rw [if_neg Bool.false_ne_true]
    exact ⟨Rat.mul_pos hb.w0 s0, hb.h0, sz_add hb.sl (sz_mul hb.sw z1 (Nat.le_refl _)) (by omega), hb.st.mono (by omega), sz_mul hb.sw z2 (by omega), hb.sh.mono (by omega)⟩
@[irreducible] def spShares (K : PySem.W.Frag) : Sp := fun vs H Q _ => ∃ (v : V) (a : Addr) (b : Bx) (ws : List Int) (d : Bool), vs = [v, .ref a, .str (sd d)] ∧ BxV K H v b ∧ b.Ok 1500 ∧ IntsV K H a ws ∧ WGk ws ∧ ∀ L us H', H L = none → Same H H' → H' L = some (.lst us) → Bxs K H' us (cutM b ws d) → Q (.ref L) H'
@[irreducible] def spCheckSp (K : PySem.W.Frag) : Sp := fun vs H Q _ => ∃ (v : V) (a : Addr) (b : Bx) (ws : List Int) (d : Bool), vs = [v, .ref a, .str (sd d)] ∧ BxV K H v b ∧ b.Ok 1900 ∧ IntsV K H a ws ∧ WOk ws ∧ ∀ r H', Same H H' → r = V.non → Q r H'
def isSd : PyData → Bool
  | .str x => decide (x = sd true) || decide (x = sd false)
  | _ => false
theorem isSd_sd (d : Bool) : isSd (.str (sd d)) = true := by cases d <;> decide +kernel
theorem isSd_str {s : PyData} (h : isSd s = true) : ∃ d, s = .str (sd d) := by
  cases s with
  | str x =>
    have h : (decide (x = sd true) || decide (x = sd false)) = true := h
    rw [Bool.or_eq_true, decide_eq_true_eq, decide_eq_true_eq] at h
    rcases h with h | h
    · exact ⟨true, by rw [h]⟩
    · exact ⟨false, by rw [h]⟩
  | none => exact Bool.noConfusion h
  | bool _ => exact Bool.noConfusion h
  | int _ => exact Bool.noConfusion h
  | list _ => exact Bool.noConfusion h
  | tuple _ => exact Bool.noConfusion h
  | dict _ => exact Bool.noConfusion h
@[irreducible] def spIsSide (K : PySem.W.Frag) : Sp := fun vs H Q _ => ∃ (v : V) (d : PyData), vs = [v] ∧ Dp K H v d ∧ ∀ r H', Same H H' → r = V.bl (isSd d) → Q r H'
section
variable {K : PySem.W.Frag} {H H' : Hp} {a : Addr} {ws : List Int} {Q : VK} {E : XK} {vs : List V}
theorem shares_step {v : V} {b : Bx} {d : Bool} {n : Nat} (hv : BxV K H v b) (hb : b.Ok n) (hn : n ≤ 1500) (h : IntsV K H a ws) (hw : WGk ws) (q : ∀ L us H', H L = none → Same H H' → H' L = some (.lst us) → Bxs K H' us (cutM b ws d) → Q (.ref L) H') (hvs : vs = [v, .ref a, .str (sd d)] := by rfl) : spShares K vs H Q E := by
  unfold spShares
  exact ⟨v, a, b, ws, d, hvs, hv, hb.mono hn, h, hw, q⟩
theorem checksp_step {v : V} {b : Bx} {d : Bool} {n : Nat} (hv : BxV K H v b) (hb : b.Ok n) (hn : n ≤ 1900) (h : IntsV K H a ws) (hw : WOk ws) (q : ∀ H', Same H H' → Q .non H') (hvs : vs = [v, .ref a, .str (sd d)] := by rfl) : spCheckSp K vs H Q E := by
  unfold spCheckSp
  exact ⟨v, a, b, ws, d, hvs, hv, hb.mono hn, h, hw, fun r H' s e => by rw [e]; exact q H' s⟩
theorem issideD_step {v : V} {d : PyData} (hv : Dp K H v d) (q : ∀ H', Same H H' → Q (.bl (isSd d)) H') (hvs : vs = [v] := by rfl) : spIsSide K vs H Q E := by
  unfold spIsSide
  exact ⟨v, d, hvs, hv, fun r H' s e => by rw [e]; exact q H' s⟩
theorem isside_step {d : Bool} (q : ∀ H', Same H H' → Q (.bl true) H') (hvs : vs = [.str (sd d)] := by rfl) : spIsSide K vs H Q E :=
  issideD_step (.str (sd d)) (fun H' s => by rw [isSd_sd]; exact q H' s) hvs
end
/-! ### rows of things that stand in a list -/
inductive Al {α : Type} (R : V → α → Prop) : List V → List α → Prop
  | nil : Al R [] []
  | cons {v : V} {vs : List V} {x : α} {xs : List α} : R v x → Al R vs xs → Al R (v :: vs) (x :: xs)
section
variable {α : Type} {R R' : V → α → Prop}
theorem Al.mono (h : ∀ v x, R v x → R' v x) : ∀ {vs : List V} {xs : List α}, Al R vs xs → Al R' vs xs
  | _, _, .nil => .nil
  | _, _, .cons a r => .cons (h _ _ a) (r.mono h)
theorem Al.snoc {v : V} {x : α} (hv : R v x) : ∀ {vs : List V} {xs : List α}, Al R vs xs → Al R (vs ++ [v]) (xs ++ [x])
  | _, _, .nil => .cons hv .nil
  | _, _, .cons a r => .cons a (r.snoc hv)
theorem Al.len : ∀ {vs : List V} {xs : List α}, Al R vs xs → vs.length = xs.length
  | _, _, .nil => rfl
  | _, _, .cons _ r => by rw [List.length_cons, List.length_cons, r.len]
theorem Al.get : ∀ {vs : List V} {xs : List α}, Al R vs xs → ∀ {i : Nat} {v : V}, vs[i]? = some v → ∃ x, xs[i]? = some x ∧ R v x
  | _, _, .nil, i, v, e => by simp at e
  | _, _, .cons (x := x) h r, 0, v, e => by
    cases e
    exact ⟨x, rfl, h⟩
  | _, _, .cons h r, i + 1, v, e => by
    rw [List.getElem?_cons_succ] at e
    obtain ⟨x, h1, h2⟩ := r.get e
    exact ⟨x, by rw [List.getElem?_cons_succ]; exact h1, h2⟩
end
theorem Bxs.append {K : PySem.W.Frag} {H : Hp} {us : List V} {cs : List Bx} (h : Bxs K H us cs) : ∀ {vs : List V} {bs : List Bx}, Bxs K H vs bs → Bxs K H (vs ++ us) (bs ++ cs)
  | _, _, .nil => h
  | _, _, .cons a r => .cons a (Bxs.append h r)
/-- a row: ints in a list or a tuple -/
def RwV (K : PySem.W.Frag) (H : Hp) (v : V) (row : List Int) : Prop := ∃ a, v = .ref a ∧ IntsV K H a row
theorem RwV.same {K : PySem.W.Frag} {H H' : Hp} (e : Same H H') {v : V} {row : List Int} (h : RwV K H v row) : RwV K H' v row := by
  obtain ⟨a, rfl, h⟩ := h
  exact ⟨a, rfl, h.same e⟩
theorem intsv_kp {K : PySem.W.Frag} {H H' : Hp} {c a : Addr} {ys : List V} {ws : List Int} (e : Kp c H H') (h : H c = some (.lst ys)) (hne : a ≠ c) (x : IntsV K H a ws) : IntsV K H' a ws := by
  rcases x with x | x
  · refine .inl ?_
    rcases x with (x | ⟨o, x⟩) | x
    · exact .inl (.inl (e _ _ x hne))
    · exact .inl (.inr ⟨o, e _ _ x hne⟩)
    · exact .inr x
  · exact .inr (seqT_kp e h x)
/-- a row that isn't the list at R -/
def RwN (K : PySem.W.Frag) (R : Addr) (H : Hp) (v : V) (row : List Int) : Prop := ∃ a, v = .ref a ∧ ((SqL K H a (row.map V.int) ∧ a ≠ R) ∨ SqT K H a (row.map V.int))
theorem RwN.same {K : PySem.W.Frag} {R : Addr} {H H' : Hp} (e : Same H H') {v : V} {row : List Int} (h : RwN K R H v row) : RwN K R H' v row := by
  obtain ⟨a, rfl, h⟩ := h
  exact ⟨a, rfl, h.imp (fun h => ⟨seqL_same e h.1, h.2⟩) (fun h => seqT_same e h)⟩
theorem RwN.rw {K : PySem.W.Frag} {R : Addr} {H : Hp} {v : V} {row : List Int} (h : RwN K R H v row) : RwV K H v row := by
  obtain ⟨a, rfl, h⟩ := h
  exact ⟨a, rfl, h.imp (fun h => h.1) (fun h => h)⟩
theorem RwN.kp {K : PySem.W.Frag} {R : Addr} {H H' : Hp} {ys : List V} (e : Kp R H H') (hc : H R = some (.lst ys)) {v : V} {row : List Int} (h : RwN K R H v row) : RwN K R H' v row := by
  obtain ⟨a, rfl, h⟩ := h
  refine ⟨a, rfl, ?_⟩
  rcases h with ⟨h, n⟩ | h
  · refine .inl ⟨?_, n⟩
    rcases h with (h | ⟨o, h⟩) | h
    · exact .inl (.inl (e _ _ h n))
    · exact .inl (.inr ⟨o, e _ _ h n⟩)
    · exact .inr h
  · exact .inr (seqT_kp e hc h)
/-- a pair of ints -/
def PiV (K : PySem.W.Frag) (H : Hp) (v : V) (x : Int × Int) : Prop := ∃ a, v = .ref a ∧ SqT K H a [.int x.1, .int x.2]
theorem PiV.same {K : PySem.W.Frag} {H H' : Hp} (e : Same H H') {v : V} {x : Int × Int} (h : PiV K H v x) : PiV K H' v x := by
  obtain ⟨a, rfl, h⟩ := h
  exact ⟨a, rfl, seqT_same e h⟩
theorem PiV.kp {K : PySem.W.Frag} {H H' : Hp} {c : Addr} {ys : List V} (e : Kp c H H') (hc : H c = some (.lst ys)) {v : V} {x : Int × Int} (h : PiV K H v x) : PiV K H' v x := by
  obtain ⟨a, rfl, h⟩ := h
  exact ⟨a, rfl, seqT_kp e hc h⟩
/-! ### sizes -/
structure SOk (ss : List Int) (n : Nat) : Prop where
  w : ∀ x ∈ ss, 1 ≤ x
  s : ss.sum = (n : Int)
theorem SOk.len {ss : List Int} {n : Nat} (h : SOk ss n) : ss.length ≤ n := by
  have h1 := sum_nn h.w
  have h2 := h.s
  omega
theorem SOk.ne {ss : List Int} {n : Nat} (h : SOk ss n) (hn : 1 ≤ n) : 1 ≤ ss.length := by
  have h2 := h.s
  cases ss with
  | nil => simp at h2; omega
  | cons x r => simp
def off (ss : List Int) (i : Nat) : Nat := (ss.take i).sum.toNat
def rowAt (ws ss : List Int) (i : Nat) : List Int := (ws.drop (off ss i)).take (ss.getD i 0).toNat
def rowsM (ws ss : List Int) : List (List Int) := (List.range ss.length).map (rowAt ws ss)
def sumsM (ws ss : List Int) : List Int := (rowsM ws ss).map List.sum
def endsM (ss : List Int) : List (Int × Int) := (List.range ss.length).map fun i => ((ss.take i).sum, (ss.take i).sum + ss.getD i 0)
theorem SOk.take {ss : List Int} {n : Nat} (h : SOk ss n) (i : Nat) : 0 ≤ (ss.take i).sum ∧ (ss.take i).sum ≤ (n : Int) := by
  have h1 := sum_nn (ws := ss.take i) fun x hx => h.w x (List.mem_of_mem_take hx)
  have h2 := sum_nn (ws := ss.drop i) fun x hx => h.w x (List.mem_of_mem_drop hx)
  have h3 : ss.sum = (ss.take i).sum + (ss.drop i).sum := by rw [← List.sum_append, List.take_append_drop]
  have h4 := h.s
  omega
theorem SOk.getD {ss : List Int} {n : Nat} (h : SOk ss n) {i : Nat} (hi : i < ss.length) : 1 ≤ ss.getD i 0 := by
  rw [List.getD_eq_getElem?_getD, List.getElem?_eq_getElem hi]
  exact h.w _ (List.getElem_mem hi)
theorem SOk.off_int {ss : List Int} {n : Nat} (h : SOk ss n) (i : Nat) : ((off ss i : Nat) : Int) = (ss.take i).sum := by
  have h1 := h.take i
  unfold off
  omega
theorem SOk.off_succ {ss : List Int} {n : Nat} (h : SOk ss n) {i : Nat} (hi : i < ss.length) : off ss (i + 1) = off ss i + (ss.getD i 0).toNat := by
  have h1 := h.take i
  have h2 := h.getD hi
  unfold off
  rw [take_sum hi]
  omega
theorem SOk.off_le {ss : List Int} {n : Nat} (h : SOk ss n) (i : Nat) : off ss i ≤ n := by
  have h1 := h.take i
  unfold off
  omega
theorem SOk.off_len {ss : List Int} {n : Nat} (h : SOk ss n) : off ss ss.length = n := by
  have h1 := h.s
  unfold off
  rw [List.take_length]
  omega
theorem SOk.size_le {ss : List Int} {n : Nat} (h : SOk ss n) {i : Nat} (hi : i < ss.length) : off ss i + (ss.getD i 0).toNat ≤ n := by
  rw [← h.off_succ hi]
  exact h.off_le _
section
variable {ws ss : List Int}
theorem row_len (h : SOk ss ws.length) {i : Nat} (hi : i < ss.length) : (rowAt ws ss i).length = (ss.getD i 0).toNat := by
  have := h.size_le hi
  unfold rowAt
  rw [List.length_take, List.length_drop]
  omega
theorem row_ok (hW : WOk ws) (h : SOk ss ws.length) {i : Nat} (hi : i < ss.length) : WOk (rowAt ws ss i) := by
  have h1 := h.size_le hi
  have h2 := h.getD hi
  have h3 := hW.l1
  refine ⟨by rw [row_len h hi]; omega, by rw [row_len h hi]; omega, fun x hx => hW.w x ?_⟩
  unfold rowAt at hx
  exact List.mem_of_mem_drop (List.mem_of_mem_take hx)
theorem row_take (h : SOk ss ws.length) {i : Nat} (hi : i < ss.length) : ws.take (off ss (i + 1)) = ws.take (off ss i) ++ rowAt ws ss i := by
  rw [h.off_succ hi, List.take_add]
  rfl
theorem sums_len : (sumsM ws ss).length = ss.length := by
  unfold sumsM rowsM
  rw [List.length_map, List.length_map, List.length_range]
theorem rows_len : (rowsM ws ss).length = ss.length := by
  unfold rowsM
  rw [List.length_map, List.length_range]
theorem rows_get {i : Nat} (hi : i < ss.length) : (rowsM ws ss)[i]? = some (rowAt ws ss i) := by
  unfold rowsM
  rw [List.getElem?_map, List.getElem?_range hi]
  rfl
theorem sums_get {i : Nat} (hi : i < ss.length) : (sumsM ws ss)[i]? = some (rowAt ws ss i).sum := by
  unfold sumsM
  rw [List.getElem?_map, rows_get hi]
  rfl
theorem sums_getD {i : Nat} (hi : i < ss.length) : (sumsM ws ss).getD i 0 = (rowAt ws ss i).sum := by
  rw [List.getD_eq_getElem?_getD, sums_get hi]
  rfl
theorem sums_take (h : SOk ss ws.length) : ∀ i, i ≤ ss.length → ((sumsM ws ss).take i).sum = (ws.take (off ss i)).sum
  | 0, _ => by simp [off]
  | i + 1, hi => by
    have ih := sums_take h i (by omega)
    rw [take_sum (by rw [sums_len]; omega), ih, sums_getD (by omega), row_take h (by omega), List.sum_append]
theorem sums_sum (h : SOk ss ws.length) : (sumsM ws ss).sum = ws.sum := by
  have e := sums_take h ss.length (Nat.le_refl _)
  rw [h.off_len, List.take_length] at e
  rw [← e, List.take_of_length_le (by rw [sums_len]; exact Nat.le_refl _)]
theorem sums_ok (hW : WOk ws) (h : SOk ss ws.length) : WGk (sumsM ws ss) := by
  have h0 := hW.l0
  have h1 := hW.l1
  refine ⟨by rw [sums_len]; exact h.ne h0, by rw [sums_len]; have := h.len; omega, fun x hx => ?_, by rw [sums_sum h]; exact hW.sum.2⟩
  obtain ⟨row, hr, rfl⟩ := List.mem_map.mp hx
  obtain ⟨i, hi, rfl⟩ := List.mem_map.mp hr
  have := (row_ok hW h (List.mem_range.mp hi)).sum
  omega
theorem cut_row (h : SOk ss ws.length) {i : Nat} (hi : i < ss.length) : cutV (ws.map V.int) (some (ss.take i).sum) (some ((ss.take i).sum + ss.getD i 0)) = (rowAt ws ss i).map V.int := by
  have h1 := h.size_le hi
  have h2 := h.getD hi
  have e1 := h.off_int i
  have e2 : (ss.take i).sum + ss.getD i 0 = ((off ss i + (ss.getD i 0).toNat : Nat) : Int) := by omega
  unfold cutV rowAt
  rw [e2, ← e1, List.length_map, HT.sIx_nat, HT.sIx_nat, Nat.min_eq_left (by omega), Nat.min_eq_left (by omega), Nat.add_sub_cancel_left, List.map_take, List.map_drop]
theorem ends_len : (endsM ss).length = ss.length := by
  unfold endsM
  rw [List.length_map, List.length_range]
theorem ends_get {i : Nat} {x : Int × Int} (h : (endsM ss)[i]? = some x) : i < ss.length ∧ x = ((ss.take i).sum, (ss.take i).sum + ss.getD i 0) := by
  have hi := (List.getElem?_eq_some_iff.mp h).1
  rw [ends_len] at hi
  unfold endsM at h
  rw [List.getElem?_map, List.getElem?_range hi] at h
  exact ⟨hi, (Option.some.inj h).symm⟩
theorem rows_get' {i : Nat} {x : List Int} (h : (rowsM ws ss)[i]? = some x) : i < ss.length ∧ x = rowAt ws ss i := by
  have hi := (List.getElem?_eq_some_iff.mp h).1
  rw [rows_len] at hi
  rw [rows_get hi] at h
  exact ⟨hi, (Option.some.inj h).symm⟩
/-- the boxes of the i-th row -/
def laidAt (b : Bx) (ws ss : List Int) (d : Bool) (i : Nat) : List Bx := cutM (cutAt b (sumsM ws ss) d i) (rowAt ws ss i) (!d)
def laidTo (b : Bx) (ws ss : List Int) (d : Bool) (i : Nat) : List Bx := ((List.range i).map (laidAt b ws ss d)).flatten
def laidM (b : Bx) (ws ss : List Int) (d : Bool) : List Bx := laidTo b ws ss d ss.length
theorem laidTo_succ (b : Bx) (ws ss : List Int) (d : Bool) (i : Nat) : laidTo b ws ss d (i + 1) = laidTo b ws ss d i ++ laidAt b ws ss d i := by
  unfold laidTo
  rw [List.range_succ, List.map_append, List.flatten_append, List.map_cons, List.map_nil, List.flatten_cons, List.flatten_nil, List.append_nil]
theorem laidTo_len (b : Bx) (d : Bool) (h : SOk ss ws.length) : ∀ i, i ≤ ss.length → (laidTo b ws ss d i).length = off ss i
  | 0, _ => by simp [off, laidTo]
  | i + 1, hi => by
    rw [laidTo_succ, List.length_append, laidTo_len b d h i (by omega), h.off_succ (by omega)]
    unfold laidAt
    rw [cutM_len, row_len h (by omega)]
theorem laidM_len (b : Bx) (d : Bool) (h : SOk ss ws.length) : (laidM b ws ss d).length = ws.length := by
  unfold laidM
  rw [laidTo_len b d h _ (Nat.le_refl _), h.off_len]
end
/-! ### rules that speak of the one frame, in a block too -/
section
variable {X : Cx} {K : PySem.W.Frag}
theorem kk_call {v : Value} {r : PySem.W.Frag → List V → Hp → VK → Prop} (hK : X.K = K) (h : CallR X v (r X.K)) : CallR X v (r K) := hK ▸ h
theorem kk_ix {r : PySem.W.Frag → R2} (hK : X.K = K) (h : IxR X (r X.K)) : IxR X (r K) := hK ▸ h
theorem kk_sl {r : PySem.W.Frag → V → Option Int → Option Int → Hp → VK → Prop} (hK : X.K = K) (h : SlR X (r X.K)) : SlR X (r K) := hK ▸ h
theorem kk_op {v : Value → Value → Sem Value} {r : PySem.W.Frag → R2} (hK : X.K = K) (h : OpR X v (r X.K)) : OpR X v (r K) := hK ▸ h
end
/-! ### promises -/
@[irreducible] def spRowEnds (K : PySem.W.Frag) : Sp := fun vs H Q _ => ∃ (a : Addr) (ss : List Int) (n : Nat), vs = [.ref a] ∧ SqT K H a (ss.map V.int) ∧ SOk ss n ∧ n ≤ 12 ∧ ∀ L us H', H L = none → Same H H' → H' L = some (.lst us) → Al (PiV K H') us (endsM ss) → Q (.ref L) H'
@[irreducible] def spCheckSz (K : PySem.W.Frag) : Sp := fun vs H Q _ => ∃ (a : Addr) (ss : List Int) (n : Nat), vs = [.ref a, .int n] ∧ SqT K H a (ss.map V.int) ∧ SOk ss n ∧ n ≤ 12 ∧ ∀ r H', Same H H' → r = V.non → Q r H'
@[irreducible] def spLaid (K : PySem.W.Frag) : Sp := fun vs H Q _ => ∃ (v : V) (a t : Addr) (b : Bx) (ws ss : List Int) (d : Bool), vs = [v, .ref a, .ref t, .str (sd d)] ∧ BxV K H v b ∧ b.Ok 500 ∧ IntsV K H a ws ∧ WOk ws ∧ SqT K H t (ss.map V.int) ∧ SOk ss ws.length ∧ ∀ L us H', H L = none → Same H H' → H' L = some (.lst us) → Bxs K H' us (laidM b ws ss d) → Q (.ref L) H'
@[irreducible] def spLSizes (K : PySem.W.Frag) : Sp := fun vs H Q _ => ∃ (c : Addr) (n : Nat), vs = [.ref c, .int n] ∧ Bag H c ∧ 1 ≤ n ∧ n ≤ 12 ∧ ∀ t ss H', H' t = some (.tup (ss.map V.int)) → SOk ss n → Bag H' c → Kp c H H' → Q (.ref t) H'
@[irreducible] def spTurned : Sp := fun vs H Q _ => ∃ d : Bool, vs = [.str (sd d)] ∧ ∀ r, r = V.str (sd (!d)) → Q r H
@[irreducible] def spParted (K : PySem.W.Frag) : Sp := fun vs H Q _ => ∃ (a t : Addr) (ws ss : List Int), vs = [.ref a, .ref t] ∧ SqL K H a (ws.map V.int) ∧ IntsV K H t ss ∧ SOk ss ws.length ∧ ws.length ≤ 12 ∧ ∀ L us H', H L = none → Same H H' → H' L = some (.lst us) → Al (RwV K H') us (rowsM ws ss) → Q (.ref L) H'
@[irreducible] def spLLaid (K : PySem.W.Frag) : Sp := fun vs H Q _ => ∃ (v : V) (a t : Addr) (b : Bx) (ws ss : List Int) (d : Bool), vs = [v, .ref a, .ref t, .str (sd d)] ∧ BxV K H v b ∧ b.Ok 500 ∧ SqL K H a (ws.map V.int) ∧ WOk ws ∧ IntsV K H t ss ∧ SOk ss ws.length ∧ ∀ L us H', H L = none → Same H H' → H' L = some (.lst us) → Bxs K H' us (laidM b ws ss d) → Q (.ref L) H'
section
variable {K : PySem.W.Frag} {H H' : Hp} {a t : Addr} {ws ss : List Int} {Q : VK} {E : XK} {vs : List V}
theorem rowends_step {n : Nat} (h : SqT K H a (ss.map V.int)) (hs : SOk ss n) (hn : n ≤ 12) (q : ∀ L us H', H L = none → Same H H' → H' L = some (.lst us) → Al (PiV K H') us (endsM ss) → Q (.ref L) H') (hvs : vs = [.ref a] := by rfl) : spRowEnds K vs H Q E := by
  unfold spRowEnds
  exact ⟨a, ss, n, hvs, h, hs, hn, q⟩
theorem checksz_step {n : Nat} (h : SqT K H a (ss.map V.int)) (hs : SOk ss n) (hn : n ≤ 12) (q : ∀ H', Same H H' → Q .non H') (hvs : vs = [.ref a, .int n] := by rfl) : spCheckSz K vs H Q E := by
  unfold spCheckSz
  exact ⟨a, ss, n, hvs, h, hs, hn, fun r H' s e => by rw [e]; exact q H' s⟩
theorem laid_step {v : V} {b : Bx} {d : Bool} {n : Nat} (hv : BxV K H v b) (hb : b.Ok n) (hn : n ≤ 500) (h : IntsV K H a ws) (hw : WOk ws) (ht : SqT K H t (ss.map V.int)) (hs : SOk ss ws.length) (q : ∀ L us H', H L = none → Same H H' → H' L = some (.lst us) → Bxs K H' us (laidM b ws ss d) → Q (.ref L) H') (hvs : vs = [v, .ref a, .ref t, .str (sd d)] := by rfl) : spLaid K vs H Q E := by
  unfold spLaid
  exact ⟨v, a, t, b, ws, ss, d, hvs, hv, hb.mono hn, h, hw, ht, hs, q⟩
theorem lsizes_step {c : Addr} {n : Nat} (hb : Bag H c) (h0 : 1 ≤ n) (h1 : n ≤ 12) (q : ∀ t ss H', H' t = some (.tup (ss.map V.int)) → SOk ss n → Bag H' c → Kp c H H' → Q (.ref t) H') (hvs : vs = [.ref c, .int n] := by rfl) : spLSizes K vs H Q E := by
  unfold spLSizes
  exact ⟨c, n, hvs, hb, h0, h1, q⟩
theorem turned_step {d : Bool} (q : Q (.str (sd (!d))) H) (hvs : vs = [.str (sd d)] := by rfl) : spTurned vs H Q E := by
  unfold spTurned
  exact ⟨d, hvs, fun r e => by rw [e]; exact q⟩
theorem parted_step (h : SqL K H a (ws.map V.int)) (ht : IntsV K H t ss) (hs : SOk ss ws.length) (hl : ws.length ≤ 12) (q : ∀ L us H', H L = none → Same H H' → H' L = some (.lst us) → Al (RwV K H') us (rowsM ws ss) → Q (.ref L) H') (hvs : vs = [.ref a, .ref t] := by rfl) : spParted K vs H Q E := by
  unfold spParted
  exact ⟨a, t, ws, ss, hvs, h, ht, hs, hl, q⟩
theorem llaid_step {v : V} {b : Bx} {d : Bool} {n : Nat} (hv : BxV K H v b) (hb : b.Ok n) (hn : n ≤ 500) (h : SqL K H a (ws.map V.int)) (hw : WOk ws) (ht : IntsV K H t ss) (hs : SOk ss ws.length) (q : ∀ L us H', H L = none → Same H H' → H' L = some (.lst us) → Bxs K H' us (laidM b ws ss d) → Q (.ref L) H') (hvs : vs = [v, .ref a, .ref t, .str (sd d)] := by rfl) : spLLaid K vs H Q E := by
  unfold spLLaid
  exact ⟨v, a, t, b, ws, ss, d, hvs, hv, hb.mono hn, h, hw, ht, hs, q⟩
end
end Cc
namespace Cc
open PySem PySem.Spec PyProof.Rows L2
/-! ### the boxes of a cut, and of rows: mathematics -/
theorem divInt_01 {a c : Int} (h0 : 0 ≤ a) (h1 : a ≤ c) (hc : 0 < c) : 0 ≤ Rat.divInt a c ∧ Rat.divInt a c ≤ 1 := by
  have e : Rat.divInt a c * (c : Rat) = (a : Rat) := by
    rw [Rat.divInt_eq_div, Rat.div_def, Rat.mul_assoc, Rat.inv_mul_cancel _ (by have := int_pos hc; grind), Rat.mul_one]
  have c0 := int_pos hc
  have a0 : (0 : Rat) ≤ (a : Rat) := Rat.intCast_nonneg.mpr h0
  have a1 : (a : Rat) ≤ (c : Rat) := Rat.intCast_le_intCast.mpr h1
  constructor
  · by_cases z : 0 ≤ Rat.divInt a c
    · exact z
    · have := Rat.mul_lt_mul_of_pos_right (show Rat.divInt a c < 0 by grind) c0
      grind
  · by_cases z : Rat.divInt a c ≤ 1
    · exact z
    · have := Rat.mul_lt_mul_of_pos_right (show 1 < Rat.divInt a c by grind) c0
      grind
theorem pre_01 {ws : List Int} (h : WGk ws) (i : Nat) : 0 ≤ pre ws i ∧ pre ws i ≤ 1 := by
  have h1 := sum_nn (ws := ws.drop i) fun x hx => h.w x (List.mem_of_mem_drop hx)
  have h3 : ws.sum = (ws.take i).sum + (ws.drop i).sum := by rw [← List.sum_append, List.take_append_drop]
  exact divInt_01 (h.take i).1 (by omega) h.sum.1
theorem pre_lenG {ws : List Int} (h : WGk ws) : pre ws ws.length = 1 := by
  unfold pre
  rw [List.take_length, Rat.divInt_self' (by have := h.sum; omega)]
theorem lies_iff {b : Bx} {x y : Rat} : lies b x y = true ↔ (¬ x < b.l ∧ x < b.l + b.w) ∧ (¬ y < b.t ∧ y < b.t + b.h) := by
  unfold lies
  simp only [Bool.and_eq_true, Bool.not_eq_true', decide_eq_true_eq, decide_eq_false_iff_not]
/-- what lies in a box of a cut lies in the box -/
theorem lies_sub {b : Bx} {ws : List Int} {d : Bool} {i n : Nat} {x y : Rat} (hb : b.Ok n) (h : WGk ws) (hi : i < ws.length) (hl : lies (cutAt b ws d i) x y = true) : lies b x y = true := by
  have p0 := (pre_01 h i).1
  have p1 := (pre_01 h (i + 1)).2
  rw [pre_succ hi] at p1
  rw [lies_iff] at hl ⊢
  rw [cutAt_eq] at hl
  unfold slab at hl
  cases d with
  | true =>
    rw [if_pos rfl] at hl
    have m0 := Rat.mul_nonneg (Rat.le_of_lt hb.h0) p0
    have m1 := Rat.mul_nonneg (Rat.le_of_lt hb.h0) (show 0 ≤ 1 - (pre ws i + shr ws i) by grind)
    obtain ⟨h1, h2, h3⟩ := hl
    refine ⟨h1, ?_, ?_⟩
    · have : b.t + b.h * pre ws i ≤ y := by
        have := h2
        grind
      grind
    · have h4 : y < b.t + b.h * pre ws i + b.h * shr ws i := h3
      grind
  | false =>
    rw [if_neg Bool.false_ne_true] at hl
    have m0 := Rat.mul_nonneg (Rat.le_of_lt hb.w0) p0
    have m1 := Rat.mul_nonneg (Rat.le_of_lt hb.w0) (show 0 ≤ 1 - (pre ws i + shr ws i) by grind)
    obtain ⟨⟨h2, h3⟩, h1⟩ := hl
    refine ⟨⟨?_, ?_⟩, h1⟩
    · have : b.l + b.w * pre ws i ≤ x := by
        have := h2
        grind
      grind
    · have h4 : x < b.l + b.w * pre ws i + b.w * shr ws i := h3
      grind
def edgeG (b : Bx) (ws : List Int) (d : Bool) (i : Nat) : Rat := if d then b.t + b.h * pre ws i else b.l + b.w * pre ws i
theorem edgeG_succ {b : Bx} {ws : List Int} (d : Bool) {i : Nat} (hi : i < ws.length) : edgeG b ws d (i + 1) = edgeG b ws d i + (if d then b.h else b.w) * shr ws i := by
  unfold edgeG
  rw [pre_succ hi]
  cases d with
  | true =>
    rw [if_pos rfl, if_pos rfl, if_pos rfl]
    grind
  | false =>
    rw [if_neg Bool.false_ne_true, if_neg Bool.false_ne_true, if_neg Bool.false_ne_true]
    grind
theorem edgeG_mono {b : Bx} {ws : List Int} {n : Nat} (hb : b.Ok n) (h : WGk ws) (d : Bool) {i : Nat} (hi : i < ws.length) : edgeG b ws d i ≤ edgeG b ws d (i + 1) := by
  rw [edgeG_succ d hi]
  have e1 := h.shr hi
  cases d with
  | true =>
    rw [if_pos rfl]
    have := Rat.mul_pos hb.h0 e1
    grind
  | false =>
    rw [if_neg Bool.false_ne_true]
    have := Rat.mul_pos hb.w0 e1
    grind
theorem lies_cutG {b : Bx} {ws : List Int} (d : Bool) {i : Nat} (hi : i < ws.length) {x y : Rat} (hl : lies b x y = true) :
    lies (cutAt b ws d i) x y = inStretch (edgeG b ws d) (if d then y else x) i := by
  have e := edgeG_succ (b := b) d hi
  obtain ⟨⟨x0, x1⟩, y0, y1⟩ := lies_iff.mp hl
  rw [cutAt_eq]
  unfold lies inStretch
  rw [e]
  unfold edgeG slab
  cases d with
  | true =>
    rw [if_pos rfl, if_pos rfl, if_pos rfl, if_pos rfl]
    rw [decide_eq_false x0, decide_eq_true x1]
    rfl
  | false =>
    rw [if_neg Bool.false_ne_true, if_neg Bool.false_ne_true, if_neg Bool.false_ne_true, if_neg Bool.false_ne_true]
    rw [decide_eq_false y0, decide_eq_true y1]
    simp
theorem count_liesG {b : Bx} {ws : List Int} {n : Nat} (hb : b.Ok n) (h : WGk ws) (d : Bool) {x y : Rat} (hl : lies b x y = true) :
    ((List.range ws.length).map fun i => lies (cutAt b ws d i) x y).count true = 1 := by
  have e : ((List.range ws.length).map fun i => lies (cutAt b ws d i) x y) = (List.range ws.length).map (inStretch (edgeG b ws d) (if d then y else x)) :=
    List.map_congr_left fun i hi => lies_cutG d (List.mem_range.mp hi) hl
  obtain ⟨⟨x0, x1⟩, y0, y1⟩ := lies_iff.mp hl
  rw [e]
  refine count_one _ _ _ (fun i hi => edgeG_mono hb h d hi) ?_ ?_
  · unfold edgeG
    rw [pre_zero]
    cases d with
    | true => rw [if_pos rfl, if_pos rfl]; grind
    | false => rw [if_neg Bool.false_ne_true, if_neg Bool.false_ne_true]; grind
  · unfold edgeG
    rw [pre_lenG h]
    cases d with
    | true => rw [if_pos rfl, if_pos rfl]; grind
    | false => rw [if_neg Bool.false_ne_true, if_neg Bool.false_ne_true]; grind
theorem count_zero {α : Type} {f : α → Bool} : ∀ {xs : List α}, (∀ x ∈ xs, f x = false) → (xs.map f).count true = 0
  | [], _ => rfl
  | x :: r, h => by
    rw [List.map_cons, List.count_cons, h x List.mem_cons_self, count_zero fun y hy => h y (List.mem_cons_of_mem _ hy)]
    rfl
section
variable {b : Bx} {ws ss : List Int} {d : Bool} {n : Nat}
theorem count_laidTo (hb : b.Ok n) (hW : WOk ws) (hS : SOk ss ws.length) (x y : Rat) : ∀ j, j ≤ ss.length → ((laidTo b ws ss d j).map fun c => lies c x y).count true = ((List.range j).map fun i => lies (cutAt b (sumsM ws ss) d i) x y).count true
  | 0, _ => rfl
  | j + 1, hj => by
    have hG := sums_ok hW hS
    have hjl : j < (sumsM ws ss).length := by rw [sums_len]; omega
    have hc := slab_okG (d := d) hb hG hjl
    have hr := (row_ok hW hS (i := j) (by omega)).g
    rw [laidTo_succ, List.map_append, List.count_append, count_laidTo hb hW hS x y j (by omega), List.range_succ, List.map_append, List.count_append]
    congr 1
    rw [List.map_cons, List.map_nil]
    unfold laidAt cutM
    rw [List.map_map]
    by_cases hl : lies (cutAt b (sumsM ws ss) d j) x y = true
    · rw [hl]
      exact count_liesG hc hr (!d) hl
    · have e : lies (cutAt b (sumsM ws ss) d j) x y = false := by
        cases z : lies (cutAt b (sumsM ws ss) d j) x y with
        | true => exact absurd z hl
        | false => rfl
      rw [e]
      refine count_zero fun k hk => ?_
      show lies (cutAt (cutAt b (sumsM ws ss) d j) (rowAt ws ss j) (!d) k) x y = false
      cases z : lies (cutAt (cutAt b (sumsM ws ss) d j) (rowAt ws ss j) (!d) k) x y with
      | true => exact absurd (lies_sub hc hr (List.mem_range.mp hk) z) hl
      | false => rfl
/-- each point of the box lies in just one of the laid boxes -/
theorem count_laid (hb : b.Ok n) (hW : WOk ws) (hS : SOk ss ws.length) {x y : Rat} (hl : lies b x y = true) : ((laidM b ws ss d).map fun c => lies c x y).count true = 1 := by
  have e := count_liesG hb (sums_ok hW hS) d hl
  rw [sums_len] at e
  rw [← e]
  exact count_laidTo hb hW hS x y _ (Nat.le_refl _)
theorem laid_mem {c : Bx} (hS : SOk ss ws.length) (h : c ∈ laidM b ws ss d) : ∃ j k, j < ss.length ∧ k < (rowAt ws ss j).length ∧ c = cutAt (cutAt b (sumsM ws ss) d j) (rowAt ws ss j) (!d) k := by
  unfold laidM laidTo at h
  obtain ⟨l, hl, hc⟩ := List.mem_flatten.mp h
  obtain ⟨j, hj, rfl⟩ := List.mem_map.mp hl
  unfold laidAt cutM at hc
  obtain ⟨k, hk, rfl⟩ := List.mem_map.mp hc
  exact ⟨j, k, List.mem_range.mp hj, List.mem_range.mp hk, rfl⟩
theorem laid_ok {c : Bx} (hb : b.Ok n) (hW : WOk ws) (hS : SOk ss ws.length) (h : c ∈ laidM b ws ss d) : c.Ok (4 * n + 72) := by
  obtain ⟨j, k, hj, hk, rfl⟩ := laid_mem hS h
  exact (slab_okG (slab_okG hb (sums_ok hW hS) (by rw [sums_len]; exact hj)) (row_ok hW hS hj).g hk).mono (by omega)
theorem laid_in {c : Bx} (hb : b.Ok n) (hW : WOk ws) (hS : SOk ss ws.length) (h : c ∈ laidM b ws ss d) : lies b c.l c.t = true := by
  have ho := laid_ok hb hW hS h
  obtain ⟨j, k, hj, hk, rfl⟩ := laid_mem hS h
  have hG := sums_ok hW hS
  have hjl : j < (sumsM ws ss).length := by rw [sums_len]; omega
  refine lies_sub (d := d) hb hG hjl (lies_sub (d := !d) (slab_okG (d := d) hb hG hjl) (row_ok hW hS hj).g hk (lies_iff.mpr ?_))
  have h0 := ho.w0
  have h1 := ho.h0
  exact ⟨⟨by grind, by grind⟩, by grind, by grind⟩
theorem cut_area (b : Bx) (ws : List Int) (d : Bool) (i : Nat) : (cutAt b ws d i).w * (cutAt b ws d i).h = b.w * b.h * shr ws i := by
  rw [cutAt_eq]
  unfold slab
  cases d with
  | true =>
    rw [if_pos rfl]
    show b.w * (b.h * shr ws i) = b.w * b.h * shr ws i
    grind
  | false =>
    rw [if_neg Bool.false_ne_true]
    show (b.w * shr ws i) * b.h = b.w * b.h * shr ws i
    grind
theorem row_getD (hS : SOk ss ws.length) {j k : Nat} (hj : j < ss.length) (hk : k < (rowAt ws ss j).length) : (rowAt ws ss j).getD k 0 = ws.getD (off ss j + k) 0 := by
  rw [row_len hS hj] at hk
  unfold rowAt
  generalize ss.getD j 0 = z at *
  rw [List.getD_eq_getElem?_getD, List.getD_eq_getElem?_getD, List.getElem?_take_of_lt hk, List.getElem?_drop]
theorem dv_chain {R T w : Int} (hR : R ≠ 0) : Rat.divInt R T * Rat.divInt w R = Rat.divInt w T := by
  rw [Rat.divInt_eq_div, Rat.divInt_eq_div, Rat.divInt_eq_div, Rat.div_def, Rat.div_def, Rat.div_def]
  have e := Rat.mul_inv_cancel (R : Rat) (fun z => hR (Rat.intCast_eq_zero_iff.mp z))
  grind
theorem shr_row (hW : WOk ws) (hS : SOk ss ws.length) {j k : Nat} (hj : j < ss.length) (hk : k < (rowAt ws ss j).length) : shr (sumsM ws ss) j * shr (rowAt ws ss j) k = shr ws (off ss j + k) := by
  unfold shr
  rw [sums_getD hj, sums_sum hS, row_getD hS hj hk]
  exact dv_chain (by have := (row_ok hW hS hj).sum; omega)
theorem laid_areas (hW : WOk ws) (hS : SOk ss ws.length) : ∀ j, j ≤ ss.length → (laidTo b ws ss d j).map (fun c => c.w * c.h) = (List.range (off ss j)).map fun i => b.w * b.h * shr ws i
  | 0, _ => by simp [laidTo, off]
  | j + 1, hj => by
    rw [laidTo_succ, List.map_append, laid_areas hW hS j (by omega), hS.off_succ (by omega), List.range_add, List.map_append]
    congr 1
    unfold laidAt cutM
    rw [List.map_map, List.map_map, row_len hS (by omega)]
    refine List.map_congr_left fun k hk => ?_
    have hk2 : k < (rowAt ws ss j).length := by
      rw [row_len hS (by omega)]
      exact List.mem_range.mp hk
    show (cutAt (cutAt b (sumsM ws ss) d j) (rowAt ws ss j) (!d) k).w * (cutAt (cutAt b (sumsM ws ss) d j) (rowAt ws ss j) (!d) k).h = b.w * b.h * shr ws (off ss j + k)
    rw [cut_area, cut_area, ← shr_row hW hS (by omega) hk2]
    grind
theorem laid_area {i : Nat} {c : Bx} (hW : WOk ws) (hS : SOk ss ws.length) (h : (laidM b ws ss d)[i]? = some c) : i < ws.length ∧ c.w * c.h = b.w * b.h * shr ws i := by
  have e := laid_areas (b := b) (d := d) hW hS ss.length (Nat.le_refl _)
  have hi := (List.getElem?_eq_some_iff.mp h).1
  rw [laidM_len b d hS] at hi
  rw [hS.off_len] at e
  have e2 := congrArg (fun l => l[i]?) e
  simp only [List.getElem?_map, List.getElem?_range hi] at e2
  have h' : (laidTo b ws ss d ss.length)[i]? = some c := h
  rw [h'] at e2
  exact ⟨hi, Option.some.inj e2⟩
theorem shr_timesG (h : WGk ws) (i : Nat) : shr ws i * ((ws.sum : Int) : Rat) = ((ws.getD i 0 : Int) : Rat) := by
  unfold shr
  rw [Rat.divInt_eq_div, Rat.div_def, Rat.mul_assoc, Rat.inv_mul_cancel _ (by have := int_pos h.sum.1; grind), Rat.mul_one]
theorem sz_shr (h : WOk ws) {i : Nat} (hi : i < ws.length) : Sz 23 (shr ws i) := sz_share (by have := getD_ok h hi; omega) h.sum
theorem sz_pre (h : WOk ws) (i : Nat) : Sz 23 (pre ws i) := sz_share (h.take i) h.sum
end
theorem point_inM {l w : Rat} {r m : Int} (hw : 0 < w) (h0 : 0 ≤ r) (h1 : r < m) : ¬ l + w * Rat.divInt r m < l ∧ l + w * Rat.divInt r m < l + w := by
  have m0 := int_pos (show (0 : Int) < m by omega)
  have e : Rat.divInt r m * (m : Rat) = (r : Rat) := by
    rw [Rat.divInt_eq_div, Rat.div_def, Rat.mul_assoc, Rat.inv_mul_cancel _ (by grind), Rat.mul_one]
  have r1 : (r : Rat) < ((m : Int) : Rat) := Rat.intCast_lt_intCast.mpr h1
  have s0 := (divInt_01 h0 (Int.le_of_lt h1) (by omega)).1
  have s1 : Rat.divInt r m < 1 := by
    by_cases z : Rat.divInt r m < 1
    · exact z
    · have z2 : Rat.divInt r m = 1 := by
        have := (divInt_01 h0 (Int.le_of_lt h1) (by omega)).2
        grind
      rw [z2] at e
      grind
  have n0 := Rat.mul_nonneg (Rat.le_of_lt hw) s0
  have n1 := Rat.mul_lt_mul_of_pos_left s1 hw
  rw [Rat.mul_one] at n1
  constructor <;> grind
/-! ### a list of parts, added up -/
@[irreducible] def spTotal (K : PySem.W.Frag) : Sp := fun vs H Q _ => ∃ (L : Addr) (us : List V) (qs : List Rat) (f : Nat → Rat), vs = [.ref L] ∧ SqL K H L us ∧ Al (PtV K H) us qs ∧ f 0 = 0 ∧ (∀ i q, qs[i]? = some q → f (i + 1) = f i + q ∧ Sz 3000 q) ∧ (∀ i, i ≤ qs.length → Sz 3000 (f i)) ∧ ∀ u H', Same H H' → PtV K H' u (f qs.length) → Q u H'
theorem total_step {K : PySem.W.Frag} {H : Hp} {Q : VK} {E : XK} {vs : List V} {L : Addr} {us : List V} {qs : List Rat} (f : Nat → Rat) (hL : SqL K H L us) (hA : Al (PtV K H) us qs) (f0 : f 0 = 0) (fs : ∀ i q, qs[i]? = some q → f (i + 1) = f i + q ∧ Sz 3000 q) (fz : ∀ i, i ≤ qs.length → Sz 3000 (f i)) (q : ∀ u H', Same H H' → PtV K H' u (f qs.length) → Q u H') (hvs : vs = [.ref L] := by rfl) : spTotal K vs H Q E := by
  unfold spTotal
  exact ⟨L, us, qs, f, hvs, hL, hA, f0, fs, fz, q⟩
end Cc
namespace Cc
open PySem PySem.Spec PyProof.Rows L2
/-! ### the greatest of parts -/
def mostL (qs : List Rat) : Rat := qs.foldl gr (qs.headD 0)
theorem gr_self (x : Rat) : gr x x = x := by
  unfold gr
  split <;> rfl
theorem gr_ge (x y : Rat) : x ≤ gr x y ∧ y ≤ gr x y := by
  unfold gr
  split <;> constructor <;> grind
theorem gr_or (x y : Rat) : gr x y = x ∨ gr x y = y := by
  unfold gr
  split
  · exact .inr rfl
  · exact .inl rfl
theorem foldl_gr_mem : ∀ (l : List Rat) (x : Rat), l.foldl gr x = x ∨ l.foldl gr x ∈ l
  | [], _ => .inl rfl
  | y :: r, x => by
    rw [List.foldl_cons]
    rcases foldl_gr_mem r (gr x y) with h | h
    · rcases gr_or x y with e | e
      · exact .inl (h.trans e)
      · rw [h, e]
        exact .inr List.mem_cons_self
    · exact .inr (List.mem_cons_of_mem _ h)
theorem foldl_gr_ge : ∀ (l : List Rat) (x : Rat), x ≤ l.foldl gr x ∧ ∀ q ∈ l, q ≤ l.foldl gr x
  | [], x => ⟨by rw [List.foldl_nil]; exact Rat.le_refl, fun q hq => by cases hq⟩
  | y :: r, x => by
    have ih := foldl_gr_ge r (gr x y)
    have g := gr_ge x y
    rw [List.foldl_cons]
    refine ⟨Rat.le_trans g.1 ih.1, fun q hq => ?_⟩
    rcases List.mem_cons.mp hq with rfl | hq
    · exact Rat.le_trans g.2 ih.1
    · exact ih.2 q hq
theorem mostL_mem {qs : List Rat} (h : qs ≠ []) : mostL qs ∈ qs := by
  cases qs with
  | nil => exact absurd rfl h
  | cons x r =>
    unfold mostL
    rw [List.headD_cons]
    rcases foldl_gr_mem (x :: r) x with e | e
    · rw [e]
      exact List.mem_cons_self
    · exact e
theorem mostL_ge {qs : List Rat} {q : Rat} (h : q ∈ qs) : q ≤ mostL qs := (foldl_gr_ge qs _).2 q h
theorem mostL_eq {qs : List Rat} {m : Rat} (h : m ∈ qs) (h2 : ∀ q ∈ qs, q ≤ m) : mostL qs = m :=
  Rat.le_antisymm (h2 _ (mostL_mem (List.ne_nil_of_mem h))) (mostL_ge h)
theorem mostL_flat {ls : List (List Rat)} (h : ∀ l ∈ ls, l ≠ []) (h0 : ls ≠ []) : mostL ls.flatten = mostL (ls.map mostL) := by
  have hm : mostL (ls.map mostL) ∈ ls.map mostL := mostL_mem (by simpa using h0)
  obtain ⟨l, hl, e⟩ := List.mem_map.mp hm
  refine mostL_eq ?_ fun q hq => ?_
  · rw [← e]
    exact List.mem_flatten.mpr ⟨l, hl, mostL_mem (h l hl)⟩
  · obtain ⟨l2, hl2, hq⟩ := List.mem_flatten.mp hq
    exact Rat.le_trans (mostL_ge hq) (mostL_ge (List.mem_map.mpr ⟨l2, hl2, rfl⟩))
theorem most_take {qs : List Rat} {i : Nat} {q x : Rat} (h : qs[i]? = some q) : (qs.take (i + 1)).foldl gr x = gr ((qs.take i).foldl gr x) q := by
  rw [List.take_add_one, h, List.foldl_append]
  rfl
theorem most_take_mem {qs : List Rat} {i : Nat} (h : qs ≠ []) : (qs.take i).foldl gr (qs.headD 0) ∈ qs := by
  rcases foldl_gr_mem (qs.take i) (qs.headD 0) with e | e
  · rw [e]
    cases qs with
    | nil => exact absurd rfl h
    | cons x r => exact List.mem_cons_self
  · exact List.mem_of_mem_take e
/-! ### shapes of rows -/
def shpX (g : Rat) (x : Int) : Rat := gr (g * (x : Rat)) (1 / (g * (x : Rat)))
def rowM (ws : List Int) (first size : Nat) : List Int := (ws.drop first).take size
def gform (b : Bx) (T : Int) (row : List Int) (d : Bool) : Rat := (if d then b.w / b.h else b.h / b.w) * Rat.divInt T (row.sum * row.sum)
def rowShape (b : Bx) (ws : List Int) (first size : Nat) (d : Bool) : Rat := mostL ((rowM ws first size).map (shpX (gform b ws.sum (rowM ws first size) d)))
def shapesM (b : Bx) (ws ss : List Int) (d : Bool) : List Rat := (List.range ss.length).map fun j => rowShape b ws (off ss j) (ss.getD j 0).toNat d
def worstM (b : Bx) (ws ss : List Int) (d : Bool) : Rat := mostL (shapesM b ws ss d)
theorem div_of {A B C : Rat} (h : A = C * B) (hB : B ≠ 0) : A / B = C := by
  rw [h, Rat.div_def, Rat.mul_assoc, Rat.mul_inv_cancel B hB, Rat.mul_one]
theorem inv_le {a b : Rat} (ha : 0 < a) (h : a ≤ b) : 1 / b ≤ 1 / a := by
  have hb : 0 < b := by grind
  have e1 : 1 / a * a = 1 := by rw [Rat.div_def, Rat.one_mul, Rat.inv_mul_cancel a (by grind)]
  have e2 : 1 / b * b = 1 := by rw [Rat.div_def, Rat.one_mul, Rat.inv_mul_cancel b (by grind)]
  have p0 : 0 < 1 / a := by
    rw [Rat.div_def, Rat.one_mul]
    exact Rat.inv_pos.mpr ha
  by_cases z : 1 / b ≤ 1 / a
  · exact z
  · have z' : 1 / a < 1 / b := by grind
    have h1 := Rat.mul_lt_mul_of_pos_right z' hb
    have h2 := Rat.mul_le_mul_of_nonneg_left h (Rat.le_of_lt p0)
    grind
theorem gform_pos {b : Bx} {T : Int} {row : List Int} {n : Nat} (hb : b.Ok n) (hT : 0 < T) (hR : 0 < row.sum) (d : Bool) : 0 < gform b T row d := by
  unfold gform
  have h1 : 0 < Rat.divInt T (row.sum * row.sum) := divInt_pos hT (Int.mul_pos hR hR)
  cases d with
  | true =>
    rw [if_pos rfl, Rat.div_def]
    exact Rat.mul_pos (Rat.mul_pos hb.w0 (Rat.inv_pos.mpr hb.h0)) h1
  | false =>
    rw [if_neg Bool.false_ne_true, Rat.div_def]
    exact Rat.mul_pos (Rat.mul_pos hb.h0 (Rat.inv_pos.mpr hb.w0)) h1
theorem shp_form {w h s S D R T x : Rat} (hw : 0 < w) (hh : 0 < h) (hS : 0 < S) (hs : 0 < s) (hR : 0 < R) (e1 : s * R = x) (e2 : S * T = R) (e3 : D * (R * R) = T) :
    (w * s) / (h * S) = w / h * D * x ∧ (h * S) / (w * s) = 1 / (w / h * D * x) := by
  have k : D * R * S = 1 := by
    have h1 : (D * R * S) * R = R := by grind
    have h2 := congrArg (fun z => z * R⁻¹) h1
    simp only [Rat.mul_assoc, Rat.mul_inv_cancel R (by grind : R ≠ 0), Rat.mul_one] at h2
    grind
  have hwh : w / h * h = w := by rw [Rat.div_def, Rat.mul_assoc, Rat.inv_mul_cancel h (by grind), Rat.mul_one]
  have hA : w * s = (w / h * D * x) * (h * S) := by
    have : (w / h * D * x) * (h * S) = (w / h * h) * (s * (D * R * S)) := by rw [← e1]; grind
    rw [this, k, hwh, Rat.mul_one]
  have p1 : 0 < h * S := Rat.mul_pos hh hS
  have p2 : 0 < w * s := Rat.mul_pos hw hs
  refine ⟨div_of hA (by grind), div_of ?_ (by grind)⟩
  generalize w / h * D * x = C at *
  have hC : C ≠ 0 := fun z => by
    rw [z, Rat.zero_mul] at hA
    grind
  rw [hA, ← Rat.mul_assoc, Rat.div_def, Rat.one_mul, Rat.inv_mul_cancel C hC, Rat.one_mul]
section
variable {b : Bx} {ws ss : List Int} {n : Nat}
theorem shp_laid (hb : b.Ok n) (hW : WOk ws) (hS : SOk ss ws.length) (d : Bool) {j k : Nat} (hj : j < ss.length) (hk : k < (rowAt ws ss j).length) :
    shp (cutAt (cutAt b (sumsM ws ss) d j) (rowAt ws ss j) (!d) k) = shpX (gform b ws.sum (rowAt ws ss j) d) ((rowAt ws ss j).getD k 0) := by
  have hR := (row_ok hW hS hj)
  have hG := sums_ok hW hS
  have r0 := int_pos hR.sum.1
  have e1 := shr_times hR k
  have e2 : shr (sumsM ws ss) j * ((ws.sum : Int) : Rat) = (((rowAt ws ss j).sum : Int) : Rat) := by
    rw [← sums_sum hS, shr_timesG hG, sums_getD hj]
  have e3 : Rat.divInt ws.sum ((rowAt ws ss j).sum * (rowAt ws ss j).sum) * ((((rowAt ws ss j).sum : Int) : Rat) * (((rowAt ws ss j).sum : Int) : Rat)) = ((ws.sum : Int) : Rat) := by
    rw [Rat.divInt_eq_div, Rat.div_def, Rat.mul_assoc, Rat.intCast_mul, Rat.inv_mul_cancel _ (by have := Rat.mul_pos r0 r0; grind), Rat.mul_one]
  have s0 := hG.shr (i := j) (by rw [sums_len]; exact hj)
  have s1 := hR.g.shr hk
  rw [cutAt_eq, cutAt_eq]
  unfold shp shpX gform slab
  cases d with
  | true =>
    simp only [Bool.not_true, if_true, if_false, Bool.false_eq_true]
    obtain ⟨f1, f2⟩ := shp_form hb.w0 hb.h0 s0 s1 r0 e1 e2 e3
    rw [f1, f2]
  | false =>
    simp only [Bool.not_false, if_true, if_false, Bool.false_eq_true]
    obtain ⟨f1, f2⟩ := shp_form hb.h0 hb.w0 s0 s1 r0 e1 e2 e3
    rw [f1, f2, gr_comm]
theorem map_getD {α : Type} (f : Int → α) : ∀ (row : List Int), (List.range row.length).map (fun k => f (row.getD k 0)) = row.map f
  | [] => rfl
  | x :: r => by
    rw [List.length_cons, List.range_succ_eq_map, List.map_cons, List.map_map, List.map_cons, ← map_getD f r]
    rfl
theorem shp_row (hb : b.Ok n) (hW : WOk ws) (hS : SOk ss ws.length) (d : Bool) {j : Nat} (hj : j < ss.length) : (laidAt b ws ss d j).map shp = (rowAt ws ss j).map (shpX (gform b ws.sum (rowAt ws ss j) d)) := by
  rw [← map_getD]
  unfold laidAt cutM
  rw [List.map_map]
  exact List.map_congr_left fun k hk => shp_laid hb hW hS d hj (List.mem_range.mp hk)
theorem most_laid (hb : b.Ok n) (hW : WOk ws) (hS : SOk ss ws.length) (d : Bool) : mostL ((laidM b ws ss d).map shp) = worstM b ws ss d := by
  unfold worstM shapesM laidM laidTo
  rw [List.map_flatten, List.map_map]
  rw [mostL_flat, List.map_map]
  · congr 1
    refine List.map_congr_left fun j hj => ?_
    show mostL ((laidAt b ws ss d j).map shp) = _
    rw [shp_row hb hW hS d (List.mem_range.mp hj)]
    rfl
  · intro l hl
    obtain ⟨j, hj, rfl⟩ := List.mem_map.mp hl
    have h := (row_ok hW hS (List.mem_range.mp hj)).l0
    intro z
    have z2 : ((laidAt b ws ss d j).map shp).length = 0 := congrArg List.length (show (laidAt b ws ss d j).map shp = [] from z)
    rw [List.length_map] at z2
    unfold laidAt at z2
    rw [cutM_len] at z2
    omega
  · have h := hS.ne hW.l0
    intro z
    have z2 := congrArg List.length z
    rw [List.length_map, List.length_range, List.length_nil] at z2
    omega
/-- the greatest shape of a row by its greatest and its least weight -/
theorem most_ends {row : List Int} {g : Rat} {M m : Int} (hg : 0 < g) (h1 : ∀ x ∈ row, 1 ≤ x) (hM : M ∈ row) (hM2 : ∀ x ∈ row, x ≤ M) (hm : m ∈ row) (hm2 : ∀ x ∈ row, m ≤ x) :
    mostL (row.map (shpX g)) = gr (g * (M : Rat)) (1 / (g * (m : Rat))) := by
  have cast : ∀ {x y : Int}, x ≤ y → g * (x : Rat) ≤ g * (y : Rat) := fun h => Rat.mul_le_mul_of_nonneg_left (Rat.intCast_le_intCast.mpr h) (Rat.le_of_lt hg)
  have pos : ∀ {x : Int}, x ∈ row → 0 < g * (x : Rat) := fun h => Rat.mul_pos hg (int_pos (by have := h1 _ h; omega))
  have i1 := inv_le (pos hm) (cast (hm2 M hM))
  have c1 := cast (hm2 M hM)
  refine mostL_eq ?_ fun q hq => ?_
  · rw [List.mem_map]
    by_cases e : g * (M : Rat) < 1 / (g * (m : Rat))
    · refine ⟨m, hm, ?_⟩
      unfold shpX gr
      rw [if_pos e, if_pos (by grind)]
    · refine ⟨M, hM, ?_⟩
      unfold shpX gr
      rw [if_neg e, if_neg (by grind)]
  · obtain ⟨x, hx, rfl⟩ := List.mem_map.mp hq
    have i2 := inv_le (pos hm) (cast (hm2 x hx))
    have c2 := cast (hM2 x hx)
    have g1 := gr_ge (g * (M : Rat)) (1 / (g * (m : Rat)))
    unfold shpX
    rcases gr_or (g * (x : Rat)) (1 / (g * (x : Rat))) with e | e
    · rw [e]
      grind
    · rw [e]
      grind
theorem laidTo_take (hS : SOk ss ws.length) (d : Bool) : ∀ m i, i ≤ m → m ≤ ss.length → (laidTo b ws ss d m).take (off ss i) = laidTo b ws ss d i
  | 0, i, hi, _ => by
    have : i = 0 := by omega
    subst this
    simp [laidTo]
  | m + 1, i, hi, hm => by
    by_cases e : i = m + 1
    · subst e
      exact List.take_of_length_le (by rw [laidTo_len b d hS _ hm]; exact Nat.le_refl _)
    · have h1 := laidTo_take hS d m i (by omega) (by omega)
      have h2 := laidTo_len b d hS m (by omega)
      have h3 : off ss i ≤ off ss m := by
        have := congrArg List.length h1
        rw [List.length_take, laidTo_len b d hS i (by omega), h2] at this
        omega
      rw [laidTo_succ, List.take_append_of_le_length (by rw [h2]; exact h3), h1]
theorem laid_slice (hS : SOk ss ws.length) (d : Bool) {j : Nat} (hj : j < ss.length) : ((laidM b ws ss d).drop (off ss j)).take (ss.getD j 0).toNat = laidAt b ws ss d j := by
  have h1 := laidTo_take (b := b) hS d ss.length (j + 1) hj (Nat.le_refl _)
  rw [hS.off_succ hj, laidTo_succ] at h1
  have h2 := congrArg (List.drop (off ss j)) h1
  rw [List.drop_take, Nat.add_sub_cancel_left, ← laidTo_len b d hS j (by omega), List.drop_left] at h2
  rw [← laidTo_len b d hS j (by omega)]
  exact h2
end
/-! ### sizes of shapes -/
theorem sz_gform {b : Bx} {T : Int} {row : List Int} {n : Nat} (hb : b.Ok n) (hT : 0 ≤ T ∧ T ≤ 4800000) (hR : 0 < row.sum ∧ row.sum ≤ 4800000) (d : Bool) : Sz (n + n + 46) (gform b T row d) := by
  unfold gform
  have h0 := Int.mul_pos hR.1 hR.1
  have h1 : row.sum * row.sum ≤ 4800000 * 4800000 := Int.mul_le_mul hR.2 hR.2 (by omega) (by omega)
  have z : Sz 46 (Rat.divInt T (row.sum * row.sum)) := size_divInt (by omega) (show T.natAbs < 2 ^ 46 by omega) (show (row.sum * row.sum).natAbs < 2 ^ 46 by omega)
  refine sz_mul (m := n + n) ?_ z (by omega)
  cases d with
  | true =>
    rw [if_pos rfl]
    exact sz_div hb.sw hb.sh (by have := hb.h0; grind) (Nat.le_refl _)
  | false =>
    rw [if_neg Bool.false_ne_true]
    exact sz_div hb.sh hb.sw (by have := hb.w0; grind) (Nat.le_refl _)
theorem sz_gr {n : Nat} {x y : Rat} (hx : Sz n x) (hy : Sz n y) : Sz n (gr x y) := by
  rcases gr_or x y with e | e <;> rw [e] <;> assumption
theorem sz_int {i : Int} (h : -4800000 ≤ i ∧ i ≤ 4800000) : Sz 23 (i : Rat) := ⟨sz23 h, Nat.one_lt_two_pow (by decide)⟩
end Cc
namespace Cc
open PySem PySem.Spec PyProof.Rows L2
/-! ### promises about shapes -/
def OneAt (K : PySem.W.Frag) (mg : Str → Option Value) : Prop := ∃ a, mg "ONE" = some (.ref a) ∧ ∀ H, PtV K H (.ref a) 1
theorem one_mk {K : PySem.W.Frag} {mg : Str → Option Value} {h : Heap} (X : K.In h) (G : h.Ns mainGlobals mg) {a : Addr} {dd : Option Addr} {n : Nat} {t u : Tok} {sl : Array (Option Value)}
    (e : PySem.W.nsIn K mainGlobals "ONE" = some (some (.ref a))) (l : K.lookup a = some ⟨.type "tuple", dd, .seq #[.int 1 t, .int 1 u] n, sl⟩) : OneAt K mg :=
  ⟨a, PySem.W.mg_of X G e, fun _ => ⟨a, rfl, .inr ⟨_, _, _, l, rfl, rfl, (show 2 ≤ sizeLine by decide), .cons ⟨t, rfl⟩ (.cons ⟨u, rfl⟩ .nil)⟩⟩⟩
theorem cut_rowM {ws : List Int} {first size : Nat} {lo hi : Int} (e1 : lo = first) (e2 : hi = (first : Int) + size) (h : first + size ≤ ws.length) : cutV (ws.map V.int) (some lo) (some hi) = (rowM ws first size).map V.int := by
  unfold cutV rowM
  rw [e2, e1, show (first : Int) + (size : Int) = ((first + size : Nat) : Int) by omega, List.length_map, HT.sIx_nat, HT.sIx_nat, Nat.min_eq_left (by omega), Nat.min_eq_left (by omega), Nat.add_sub_cancel_left, List.map_take, List.map_drop]
theorem rowM_ok {ws : List Int} {first size : Nat} (hW : WOk ws) (h0 : 1 ≤ size) (h : first + size ≤ ws.length) : WOk (rowM ws first size) := by
  have h1 := hW.l1
  unfold rowM
  refine ⟨by rw [List.length_take, List.length_drop]; omega, by rw [List.length_take, List.length_drop]; omega, fun x hx => hW.w x (List.mem_of_mem_drop (List.mem_of_mem_take hx))⟩
theorem sz_one : Sz 1 (1 : Rat) := ⟨by decide, by decide⟩
theorem rowShape_eq {b : Bx} {ws : List Int} {first size n : Nat} {d : Bool} {M m : Int} (hb : b.Ok n) (hW : WOk ws) (h0 : 1 ≤ size) (h : first + size ≤ ws.length) (hM : M ∈ rowM ws first size) (hM2 : ∀ x ∈ rowM ws first size, x ≤ M) (hm : m ∈ rowM ws first size) (hm2 : ∀ x ∈ rowM ws first size, m ≤ x) :
    rowShape b ws first size d = gr (gform b ws.sum (rowM ws first size) d * (M : Rat)) (1 / (gform b ws.sum (rowM ws first size) d * (m : Rat))) := by
  have hr := rowM_ok hW h0 h
  exact most_ends (gform_pos hb hW.sum.1 hr.sum.1 d) hr.g.w hM hM2 hm hm2
theorem sz_shpX {g : Rat} {x : Int} {n : Nat} (hg : Sz n g) (h0 : 0 < g) (hx : 1 ≤ x ∧ x ≤ 4800000) : Sz (n + 24) (shpX g x) := by
  have h1 := Rat.mul_pos h0 (int_pos (i := x) (by omega))
  have z : Sz (n + 23) (g * (x : Rat)) := sz_mul hg (sz_int (by omega)) (Nat.le_refl _)
  exact sz_gr (z.mono (by omega)) (sz_div sz_one z (by grind) (by omega))
theorem sz_rowShape {b : Bx} {ws : List Int} {first size n : Nat} (hb : b.Ok n) (hW : WOk ws) (h0 : 1 ≤ size) (h : first + size ≤ ws.length) (d : Bool) : Sz (n + n + 70) (rowShape b ws first size d) := by
  have hr := rowM_ok hW h0 h
  have hl := hr.l0
  have hm : rowShape b ws first size d ∈ (rowM ws first size).map (shpX (gform b ws.sum (rowM ws first size) d)) := mostL_mem (fun z => by
    have z2 := congrArg List.length z
    rw [List.length_map, List.length_nil] at z2
    omega)
  obtain ⟨x, hx, e⟩ := List.mem_map.mp hm
  rw [← e]
  have hs := hW.sum
  have hrs := hr.sum
  exact (sz_shpX (sz_gform hb (by omega) hrs d) (gform_pos hb hs.1 hrs.1 d) (hr.g.mem hx)).mono (by omega)
@[irreducible] def spGreat (K : PySem.W.Frag) : Sp := fun vs H Q _ => ∃ (L : Addr) (us : List V) (qs : List Rat), vs = [.ref L] ∧ SqL K H L us ∧ Al (PtV K H) us qs ∧ qs ≠ [] ∧ (∀ q ∈ qs, Sz 3900 q) ∧ ∀ u H', Same H H' → PtV K H' u (mostL qs) → Q u H'
@[irreducible] def spShapeB (K : PySem.W.Frag) : Sp := fun vs H Q _ => ∃ (v : V) (a : Addr) (b : Bx) (ws : List Int) (lo hi : Int) (first size : Nat) (d : Bool), vs = [v, .ref a, .int lo, .int hi, .str (sd d)] ∧ BxV K H v b ∧ b.Ok 450 ∧ IntsV K H a ws ∧ WOk ws ∧ lo = first ∧ hi = (first : Int) + size ∧ 1 ≤ size ∧ first + size ≤ ws.length ∧ ∀ u H', Same H H' → PtV K H' u (rowShape b ws first size d) → Q u H'
@[irreducible] def spRowShape (K : PySem.W.Frag) : Sp := fun vs H Q _ => ∃ (v : V) (a : Addr) (b : Bx) (ws : List Int) (lo hi : Int) (first size : Nat) (d : Bool), vs = [v, .ref a, .int lo, .int hi, .str (sd d)] ∧ BxV K H v b ∧ b.Ok 450 ∧ SqL K H a (ws.map V.int) ∧ WOk ws ∧ lo = first ∧ hi = size ∧ 1 ≤ size ∧ first + size ≤ ws.length ∧ ∀ u H', Same H H' → PtV K H' u (rowShape b ws first size d) → Q u H'
@[irreducible] def spWorst (K : PySem.W.Frag) : Sp := fun vs H Q _ => ∃ (v : V) (a t : Addr) (b : Bx) (ws ss : List Int) (d : Bool), vs = [v, .ref a, .ref t, .str (sd d)] ∧ BxV K H v b ∧ b.Ok 450 ∧ SqL K H a (ws.map V.int) ∧ WOk ws ∧ SqT K H t (ss.map V.int) ∧ SOk ss ws.length ∧ ∀ u H', Same H H' → PtV K H' u (worstM b ws ss d) → Q u H'
section
variable {K : PySem.W.Frag} {H H' : Hp} {a t : Addr} {ws ss : List Int} {Q : VK} {E : XK} {vs : List V} {b : Bx} {v : V} {d : Bool} {n : Nat}
theorem great_step {L : Addr} {us : List V} {qs : List Rat} (hL : SqL K H L us) (hA : Al (PtV K H) us qs) (h0 : qs ≠ []) (hz : ∀ q ∈ qs, Sz n q) (hn : n ≤ 3900) (q : ∀ u H', Same H H' → PtV K H' u (mostL qs) → Q u H') (hvs : vs = [.ref L] := by rfl) : spGreat K vs H Q E := by
  unfold spGreat
  exact ⟨L, us, qs, hvs, hL, hA, h0, fun q hq => (hz q hq).mono hn, q⟩
theorem shapebI_step {lo hi : Int} (first size : Nat) (hv : BxV K H v b) (hb : b.Ok n) (hn : n ≤ 450) (h : IntsV K H a ws) (hw : WOk ws) (e1 : lo = first) (e2 : hi = (first : Int) + size) (h0 : 1 ≤ size) (h1 : first + size ≤ ws.length) (q : ∀ u H', Same H H' → PtV K H' u (rowShape b ws first size d) → Q u H') (hvs : vs = [v, .ref a, .int lo, .int hi, .str (sd d)] := by rfl) : spShapeB K vs H Q E := by
  unfold spShapeB
  exact ⟨v, a, b, ws, lo, hi, first, size, d, hvs, hv, hb.mono hn, h, hw, e1, e2, h0, h1, q⟩
theorem shapeb_step {lo hi : Int} (first size : Nat) (hv : BxV K H v b) (hb : b.Ok n) (hn : n ≤ 450) (h : SqL K H a (ws.map V.int)) (hw : WOk ws) (e1 : lo = first) (e2 : hi = (first : Int) + size) (h0 : 1 ≤ size) (h1 : first + size ≤ ws.length) (q : ∀ u H', Same H H' → PtV K H' u (rowShape b ws first size d) → Q u H') (hvs : vs = [v, .ref a, .int lo, .int hi, .str (sd d)] := by rfl) : spShapeB K vs H Q E :=
  shapebI_step first size hv hb hn (.inl h) hw e1 e2 h0 h1 q hvs
theorem rowshape_step {lo hi : Int} (first size : Nat) (hv : BxV K H v b) (hb : b.Ok n) (hn : n ≤ 450) (h : SqL K H a (ws.map V.int)) (hw : WOk ws) (e1 : lo = first) (e2 : hi = size) (h0 : 1 ≤ size) (h1 : first + size ≤ ws.length) (q : ∀ u H', Same H H' → PtV K H' u (rowShape b ws first size d) → Q u H') (hvs : vs = [v, .ref a, .int lo, .int hi, .str (sd d)] := by rfl) : spRowShape K vs H Q E := by
  unfold spRowShape
  exact ⟨v, a, b, ws, lo, hi, first, size, d, hvs, hv, hb.mono hn, h, hw, e1, e2, h0, h1, q⟩
theorem worst_step (hv : BxV K H v b) (hb : b.Ok n) (hn : n ≤ 450) (h : SqL K H a (ws.map V.int)) (hw : WOk ws) (ht : SqT K H t (ss.map V.int)) (hs : SOk ss ws.length) (q : ∀ u H', Same H H' → PtV K H' u (worstM b ws ss d) → Q u H') (hvs : vs = [v, .ref a, .ref t, .str (sd d)] := by rfl) : spWorst K vs H Q E := by
  unfold spWorst
  exact ⟨v, a, t, b, ws, ss, d, hvs, hv, hb.mono hn, h, hw, ht, hs, q⟩
end
theorem Bxs.drop {K : PySem.W.Frag} {H : Hp} : ∀ (k : Nat) {vs : List V} {bs : List Bx}, Bxs K H vs bs → Bxs K H (vs.drop k) (bs.drop k)
  | 0, _, _, h => h
  | _ + 1, _, _, .nil => .nil
  | k + 1, _, _, .cons _ r => Bxs.drop k r
theorem Bxs.take {K : PySem.W.Frag} {H : Hp} : ∀ (k : Nat) {vs : List V} {bs : List Bx}, Bxs K H vs bs → Bxs K H (vs.take k) (bs.take k)
  | 0, _, _, _ => .nil
  | _ + 1, _, _, .nil => .nil
  | k + 1, _, _, .cons a r => .cons a (Bxs.take k r)
/-- the sizes that single a row out -/
def ss3 (first size n : Nat) : List Int := [(first : Int), (size : Int), (n : Int) - first - size].filter (fun x => decide (x > 0))
theorem ss3_eq {first size n : Nat} (h0 : 1 ≤ size) : ss3 first size n = (if (first : Int) > 0 then [(first : Int)] else []) ++ ((size : Int) :: (if (n : Int) - first - size > 0 then [(n : Int) - first - size] else [])) := by
  have hs : (size : Int) > 0 := by omega
  unfold ss3
  rw [List.filter_cons, List.filter_cons, List.filter_cons, List.filter_nil]
  by_cases a1 : (first : Int) > 0
  · rw [if_pos a1, if_pos (decide_eq_true a1), if_pos (decide_eq_true hs)]
    by_cases a3 : (n : Int) - first - size > 0
    · rw [if_pos a3, if_pos (decide_eq_true a3)]
      rfl
    · rw [if_neg a3, if_neg (fun z => a3 (of_decide_eq_true z))]
      rfl
  · rw [if_neg a1, if_neg (fun z => a1 (of_decide_eq_true z)), if_pos (decide_eq_true hs)]
    by_cases a3 : (n : Int) - first - size > 0
    · rw [if_pos a3, if_pos (decide_eq_true a3)]
      rfl
    · rw [if_neg a3, if_neg (fun z => a3 (of_decide_eq_true z))]
      rfl
theorem ss3_ok {first size n : Nat} (h0 : 1 ≤ size) (h : first + size ≤ n) : SOk (ss3 first size n) n ∧ ∃ j, j < (ss3 first size n).length ∧ off (ss3 first size n) j = first ∧ (ss3 first size n).getD j 0 = size := by
  refine ⟨⟨fun x hx => ?_, ?_⟩, ?_⟩
  · have := (List.mem_filter.mp hx).2
    have := of_decide_eq_true this
    omega
  · rw [ss3_eq h0, List.sum_append, List.sum_cons]
    split <;> split <;> simp <;> omega
  · rw [ss3_eq h0]
    by_cases a1 : (first : Int) > 0
    · rw [if_pos a1]
      exact ⟨1, by simp, by simp [off], rfl⟩
    · rw [if_neg a1]
      exact ⟨0, by simp, by simp [off]; omega, rfl⟩
/-! ### weights mixed, rows' places -/
def rLenK (K : PySem.W.Frag) : List V → Hp → VK → Prop := fun xs H Q => ∃ p ys, xs = [.ref p] ∧ (SqL K H p ys ∨ SqT K H p ys) ∧ Q (.int ys.length) H
theorem kk_len {X : Cx} {K : PySem.W.Frag} (hK : X.K = K) : CallR X (.builtin "len") (rLenK K) := by
  subst hK
  exact call_len_seq
theorem kk_bm {X : Cx} {K : PySem.W.Frag} {o e : Expr} {es : List Expr} {to : TE} {t : TA} {name : Str} {apos cpos : Pos} {T id : String} {r : V → List V → Hp → VK → Prop} (hK : X.K = K) (pa : PlainAttrs T) (slot : Slot T name id) (hty : typeOf (.builtin id) = pure (.type "method_descriptor")) (hm : MtR X id r) (ho : PE X o to) (ha : PA X (e :: es) t)
    (hbase : attributeBase o name X.env (eval o X.env) = eval o X.env := by rfl)
    (hfew : ((backTo cpos (starEach (e :: es) X.env)).all (fun x => !x.1) && (backToKw cpos (keywordEach [] X.env)).all (fun x => x.1.isSome)
      && decide ((e :: es).length + ([] : List Keyword).length + (if ([] : List Keyword).isEmpty then 0 else 1) < 30)) = true := by rfl)
    (hline : (apos.endLine == cpos.line) = true := by rfl) (hs : starEach (e :: es) X.env = (false, eval e X.env) :: starEach es X.env := by rfl) (hplain : (backTo cpos (starEach es X.env)).any (·.1) = false := by rfl) :
    PE X (.Call (.Attribute o name apos) (e :: es) [] cpos) (tBM K T r to t) := by
  subst hK
  exact pe_bm pa slot hty hm ho ha hbase hfew hline hs hplain
def spotsM (ss : List Int) : List (Int × Int) := (List.range ss.length).map fun i => ((ss.take i).sum, ss.getD i 0)
theorem spots_len {ss : List Int} : (spotsM ss).length = ss.length := by
  unfold spotsM
  rw [List.length_map, List.length_range]
theorem spots_get {ss : List Int} {i : Nat} {x : Int × Int} (h : (spotsM ss)[i]? = some x) : i < ss.length ∧ x = ((ss.take i).sum, ss.getD i 0) := by
  have hi := (List.getElem?_eq_some_iff.mp h).1
  rw [spots_len] at hi
  unfold spotsM at h
  rw [List.getElem?_map, List.getElem?_range hi] at h
  exact ⟨hi, (Option.some.inj h).symm⟩
@[irreducible] def spSpots (K : PySem.W.Frag) : Sp := fun vs H Q _ => ∃ (a : Addr) (ss : List Int) (n : Nat), vs = [.ref a] ∧ SqT K H a (ss.map V.int) ∧ SOk ss n ∧ n ≤ 12 ∧ ∀ L us H', H L = none → Same H H' → H' L = some (.lst us) → Al (PiV K H') us (spotsM ss) → Q (.ref L) H'
@[irreducible] def spMixed (K : PySem.W.Frag) : Sp := fun vs H Q _ => ∃ (c a : Addr) (xs : List Int) (P : Int → Prop), vs = [.ref c, .ref a] ∧ Bag H c ∧ H a = some (.lst (xs.map V.int)) ∧ a ≠ c ∧ xs.length ≤ 60 ∧ (∀ x ∈ xs, P x) ∧ ∀ L (ys : List Int) H', H L = none → H' L = some (.lst (ys.map V.int)) → ys.length = xs.length → ys.sum = xs.sum → (∀ x ∈ ys, P x) → Bag H' c → KpG c H H' → Q (.ref L) H'
section
variable {K : PySem.W.Frag} {H H' : Hp} {a : Addr} {ss : List Int} {Q : VK} {E : XK} {vs : List V}
theorem spots_step {n : Nat} (h : SqT K H a (ss.map V.int)) (hs : SOk ss n) (hn : n ≤ 12) (q : ∀ L us H', H L = none → Same H H' → H' L = some (.lst us) → Al (PiV K H') us (spotsM ss) → Q (.ref L) H') (hvs : vs = [.ref a] := by rfl) : spSpots K vs H Q E := by
  unfold spSpots
  exact ⟨a, ss, n, hvs, h, hs, hn, q⟩
theorem mixed_stepP (P : Int → Prop) {c : Addr} {xs : List Int} (hb : Bag H c) (h : H a = some (.lst (xs.map V.int))) (hne : a ≠ c) (hl : xs.length ≤ 60) (hw : ∀ x ∈ xs, P x) (q : ∀ L (ys : List Int) H', H L = none → H' L = some (.lst (ys.map V.int)) → ys.length = xs.length → ys.sum = xs.sum → (∀ x ∈ ys, P x) → Bag H' c → KpG c H H' → Q (.ref L) H') (hvs : vs = [.ref c, .ref a] := by rfl) : spMixed K vs H Q E := by
  unfold spMixed
  exact ⟨c, a, xs, P, hvs, hb, h, hne, hl, hw, q⟩
theorem mixed_step {c : Addr} {xs : List Int} (hb : Bag H c) (h : H a = some (.lst (xs.map V.int))) (hne : a ≠ c) (hl : xs.length ≤ 12) (hw : ∀ x ∈ xs, 1 ≤ x ∧ x ≤ 400000) (q : ∀ L (ys : List Int) H', H L = none → H' L = some (.lst (ys.map V.int)) → ys.length = xs.length → ys.sum = xs.sum → (∀ x ∈ ys, 1 ≤ x ∧ x ≤ 400000) → Bag H' c → KpG c H H' → Q (.ref L) H') (hvs : vs = [.ref c, .ref a] := by rfl) : spMixed K vs H Q E :=
  mixed_stepP _ hb h hne (by omega) hw q hvs
end
theorem cut_lo {ws : List Int} {first : Nat} {hi : Int} (e : hi = first) : cutV (ws.map V.int) none (some hi) = (ws.take first).map V.int := by
  unfold cutV
  rw [e, HT.sIx_none, HT.sIx_nat, List.drop_zero, Nat.sub_zero, List.length_map, ← List.map_take]
  congr 1
  rcases Nat.le_total first ws.length with h | h
  · rw [Nat.min_eq_left h]
  · rw [Nat.min_eq_right h, List.take_length, List.take_of_length_le h]
theorem cut_hi {ws : List Int} {at' : Nat} {lo : Int} (e : lo = at') (h : at' ≤ ws.length) : cutV (ws.map V.int) (some lo) none = (ws.drop at').map V.int := by
  unfold cutV
  rw [e, HT.sIx_none, HT.sIx_nat, List.length_map, Nat.min_eq_left h, List.map_drop]
  exact List.take_of_length_le (by rw [List.length_drop, List.length_map]; exact Nat.le_refl _)
theorem rowShape_of {b : Bx} {ws ws' : List Int} {f f' size : Nat} {d : Bool} (h1 : ws'.sum = ws.sum) (h2 : rowM ws' f' size = rowM ws f size) : rowShape b ws' f' size d = rowShape b ws f size d := by
  unfold rowShape
  rw [h1, h2]
theorem sum_erase : ∀ {xs : List Int} {k : Nat} {y : Int}, xs[k]? = some y → (xs.eraseIdx k).sum + y = xs.sum
  | [], k, y, h => by simp at h
  | x :: r, 0, y, h => by
    cases h
    rw [List.eraseIdx_cons_zero, List.sum_cons]
    omega
  | x :: r, k + 1, y, h => by
    rw [List.getElem?_cons_succ] at h
    have ih := sum_erase h
    rw [List.eraseIdx_cons_succ, List.sum_cons, List.sum_cons]
    omega
theorem map_erase (xs : List Int) (k : Nat) : (xs.map V.int).eraseIdx k = (xs.eraseIdx k).map V.int := by
  induction xs generalizing k with
  | nil => rfl
  | cons x r ih =>
    cases k with
    | zero => rfl
    | succ k => rw [List.map_cons, List.eraseIdx_cons_succ, List.eraseIdx_cons_succ, List.map_cons, ih]
end Cc
namespace Cc
open PySem PySem.Spec PyProof.Rows L2
/-! ### a dict of shapes, by the rows' ends -/
theorem u1 {n : Nat} (h : n + 64 < cLine) : n + 1 < cLine := by omega
def ky (i j : Nat) : List Key := [.inl (i : Int), .inl (j : Int)]
theorem ky_inj {i j i' j' : Nat} (h : ky i j = ky i' j') : i = i' ∧ j = j' := by
  unfold ky at h
  simp only [List.cons.injEq, Sum.inl.injEq, Int.natCast_inj, and_true] at h
  exact h
/-- all rows of n things -/
def AllR (n : Nat) (i j : Nat) : Prop := i < j ∧ j ≤ n
def DSh (K : PySem.W.Frag) (N : Nat) (C : Nat → Nat → Prop) (f : Nat → Nat → Rat) (m : Nat) (H : Hp) (a : Addr) : Prop := ∃ kvs : List (List Key × V), H a = some (.dT kvs) ∧ kvs.length ≤ m ∧ (∀ kv ∈ kvs, ∃ i j, kv.1 = ky i j ∧ AllR N i j) ∧ ∀ i j, C i j → ∃ v, valV kvs (ky i j) = some v ∧ PtV K H v (f i j)
section
variable {K : PySem.W.Frag} {C : Nat → Nat → Prop} {f : Nat → Nat → Rat} {m N : Nat} {H H' : Hp} {a : Addr}
theorem DSh.same (x : DSh K N C f m H a) (e : Same H H') : DSh K N C f m H' a := by
  obtain ⟨kvs, h1, h2, hk, h3⟩ := x
  refine ⟨kvs, e _ _ h1, h2, hk, fun i j c => ?_⟩
  obtain ⟨v, h4, h5⟩ := h3 i j c
  exact ⟨v, h4, h5.same e⟩
theorem DSh.ne (x : DSh K N C f m H a) {b : Addr} {ys : List V} (hb : H b = some (.lst ys)) : a ≠ b := fun z => by
  obtain ⟨kvs, h1, _⟩ := x
  rw [z, hb] at h1
  cases h1
theorem DSh.bag {b : Addr} (x : DSh K N C f m H a) (e : Kp b H H') (hb : Bag H b) : DSh K N C f m H' a := by
  obtain ⟨ys, hy⟩ := hb.lst
  have hn := x.ne hy
  obtain ⟨kvs, h1, h2, hk, h3⟩ := x
  refine ⟨kvs, e _ _ h1 hn, h2, hk, fun i j c => ?_⟩
  obtain ⟨v, h4, h5⟩ := h3 i j c
  exact ⟨v, h4, h5.bag e hb⟩
theorem DSh.mono {C' : Nat → Nat → Prop} {m' : Nat} (x : DSh K N C f m H a) (h : ∀ i j, C' i j → C i j) (hm : m ≤ m') : DSh K N C' f m' H a := by
  obtain ⟨kvs, h1, h2, hk, h3⟩ := x
  exact ⟨kvs, h1, Nat.le_trans h2 hm, hk, fun i j c => h3 i j (h i j c)⟩
theorem seqT_kpD {b a : Addr} {xs : List V} {kvs : List (List Key × V)} (e : Kp b H H') (hb : H b = some (.dT kvs)) (h : SqT K H a xs) : SqT K H' a xs := by
  rcases h with (h | ⟨o, h⟩) | h
  · exact .inl (.inl (e _ _ h (ne_of h hb (by intro z; cases z))))
  · exact .inl (.inr ⟨o, e _ _ h (ne_of h hb (by intro z; cases z))⟩)
  · exact .inr h
theorem PtV.kpD {b : Addr} {kvs : List (List Key × V)} {v : V} {q : Rat} (h : PtV K H v q) (e : Kp b H H') (hb : H b = some (.dT kvs)) : PtV K H' v q := by
  obtain ⟨a, rfl, h⟩ := h
  exact ⟨a, rfl, seqT_kpD e hb h⟩
theorem putK_len' {kvs : List (List Key × V)} {k : List Key} {v : V} : (putK kvs k v).length ≤ kvs.length + 1 := by
  unfold putK
  split
  · rw [List.length_map]
    omega
  · rw [List.length_append]
    exact Nat.le_refl _
/-- one shape more -/
theorem mem_putK {kvs : List (List Key × V)} {k : List Key} {v : V} {kv : List Key × V} (h : kv ∈ putK kvs k v) : kv.1 = k ∨ kv.1 ∈ kvs.map (·.1) := by
  unfold putK at h
  split at h
  · obtain ⟨y, hy, e⟩ := List.mem_map.mp h
    by_cases z : y.1 = k
    · rw [if_pos z] at e
      rw [← e]
      first | exact .inl rfl | exact .inl z
    · rw [if_neg z] at e
      rw [← e]
      exact .inr (List.mem_map.mpr ⟨y, hy, rfl⟩)
  · rcases List.mem_append.mp h with h | h
    · exact .inr (List.mem_map.mpr ⟨kv, h, rfl⟩)
    · rw [List.mem_singleton.mp h]
      exact .inl rfl
theorem DSh.put {i j : Nat} {v : V} (x : DSh K N C f m H a) (hN : AllR N i j) (hm : m < 900) (hv : PtV K H v (f i j)) (p : Addr) (hp : H p = some (.tup [.int i, .int j])) :
    ∃ H4, DPut H a (.ref p) v H4 ∧ Kp a H H4 ∧ DSh K N (fun i' j' => C i' j' ∨ (i' = i ∧ j' = j)) f (m + 1) H4 a := by
  obtain ⟨kvs, h1, h2, hk, h3⟩ := x
  refine ⟨upd H a (.dT (putK kvs (ky i j) v)), DPut.t h1 hp (small1000 (by omega)), Kp.upd, _, upd_same, Nat.le_trans putK_len' (by omega), fun kv hkv => ?_, fun i' j' c => ?_⟩
  · rcases mem_putK hkv with e | e
    · exact ⟨i, j, e, hN⟩
    · obtain ⟨kv', h4, h5⟩ := List.mem_map.mp e
      obtain ⟨i', j', h6, h7⟩ := hk kv' h4
      exact ⟨i', j', by rw [← h5]; exact h6, h7⟩
  rw [valV_put]
  by_cases e : ky i' j' = ky i j
  · obtain ⟨rfl, rfl⟩ := ky_inj e
    rw [if_pos rfl]
    exact ⟨v, rfl, hv.kpD Kp.upd h1⟩
  · rw [if_neg e]
    rcases c with c | ⟨rfl, rfl⟩
    · obtain ⟨w, h4, h5⟩ := h3 i' j' c
      exact ⟨w, h4, h5.kpD Kp.upd h1⟩
    · exact absurd rfl e
/-- a shape looked up -/
theorem DSh.get {i j : Nat} (x : DSh K N C f m H a) (c : C i j) (p : Addr) (hp : H p = some (.tup [.int i, .int j])) : ∃ v, DGet H a (.ref p) (some v) ∧ PtV K H v (f i j) := by
  obtain ⟨kvs, h1, h2, hk, h3⟩ := x
  obtain ⟨v, h4, h5⟩ := h3 i j c
  refine ⟨v, ?_, h5⟩
  rw [← h4]
  exact DGet.t h1 hp
end
def fSh (b : Bx) (ws : List Int) (d : Bool) (i j : Nat) : Rat := rowShape b ws i (j - i) d
@[irreducible] def spShapes (K : PySem.W.Frag) : Sp := fun vs H Q _ => ∃ (v : V) (a : Addr) (b : Bx) (ws : List Int) (d : Bool), vs = [v, .ref a, .str (sd d)] ∧ BxV K H v b ∧ b.Ok 450 ∧ SqL K H a (ws.map V.int) ∧ WOk ws ∧ ∀ D H', H D = none → Same H H' → DSh K ws.length (AllR ws.length) (fSh b ws d) 200 H' D → Q (.ref D) H'
theorem shapes_step {K : PySem.W.Frag} {H : Hp} {a : Addr} {ws : List Int} {Q : VK} {E : XK} {vs : List V} {b : Bx} {v : V} {d : Bool} {n : Nat} (hv : BxV K H v b) (hb : b.Ok n) (hn : n ≤ 450) (h : SqL K H a (ws.map V.int)) (hw : WOk ws) (q : ∀ D H', H D = none → Same H H' → DSh K ws.length (AllR ws.length) (fSh b ws d) 200 H' D → Q (.ref D) H') (hvs : vs = [v, .ref a, .str (sd d)] := by rfl) : spShapes K vs H Q E := by
  unfold spShapes
  exact ⟨v, a, b, ws, d, hvs, hv, hb.mono hn, h, hw, q⟩
@[irreducible] def spShapesI (K : PySem.W.Frag) : Sp := fun vs H Q _ => ∃ (v : V) (a : Addr) (b : Bx) (ws : List Int) (d : Bool), vs = [v, .ref a, .str (sd d)] ∧ BxV K H v b ∧ b.Ok 450 ∧ IntsV K H a ws ∧ WOk ws ∧ ∀ D H', H D = none → Same H H' → DSh K ws.length (AllR ws.length) (fSh b ws d) 200 H' D → Q (.ref D) H'
theorem shapesI_step {K : PySem.W.Frag} {H : Hp} {a : Addr} {ws : List Int} {Q : VK} {E : XK} {vs : List V} {b : Bx} {v : V} {d : Bool} {n : Nat} (hv : BxV K H v b) (hb : b.Ok n) (hn : n ≤ 450) (h : IntsV K H a ws) (hw : WOk ws) (q : ∀ D H', H D = none → Same H H' → DSh K ws.length (AllR ws.length) (fSh b ws d) 200 H' D → Q (.ref D) H') (hvs : vs = [v, .ref a, .str (sd d)] := by rfl) : spShapesI K vs H Q E := by
  unfold spShapesI
  exact ⟨v, a, b, ws, d, hvs, hv, hb.mono hn, h, hw, q⟩
/-! ### greedy sizes -/
def gEnd (f : Nat → Nat → Rat) (n b e : Nat) : Nat := if e < n ∧ ¬ f b e < f b (e + 1) then gEnd f n b (e + 1) else e
termination_by n - e
theorem gEnd_go {f : Nat → Nat → Rat} {n b e : Nat} (h : e < n ∧ ¬ f b e < f b (e + 1)) : gEnd f n b e = gEnd f n b (e + 1) := by
  rw [gEnd, if_pos h]
theorem gEnd_stop {f : Nat → Nat → Rat} {n b e : Nat} (h : ¬ (e < n ∧ ¬ f b e < f b (e + 1))) : gEnd f n b e = e := by
  rw [gEnd, if_neg h]
theorem gEnd_ge (f : Nat → Nat → Rat) (n b : Nat) : ∀ k e, n - e ≤ k → e ≤ gEnd f n b e
  | 0, e, h => by
    rw [gEnd_stop (by omega)]
    exact Nat.le_refl _
  | k + 1, e, h => by
    by_cases c : e < n ∧ ¬ f b e < f b (e + 1)
    · rw [gEnd_go c]
      have := gEnd_ge f n b k (e + 1) (by omega)
      omega
    · rw [gEnd_stop c]
      exact Nat.le_refl _
theorem gEnd_le (f : Nat → Nat → Rat) (n b : Nat) : ∀ k e, n - e ≤ k → e ≤ n → gEnd f n b e ≤ n
  | 0, e, h, h2 => by
    rw [gEnd_stop (by omega)]
    exact h2
  | k + 1, e, h, h2 => by
    by_cases c : e < n ∧ ¬ f b e < f b (e + 1)
    · rw [gEnd_go c]
      exact gEnd_le f n b k (e + 1) (by omega) (by omega)
    · rw [gEnd_stop c]
      exact h2
def greedyL (f : Nat → Nat → Rat) (n b : Nat) : List Int := if b < n then ((gEnd f n b (b + 1) - b : Nat) : Int) :: greedyL f n (gEnd f n b (b + 1)) else []
termination_by n - b
decreasing_by
  have := gEnd_ge f n b (n - (b + 1)) (b + 1) (Nat.le_refl _)
  omega
theorem greedyL_go {f : Nat → Nat → Rat} {n b : Nat} (h : b < n) : greedyL f n b = ((gEnd f n b (b + 1) - b : Nat) : Int) :: greedyL f n (gEnd f n b (b + 1)) := by
  rw [greedyL, if_pos h]
theorem greedyL_stop {f : Nat → Nat → Rat} {n b : Nat} (h : ¬ b < n) : greedyL f n b = [] := by
  rw [greedyL, if_neg h]
/-- greedy sizes are sizes -/
theorem greedy_ok (f : Nat → Nat → Rat) (n : Nat) : ∀ k b, n - b ≤ k → b ≤ n → (∀ x ∈ greedyL f n b, 1 ≤ x) ∧ (greedyL f n b).sum = (n : Int) - b
  | 0, b, h, hb => by
    rw [greedyL_stop (by omega)]
    refine ⟨by simp, ?_⟩
    rw [List.sum_nil]
    omega
  | k + 1, b, h, hb => by
    by_cases c : b < n
    · have g1 := gEnd_ge f n b (n - (b + 1)) (b + 1) (Nat.le_refl _)
      have g2 := gEnd_le f n b (n - (b + 1)) (b + 1) (Nat.le_refl _) (by omega)
      obtain ⟨h1, h2⟩ := greedy_ok f n k (gEnd f n b (b + 1)) (by omega) g2
      rw [greedyL_go c]
      refine ⟨fun x hx => ?_, ?_⟩
      · rcases List.mem_cons.mp hx with rfl | hx
        · omega
        · exact h1 x hx
      · rw [List.sum_cons, h2]
        omega
    · rw [greedyL_stop c]
      refine ⟨by simp, ?_⟩
      rw [List.sum_nil]
      omega
theorem greedy_sok (f : Nat → Nat → Rat) (n : Nat) : SOk (greedyL f n 0) n := by
  obtain ⟨h1, h2⟩ := greedy_ok f n n 0 (by omega) (by omega)
  exact ⟨h1, by rw [h2]; omega⟩
@[irreducible] def spGreedy (K : PySem.W.Frag) : Sp := fun vs H Q _ => ∃ (v : V) (a : Addr) (b : Bx) (ws : List Int) (d : Bool), vs = [v, .ref a, .str (sd d)] ∧ BxV K H v b ∧ b.Ok 450 ∧ SqL K H a (ws.map V.int) ∧ WOk ws ∧ ∀ t H', Same H H' → H' t = some (.tup ((greedyL (fSh b ws d) ws.length 0).map V.int)) → Q (.ref t) H'
@[irreducible] def spLGreedy (K : PySem.W.Frag) : Sp := fun vs H Q _ => ∃ (D : Addr) (n : Nat) (f : Nat → Nat → Rat) (m : Nat), vs = [.ref D, .int n] ∧ DSh K n (AllR n) f m H D ∧ n ≤ 12 ∧ (∀ i j, AllR n i j → Sz 3900 (f i j)) ∧ ∀ t H', Same H H' → H' t = some (.tup ((greedyL f n 0).map V.int)) → Q (.ref t) H'
section
variable {K : PySem.W.Frag} {H : Hp} {a : Addr} {ws : List Int} {Q : VK} {E : XK} {vs : List V} {b : Bx} {v : V} {d : Bool} {n m : Nat}
theorem greedy_step (hv : BxV K H v b) (hb : b.Ok n) (hn : n ≤ 450) (h : SqL K H a (ws.map V.int)) (hw : WOk ws) (q : ∀ t H', Same H H' → H' t = some (.tup ((greedyL (fSh b ws d) ws.length 0).map V.int)) → Q (.ref t) H') (hvs : vs = [v, .ref a, .str (sd d)] := by rfl) : spGreedy K vs H Q E := by
  unfold spGreedy
  exact ⟨v, a, b, ws, d, hvs, hv, hb.mono hn, h, hw, q⟩
theorem lgreedy_step {D : Addr} {f : Nat → Nat → Rat} (h : DSh K n (AllR n) f m H D) (hn : n ≤ 12) (hz : ∀ i j, AllR n i j → Sz 3900 (f i j)) (q : ∀ t H', Same H H' → H' t = some (.tup ((greedyL f n 0).map V.int)) → Q (.ref t) H') (hvs : vs = [.ref D, .int n] := by rfl) : spLGreedy K vs H Q E := by
  unfold spLGreedy
  exact ⟨D, n, f, m, hvs, h, hn, hz, q⟩
end
theorem sz_fSh {b : Bx} {ws : List Int} {n : Nat} (hb : b.Ok n) (hW : WOk ws) (d : Bool) (hn : n ≤ 450) : ∀ i j, AllR ws.length i j → Sz 3900 (fSh b ws d i j) := fun i j h => by
  have h1 := h.1
  have h2 := h.2
  exact (sz_rowShape hb hW (by omega) (by omega) d).mono (by omega)
theorem same_kp {H H3 H4 : Hp} {F : Addr} (nF : H F = none) (s : Same H H3) (k : Kp F H3 H4) : Same H H4 := fun b u e => k b u (s b u e) (ne_of_none e nF)
/-- the shape of a thing of a row, as a law reckons it -/
theorem shp_own {L W : Rat} {R T x : Int} (hL : 0 < L) (hW : 0 < W) (hR : 0 < R) (hT : 0 < T) (hx : 0 < x) :
    gr ((L * Rat.divInt R T) / (W * Rat.divInt x R)) ((W * Rat.divInt x R) / (L * Rat.divInt R T)) = shpX (W / L * Rat.divInt T (R * R)) x := by
  have r0 := int_pos hR
  have t0 := int_pos hT
  have rr := Int.mul_pos hR hR
  have mulr : ∀ {a c : Int}, 0 < c → Rat.divInt a c * (c : Rat) = (a : Rat) := fun {a c} h => by
    have := int_pos h
    rw [Rat.divInt_eq_div, Rat.div_def, Rat.mul_assoc, Rat.inv_mul_cancel _ (by grind), Rat.mul_one]
  have e3 : Rat.divInt T (R * R) * ((R : Rat) * (R : Rat)) = (T : Rat) := by
    have := mulr (a := T) rr
    rw [Rat.intCast_mul] at this
    exact this
  obtain ⟨f1, f2⟩ := shp_form hW hL (divInt_pos hR hT) (divInt_pos hx hR) r0 (mulr hR) (mulr hT) e3
  unfold shpX
  rw [f1, f2, gr_comm]
end Cc
namespace Cc
open PySem PySem.Spec PyProof.Rows L2
/-! ### t * 1 is t -/
theorem tuple_mul1 (l : Addr) (items : Array Value) (n : Nat) (dd : Option Addr) (sl : Array (Option Value)) (u : Tok) :
    Meets (Builtin.«tuple.__mul__» ⟨[.ref l, .int 1 u], []⟩) (fun _ R s => s.heap.get? l = some { cls := .type "tuple", dict := dd, data := .seq items n, slots := sl } ∧ R (.ok (.ret (Value.ref l))) s) :=
  .of_wp fun prog w A R s h => by
    obtain ⟨hp, g, d, tk, os⟩ := s
    obtain ⟨hl, h⟩ := h
    have f1 := AutoSeq1.idx_int
    have c1 : (items.isEmpty || (1 : Int) == 1) = true := by simp
    wp_walk using wpAny_loadPart' hl
    repeat (first
      | (refine wpAny_ite_true (decide_eq_true (by rw [c1])) ?_; wp_walk using wpAny_loadPart' hl)
      | (refine wpAny_ite_true (by rw [c1]) ?_; wp_walk using wpAny_loadPart' hl))
    exact ⟨_, rfl, h⟩
def rRepT1 (K : PySem.W.Frag) : R2 := fun x y H Q => ∃ l xs, x = .ref l ∧ y = .int 1 ∧ SqT K H l xs ∧ Q (.ref l) H
theorem op_repT1 {X : Cx} : OpR X (binaryOp .Mult) (rRepT1 X.K) := by
  intro pins s σ H x y v u Q I rx ry h
  obtain ⟨l, xs, rfl, rfl, hT, q⟩ := h
  cases rx
  obtain ⟨t, rfl⟩ := ry
  obtain ⟨its, r, ⟨⟨cls, dd, data, sl⟩, ho, hc, n, hd⟩, hs⟩ := I.tuple hT
  simp only at hc hd
  subst hc hd
  refine wpAny_binaryOp_repeat_ref (T := "tuple") (U := "int") (by decide) ⟨_, ho, rfl⟩ (fun s' => typeIs_int s' 1 t) noFill_tuple_mul F.fills_int_mul F.slot_int_rmul repeat_tuple F.slot_int_index.lookup
    (call_meets F.slot_int_rmul (typeIs_int s 1 t) F.entry_int_rmul (F.args_int_rmul_2 _ _) (int_rmul_tuple 1 t l its.toArray n dd sl)
      ⟨ho, rfl, ⟨_, ho, rfl⟩, call_meets F.slot_tuple_mul ⟨_, ho, rfl⟩ F.entry_tuple_mul (F.args_tuple_mul_2 _ _) (tuple_mul1 l its.toArray n dd sl t) ⟨ho, ?_⟩⟩)
  exact ⟨.ref l, H, I, rfl, q⟩
theorem op_or2 {X : Cx} {f : Value → Value → Sem Value} {r1 r2 : R2} (h1 : OpR X f r1) (h2 : OpR X f r2) : OpR X f (fun x y H Q => r1 x y H Q ∨ r2 x y H Q) := by
  intro pins s σ H x y v u Q I rx ry h
  rcases h with h | h
  · exact h1 pins s σ H x y v u Q I rx ry h
  · exact h2 pins s σ H x y v u Q I rx ry h
/-! ### the least of parts -/
def leastL (qs : List Rat) : Rat := qs.foldl ls (qs.headD 0)
theorem ls_or (x y : Rat) : ls x y = x ∨ ls x y = y := by
  unfold ls
  split
  · exact .inl rfl
  · exact .inr rfl
theorem ls_le (x y : Rat) : ls x y ≤ x ∧ ls x y ≤ y := by
  unfold ls
  split <;> constructor <;> grind
theorem foldl_ls_mem : ∀ (l : List Rat) (x : Rat), l.foldl ls x = x ∨ l.foldl ls x ∈ l
  | [], _ => .inl rfl
  | y :: r, x => by
    rw [List.foldl_cons]
    rcases foldl_ls_mem r (ls x y) with h | h
    · rcases ls_or x y with e | e
      · exact .inl (h.trans e)
      · rw [h, e]
        exact .inr List.mem_cons_self
    · exact .inr (List.mem_cons_of_mem _ h)
theorem foldl_ls_le : ∀ (l : List Rat) (x : Rat), l.foldl ls x ≤ x ∧ ∀ q ∈ l, l.foldl ls x ≤ q
  | [], x => ⟨by rw [List.foldl_nil]; exact Rat.le_refl, fun q hq => by cases hq⟩
  | y :: r, x => by
    have ih := foldl_ls_le r (ls x y)
    have g := ls_le x y
    rw [List.foldl_cons]
    refine ⟨Rat.le_trans ih.1 g.1, fun q hq => ?_⟩
    rcases List.mem_cons.mp hq with rfl | hq
    · exact Rat.le_trans ih.1 g.2
    · exact ih.2 q hq
theorem leastL_mem {qs : List Rat} (h : qs ≠ []) : leastL qs ∈ qs := by
  cases qs with
  | nil => exact absurd rfl h
  | cons x r =>
    unfold leastL
    rw [List.headD_cons]
    rcases foldl_ls_mem (x :: r) x with e | e
    · rw [e]
      exact List.mem_cons_self
    · exact e
theorem leastL_le {qs : List Rat} {q : Rat} (h : q ∈ qs) : leastL qs ≤ q := (foldl_ls_le qs _).2 q h
theorem least_take {qs : List Rat} {i : Nat} {q x : Rat} (h : qs[i]? = some q) : (qs.take (i + 1)).foldl ls x = ls ((qs.take i).foldl ls x) q := by
  rw [List.take_add_one, h, List.foldl_append]
  rfl
theorem least_take_mem {qs : List Rat} {i : Nat} (h : qs ≠ []) : (qs.take i).foldl ls (qs.headD 0) ∈ qs := by
  rcases foldl_ls_mem (qs.take i) (qs.headD 0) with e | e
  · rw [e]
    cases qs with
    | nil => exact absurd rfl h
    | cons x r => exact List.mem_cons_self
  · exact List.mem_of_mem_take e
@[irreducible] def spLeastOf (K : PySem.W.Frag) : Sp := fun vs H Q _ => ∃ (L : Addr) (us : List V) (qs : List Rat), vs = [.ref L] ∧ SqL K H L us ∧ Al (PtV K H) us qs ∧ qs ≠ [] ∧ (∀ q ∈ qs, Sz 3900 q) ∧ ∀ u H', Same H H' → PtV K H' u (leastL qs) → Q u H'
theorem leastof_step {K : PySem.W.Frag} {H : Hp} {Q : VK} {E : XK} {vs : List V} {n : Nat} {L : Addr} {us : List V} {qs : List Rat} (hL : SqL K H L us) (hA : Al (PtV K H) us qs) (h0 : qs ≠ []) (hz : ∀ q ∈ qs, Sz n q) (hn : n ≤ 3900) (q : ∀ u H', Same H H' → PtV K H' u (leastL qs) → Q u H') (hvs : vs = [.ref L] := by rfl) : spLeastOf K vs H Q E := by
  unfold spLeastOf
  exact ⟨L, us, qs, hvs, hL, hA, h0, fun q hq => (hz q hq).mono hn, q⟩
/-! ### the least worst shape behind each place -/
structure Bst (f : Nat → Nat → Rat) (n i : Nat) (g : Nat → Rat) : Prop where
  e : g n = 1
  hit : ∀ b, i ≤ b → b < n → ∃ e, b < e ∧ e ≤ n ∧ g b = gr (f b e) (g e)
  le : ∀ b, i ≤ b → b < n → ∀ e, b < e → e ≤ n → g b ≤ gr (f b e) (g e)
theorem Bst.mono {f : Nat → Nat → Rat} {n i j : Nat} {g : Nat → Rat} (h : Bst f n i g) (hij : i ≤ j) : Bst f n j g := ⟨h.e, fun b h1 h2 => h.hit b (by omega) h2, fun b h1 h2 => h.le b (by omega) h2⟩
/-- sizes have no lesser worst shape -/
theorem Bst.low {f : Nat → Nat → Rat} {n : Nat} {g : Nat → Rat} {ss : List Int} {M : Rat} (h : Bst f n 0 g) (hS : SOk ss n) (h1 : 1 ≤ M) (hM : ∀ j, j < ss.length → f (off ss j) (off ss (j + 1)) ≤ M) : ∀ k, k ≤ ss.length → g (off ss (ss.length - k)) ≤ M
  | 0, _ => by
    rw [Nat.sub_zero, hS.off_len, h.e]
    exact h1
  | k + 1, hk => by
    have ih := Bst.low h hS h1 hM k (by omega)
    have hj : ss.length - (k + 1) < ss.length := by omega
    have e : ss.length - k = ss.length - (k + 1) + 1 := by omega
    have hs := hS.off_succ hj
    have hg := hS.getD hj
    have hl := hS.off_le (ss.length - (k + 1) + 1)
    rw [e] at ih
    have h2 := h.le (off ss (ss.length - (k + 1))) (by omega) (by omega) (off ss (ss.length - (k + 1) + 1)) (by omega) hl
    have h3 := hM (ss.length - (k + 1)) hj
    rcases gr_or (f (off ss (ss.length - (k + 1))) (off ss (ss.length - (k + 1) + 1))) (g (off ss (ss.length - (k + 1) + 1))) with e2 | e2
    · rw [e2] at h2
      exact Rat.le_trans h2 h3
    · rw [e2] at h2
      exact Rat.le_trans h2 ih
theorem shpX_ge {g : Rat} {x : Int} (h : 0 < g * (x : Rat)) : 1 ≤ shpX g x := by
  unfold shpX
  have g1 := gr_ge (g * (x : Rat)) (1 / (g * (x : Rat)))
  by_cases e : 1 ≤ g * (x : Rat)
  · exact Rat.le_trans e g1.1
  · have h2 := inv_le h (show g * (x : Rat) ≤ 1 by grind)
    have e1 : (1 : Rat) / 1 = 1 := by rw [Rat.div_def]; grind
    rw [e1] at h2
    exact Rat.le_trans h2 g1.2
theorem rowShape_ge {b : Bx} {ws : List Int} {first size n : Nat} (hb : b.Ok n) (hW : WOk ws) (h0 : 1 ≤ size) (h : first + size ≤ ws.length) (d : Bool) : 1 ≤ rowShape b ws first size d := by
  have hr := rowM_ok hW h0 h
  have hl := hr.l0
  have hm : rowShape b ws first size d ∈ (rowM ws first size).map (shpX (gform b ws.sum (rowM ws first size) d)) := mostL_mem (fun z => by
    have z2 := congrArg List.length z
    rw [List.length_map, List.length_nil] at z2
    omega)
  obtain ⟨x, hx, e⟩ := List.mem_map.mp hm
  rw [← e]
  exact shpX_ge (Rat.mul_pos (gform_pos hb hW.sum.1 hr.sum.1 d) (int_pos (by have := hr.g.mem hx; omega)))
theorem Bst.worst {b : Bx} {ws ss : List Int} {m : Nat} {d : Bool} {g : Nat → Rat} (hb : b.Ok m) (hW : WOk ws) (h : Bst (fSh b ws d) ws.length 0 g) (hS : SOk ss ws.length) : ¬ worstM b ws ss d < g 0 := by
  have key : ∀ j, j < ss.length → fSh b ws d (off ss j) (off ss (j + 1)) = rowShape b ws (off ss j) (ss.getD j 0).toNat d := fun j hj => by
    unfold fSh
    rw [hS.off_succ hj, Nat.add_sub_cancel_left]
  have hM : ∀ j, j < ss.length → rowShape b ws (off ss j) (ss.getD j 0).toNat d ≤ worstM b ws ss d := fun j hj => by
    unfold worstM shapesM
    exact mostL_ge (List.mem_map.mpr ⟨j, List.mem_range.mpr hj, rfl⟩)
  have h0 := hS.ne hW.l0
  have hg := hS.getD (show 0 < ss.length by omega)
  have h1 : 1 ≤ worstM b ws ss d := Rat.le_trans (rowShape_ge hb hW (by omega) (hS.size_le (show 0 < ss.length by omega)) d) (hM 0 (by omega))
  have := Bst.low h hS h1 (fun j hj => by rw [key j hj]; exact hM j hj) ss.length (Nat.le_refl _)
  rw [Nat.sub_self] at this
  have e : off ss 0 = 0 := by simp [off]
  rw [e] at this
  grind
@[irreducible] def spLeastB (K : PySem.W.Frag) : Sp := fun vs H Q _ => ∃ (D : Addr) (n m : Nat) (f : Nat → Nat → Rat), vs = [.ref D, .int n] ∧ DSh K n (AllR n) f m H D ∧ n ≤ 12 ∧ (∀ i j, AllR n i j → Sz 3900 (f i j)) ∧ ∀ L us g H', H L = none → Same H H' → H' L = some (.lst us) → Bst f n 0 g → (∀ e, e ≤ n → Sz 3900 (g e) ∧ ∃ v, us[e]? = some v ∧ PtV K H' v (g e)) → Q (.ref L) H'
@[irreducible] def spLeast (K : PySem.W.Frag) : Sp := fun vs H Q _ => ∃ (v : V) (a : Addr) (b : Bx) (ws : List Int) (d : Bool), vs = [v, .ref a, .str (sd d)] ∧ BxV K H v b ∧ b.Ok 450 ∧ SqL K H a (ws.map V.int) ∧ WOk ws ∧ ∀ u g H', Same H H' → Bst (fSh b ws d) ws.length 0 g → Sz 3900 (g 0) → PtV K H' u (g 0) → Q u H'
section
variable {K : PySem.W.Frag} {H : Hp} {a : Addr} {ws : List Int} {Q : VK} {E : XK} {vs : List V} {b : Bx} {v : V} {d : Bool} {n m : Nat}
theorem leastb_step {D : Addr} {f : Nat → Nat → Rat} (h : DSh K n (AllR n) f m H D) (hn : n ≤ 12) (hz : ∀ i j, AllR n i j → Sz 3900 (f i j)) (q : ∀ L us g H', H L = none → Same H H' → H' L = some (.lst us) → Bst f n 0 g → (∀ e, e ≤ n → Sz 3900 (g e) ∧ ∃ v, us[e]? = some v ∧ PtV K H' v (g e)) → Q (.ref L) H') (hvs : vs = [.ref D, .int n] := by rfl) : spLeastB K vs H Q E := by
  unfold spLeastB
  exact ⟨D, n, m, f, hvs, h, hn, hz, q⟩
theorem least_step (hv : BxV K H v b) (hb : b.Ok n) (hn : n ≤ 450) (h : SqL K H a (ws.map V.int)) (hw : WOk ws) (q : ∀ u g H', Same H H' → Bst (fSh b ws d) ws.length 0 g → Sz 3900 (g 0) → PtV K H' u (g 0) → Q u H') (hvs : vs = [v, .ref a, .str (sd d)] := by rfl) : spLeast K vs H Q E := by
  unfold spLeast
  exact ⟨v, a, b, ws, d, hvs, hv, hb.mono hn, h, hw, q⟩
end
/-! ### what greedy sizes are like -/
theorem gEnd_no {f : Nat → Nat → Rat} {n b : Nat} : ∀ k e, n - e ≤ k → ∀ e', e ≤ e' → e' < gEnd f n b e → ¬ f b e' < f b (e' + 1)
  | 0, e, h, e', h1, h2 => by
    rw [gEnd_stop (by omega)] at h2
    omega
  | k + 1, e, h, e', h1, h2 => by
    by_cases c : e < n ∧ ¬ f b e < f b (e + 1)
    · rw [gEnd_go c] at h2
      by_cases z : e' = e
      · rw [z]
        exact c.2
      · exact gEnd_no k (e + 1) (by omega) e' (by omega) h2
    · rw [gEnd_stop c] at h2
      omega
theorem gEnd_end {f : Nat → Nat → Rat} {n b : Nat} : ∀ k e, n - e ≤ k → gEnd f n b e < n → f b (gEnd f n b e) < f b (gEnd f n b e + 1)
  | 0, e, h, h2 => by
    rw [gEnd_stop (by omega)] at h2
    omega
  | k + 1, e, h, h2 => by
    by_cases c : e < n ∧ ¬ f b e < f b (e + 1)
    · rw [gEnd_go c] at h2 ⊢
      exact gEnd_end k (e + 1) (by omega) h2
    · rw [gEnd_stop c] at h2 ⊢
      by_cases z : f b e < f b (e + 1)
      · exact z
      · exact absurd ⟨h2, z⟩ c
theorem greedy_at (f : Nat → Nat → Rat) (n : Nat) : ∀ k b, n - b ≤ k → b ≤ n → ∀ j, j < (greedyL f n b).length → ∃ o : Nat, (o : Int) = b + ((greedyL f n b).take j).sum ∧ o < n ∧ (greedyL f n b).getD j 0 = ((gEnd f n o (o + 1) - o : Nat) : Int)
  | 0, b, h, hb, j, hj => by
    rw [greedyL_stop (by omega)] at hj
    simp at hj
  | k + 1, b, h, hb, j, hj => by
    by_cases c : b < n
    · have g1 := gEnd_ge f n b (n - (b + 1)) (b + 1) (Nat.le_refl _)
      have g2 := gEnd_le f n b (n - (b + 1)) (b + 1) (Nat.le_refl _) (by omega)
      rw [greedyL_go c] at hj ⊢
      cases j with
      | zero => exact ⟨b, by simp, c, rfl⟩
      | succ j =>
        rw [List.length_cons] at hj
        obtain ⟨o, h1, h2, h3⟩ := greedy_at f n k (gEnd f n b (b + 1)) (by omega) g2 j (by omega)
        refine ⟨o, ?_, h2, ?_⟩
        · rw [List.take_succ_cons, List.sum_cons, h1]
          omega
        · rw [List.getD_cons_succ]
          exact h3
    · rw [greedyL_stop c] at hj
      simp at hj
/-- sizes of one row; sizes of one each -/
theorem sok_one {n : Nat} (h : 1 ≤ n) : SOk [(n : Int)] n := ⟨fun x hx => by rw [List.mem_singleton.mp hx]; omega, by simp⟩
theorem sok_ones : ∀ n : Nat, SOk (List.replicate n (1 : Int)) n
  | 0 => ⟨by simp, by simp⟩
  | n + 1 => by
    obtain ⟨h1, h2⟩ := sok_ones n
    refine ⟨fun x hx => ?_, ?_⟩
    · rw [List.replicate_succ] at hx
      rcases List.mem_cons.mp hx with rfl | hx
      · decide
      · exact h1 x hx
    · rw [List.replicate_succ, List.sum_cons, h2]
      omega
theorem rep1 {α : Type} (x : α) : ∀ k : Nat, (List.replicate k [x]).flatten = List.replicate k x
  | 0 => rfl
  | k + 1 => by
    rw [List.replicate_succ, List.flatten_cons, rep1 x k, List.replicate_succ]
    rfl
theorem ixN_n {n j : Nat} (hj : j < n) : ixN n (j : Int) = some j := by
  unfold ixN
  rw [if_pos (by omega), if_pos (by omega)]
  simp
/-- (1,) * n -/
def rOnes (K : PySem.W.Frag) : R2 := fun x y H Q => ∃ (l : Addr) (n : Nat), x = .ref l ∧ y = .int n ∧ SqT K H l [.int 1] ∧ 1 ≤ n ∧ n ≤ 1000 ∧ ∀ p H', Same H H' → SqT K H' p ((List.replicate n (1 : Int)).map V.int) → Q (.ref p) H'
theorem op_ones {X : Cx} : OpR X (binaryOp .Mult) (rOnes X.K) := by
  intro pins s σ H x y v u Q I rx ry h
  obtain ⟨l, n, rfl, rfl, hT, h0, h1, q⟩ := h
  by_cases e : n = 1
  · subst e
    exact op_repT1 pins s σ H _ _ v u Q I rx ry ⟨l, _, rfl, rfl, hT, q l H (Same.refl H) hT⟩
  · refine op_repT pins s σ H _ _ v u Q I rx ry ⟨l, n, [.int 1], rfl, rfl, hT, by simp, by omega, by omega, by simp, fun p np => ?_⟩
    refine q p _ (same_new np) ?_
    rw [show ((n : Nat) : Int).toNat = n from rfl, rep1, show (List.replicate n (1 : Int)).map V.int = List.replicate n (V.int 1) from List.map_replicate]
    exact SqT.of upd_same
theorem ne_bl {x y : V} (h : x = y) : V.bl (!decide (x = y)) = V.bl false := by
  subst h
  simp
theorem atI_neg1 {α : Type} {xs : List α} {v : α} (h : xs[xs.length - 1]? = some v) : atI xs (-1) = some v := by
  have hl := (List.getElem?_eq_some_iff.mp h).1
  have e : xs = xs.dropLast ++ [v] := by
    have hne : xs ≠ [] := fun z => by
      rw [z] at hl
      simp at hl
    have h2 := List.dropLast_concat_getLast hne
    rw [List.getLast_eq_getElem] at h2
    rw [List.getElem?_eq_getElem hl] at h
    rw [Option.some.inj h] at h2
    exact h2.symm
  rw [e]
  exact atI_last _ _
theorem any_false (n : Nat) : (List.replicate n false).any id = false := by
  induction n with
  | zero => rfl
  | succ n ih => rw [List.replicate_succ, List.any_cons, ih]; rfl
end Cc
namespace Cc
open PySem PySem.Spec PyProof.Rows L2
/-! ### max(t), min(t), t a tuple of ints -/
section
variable {X : Cx}
def rMaxA (K : PySem.W.Frag) : List V → Hp → VK → Prop := fun vs H Q => ∃ (a : Addr) (ns : List Int), vs = [V.ref a] ∧ IntsV K H a ns ∧ 0 < ns.length ∧ ∀ m, m ∈ ns → (∀ y, y ∈ ns → y ≤ m) → Q (.int m) H
def rMinA (K : PySem.W.Frag) : List V → Hp → VK → Prop := fun vs H Q => ∃ (a : Addr) (ns : List Int), vs = [V.ref a] ∧ IntsV K H a ns ∧ 0 < ns.length ∧ ∀ m, m ∈ ns → (∀ y, y ∈ ns → m ≤ y) → Q (.int m) H
theorem nth_in {ns : List Int} {k : Nat} (h : k < ns.length) : nth ns k ∈ ns := by
  rw [nth_get h]
  exact List.getElem_mem h
theorem in_nth {ns : List Int} {y : Int} (h : y ∈ ns) : ∃ k, k < ns.length ∧ nth ns k = y := by
  obtain ⟨k, hk, e⟩ := List.getElem_of_mem h
  exact ⟨k, hk, by rw [nth_get hk, e]⟩
theorem cr_maxA (hc : X.calm = true) : CallR X (.builtin "max") (rMaxA X.K) := fun pins s σ H vs us Q I r ⟨a, ns, ev, hs, hne, q⟩ => by
  subst ev
  rcases hs with hs | hs
  · exact cr_max hc pins s σ H _ us Q I r ⟨a, ns, rfl, hs, hne, q⟩
  obtain ⟨its, rv, hl, _⟩ := I.tuple hs
  have len := ints_len rv
  rw [Vals.ref1 r]
  refine call_max_walkH (PySem.W.iter_tupleW (A := X.A.in1) (I.ok.hd hc) hl fun s2 e W st hb hw hk => ?_)
  refine ⟨_, _, _, _, _, _, _, s.heap, fun i j => decide (nth ns i > nth ns j), rfl, W, st, hb, by rw [len]; exact hne, hw, hk, fun i j vi vj z P F _ hi hj => CmpOf.ints_gt (nth ns) (ints_at rv) i j vi vj z P F hi hj, fun v s' hv m => ?_⟩
  obtain ⟨h', tk, rfl, old⟩ := PySem.W.moved_old e rfl m
  obtain ⟨t, rfl⟩ := ints_at rv _ v hv
  have b := argBest_gt (nth ns) (its.toArray.size - 1)
  refine ⟨.int _, H, I.kept old, ⟨t, rfl⟩, q _ (nth_in (by omega)) fun y hy => ?_⟩
  obtain ⟨k, hk, rfl⟩ := in_nth hy
  exact b.2 k (by omega)
theorem cr_minA (hc : X.calm = true) : CallR X (.builtin "min") (rMinA X.K) := fun pins s σ H vs us Q I r ⟨a, ns, ev, hs, hne, q⟩ => by
  subst ev
  rcases hs with hs | hs
  · exact cr_min hc pins s σ H _ us Q I r ⟨a, ns, rfl, hs, hne, q⟩
  obtain ⟨its, rv, hl, _⟩ := I.tuple hs
  have len := ints_len rv
  rw [Vals.ref1 r]
  refine call_min_walkH (PySem.W.iter_tupleW (A := X.A.in1) (I.ok.hd hc) hl fun s2 e W st hb hw hk => ?_)
  refine ⟨_, _, _, _, _, _, _, s.heap, fun i j => decide (nth ns i < nth ns j), rfl, W, st, hb, by rw [len]; exact hne, hw, hk, fun i j vi vj z P F _ hi hj => CmpOf.ints_lt (nth ns) (ints_at rv) i j vi vj z P F hi hj, fun v s' hv m => ?_⟩
  obtain ⟨h', tk, rfl, old⟩ := PySem.W.moved_old e rfl m
  obtain ⟨t, rfl⟩ := ints_at rv _ v hv
  have b := argBest_lt (nth ns) (its.toArray.size - 1)
  refine ⟨.int _, H, I.kept old, ⟨t, rfl⟩, q _ (nth_in (by omega)) fun y hy => ?_⟩
  obtain ⟨k, hk, rfl⟩ := in_nth hy
  exact b.2 k (by omega)
end
/-! ### sorted(d), the keys of d pairs of ints -/
section
variable {prog : Program} {w : World} {A : Around} {E : Value → Shared → Prop} {s : Shared}
/-- sorted(x): x is something that can be collected, and what is collected can be sorted -/
theorem sorted_of {x : Value} {Q : Value → Shared → Prop} (P : List Value → Prop) (small : ∀ vs, P vs → vs.length ≤ sizeLine)
    (col : ∀ R : List Value → Shared → Prop, (∀ g t vs, (∀ b o, s.heap.get? b = some o → g.get? b = some o) → P vs → R vs { s with heap := g, toks := t }) → wpAny (model prog w) A.in1 (collect x) R E s)
    (ord : ∀ vs, P vs → 2 ≤ vs.length → ∀ (z : Shared) (a : Addr), z.heap.get? a = some (seqObj "list" vs.toArray 0) → (∀ b o, s.heap.get? b = some o → z.heap.get? b = some o) → Srt.Sortable prog w A.in1.in1 z a vs)
    (fin : ∀ (vs out : List Value) (g g2 : Heap) (t : Nat), P vs → out.Perm vs → (∀ b o, s.heap.get? b = some o → g.get? b = some o) → (∀ b o, g.get? b = some o → g2.get? b = some o) → (∃ n, g2.get? g.objs.size = some (seqObj "list" out.toArray n)) → Q (.ref g.objs.size) { s with heap := g2, toks := t }) :
    wpAny (model prog w) A (call (.builtin "sorted") [x]) Q E s := by
  apply Calls.call_function_entry kind_sorted plain_sorted entry_sorted (args_sorted1 x)
  unfold Builtin.«sorted»
  refine wpAny_bind (wpAny_pure (wpAny_bind (col _ fun g t vs old hp => wpAny_bind (wpAny_newList ?_ (small vs hp)))))
  have at0 : (g.push (seqObj "list" vs.toArray 0)).get? g.objs.size = some (seqObj "list" vs.toArray 0) := Heap.get?_push_size _ rfl
  have up : ∀ b o, s.heap.get? b = some o → (g.push (seqObj "list" vs.toArray 0)).get? b = some o := fun b o e => Heap.get?_push_of_some _ (old b o e)
  refine wpAny_bind (wpAny_holding (wpAny_call_entry slot_list_sort ⟨_, at0, rfl⟩ entry_list_sort (Srt.list_sort_any (s := { s with heap := g.push (seqObj "list" vs.toArray 0), toks := t }) at0 (small vs hp) (fun two => ord vs hp two _ _ at0 up) fun out perm => ⟨_, rfl, wpAny_pure ⟨_, rfl, ?_⟩⟩) (args_list_sort _)))
  refine fin vs out g _ t hp perm old (fun b o e => ?_) (sortedHeap_at at0)
  have lt := Heap.lt_size e
  rw [sortedHeap_old (Nat.ne_of_lt lt) (by rw [size_push']; exact Nat.lt_succ_of_lt lt)]
  exact Heap.get?_push_of_some _ e
theorem items_keys {es : Array DictEntry} {acc : Array Value} (it : ItemsOf (fun i v => ∃ en : DictEntry, es[i]? = some en ∧ v = en.key) acc es.size) : acc = es.map (·.key) := by
  refine Array.ext (by simpa using it.1) fun i h1 h2 => ?_
  obtain ⟨en, e1, e2⟩ := it.2 i acc[i] (Array.getElem?_eq_getElem h1)
  rw [Array.getElem?_eq_getElem (show i < es.size by simpa using h2)] at e1
  cases e1
  rw [e2, Array.getElem_map]
end
theorem pair_keys {H : Hp} : ∀ {kvs : List (List Key × V)} {bs : List Addr}, Paired (fun p b => H b = some (.tup (p.1.map kV))) kvs bs → (∀ kv ∈ kvs, ∃ i j : Int, kv.1 = [.inl i, .inl j]) → ∀ b ∈ bs, ∃ i j : Int, H b = some (.tup [.int i, .int j])
  | _, _, .nil, _, b, hb => nomatch hb
  | _, _, .cons h t, hq, b, hb => by
    cases hb with
    | head =>
      obtain ⟨i, j, e⟩ := hq _ (List.mem_cons_self ..)
      exact ⟨i, j, by rw [h, e]; rfl⟩
    | tail _ hb => exact pair_keys t (fun kv hkv => hq kv (List.mem_cons_of_mem _ hkv)) b hb
section
variable {X : Cx}
theorem call_sortedDT (hc : X.calm = true) : CallR X (.builtin "sorted") (fun xs H Q => ∃ (d : Addr) (kvs : List (List Key × V)), xs = [.ref d] ∧ Rd H d (.dT kvs) ∧ (∀ kv ∈ kvs, ∃ i j : Int, kv.1 = [.inl i, .inl j]) ∧
    ∀ (bs : List Addr) (ys : List V) (p : Addr), IsKeys H kvs bs → ys.Perm (bs.map V.ref) → H p = none → Q (.ref p) (upd H p (.lst ys))) := fun pins s σ H xs us Q I r ⟨d, kvs, ex, hd, hpair, q⟩ => by
  subst ex
  rw [Vals.ref1 r]
  obtain ⟨z, hs, ks, pr, o, es, ep, ho, hx, hdt, he, -⟩ := (show ObjOk X.prog X.w H s.heap d (.dT kvs) from hd.ok I.hok)
  have keys := isKeys_of pr
  have many : es.size ≤ sizeLine := by rw [size_of_entries he, ← Paired.length pr]; exact z
  have all := pair_keys keys hpair
  generalize hB : ks.map (fun x => x.2.1) = bs at keys all
  have hE : (es.map (·.key)).toList = bs.map Value.ref := by
    rw [← hB, Array.toList_map, he, List.map_map, List.map_map]
    rfl
  have cnt : (bs.map Value.ref).length ≤ sizeLine := by rw [← hE, Array.length_toList, Array.size_map]; exact many
  refine sorted_of (fun vs => vs = bs.map Value.ref) (fun vs e => e ▸ cnt) (fun R h => ?_) (fun vs e two y a ha up => ?_) fun vs out g g2 t e perm up up2 hg => ?_
  · exact PySem.W.kdu_collect (kdl_raw hs hx hdt) (I.ok.hd hc) ho many fun g t acc up it => h g t _ up (by rw [items_keys it, hE])
  · subst e
    refine Srt.pairs_sortable (by omega) (fun v hv => ?_) fun o' e' cl => ?_
    · obtain ⟨b, hb, rfl⟩ := List.mem_map.mp hv
      obtain ⟨i, j, hij⟩ := all b hb
      obtain ⟨_, cs, rc, oc, h1, h2, n, h3⟩ := I.hok _ _ hij
      obtain ⟨c1, c2, rfl, ⟨t1, rfl⟩, t2, rfl⟩ := vals2 rc
      exact ⟨i, j, b, oc, t1, t2, n, rfl, up _ _ h1, h2, h3⟩
    · rw [ha] at e'
      cases e'
      exact absurd (Value.type.inj cl) (by decide)
  · subst e
    have refs : ∀ u ∈ out, ∃ a, u = Value.ref a := fun u hu => by
      obtain ⟨b, -, rfl⟩ := List.mem_map.mp (perm.mem_iff.mp hu)
      exact ⟨b, rfl⟩
    obtain ⟨n, hg⟩ := hg
    have len : (out.map backV).length ≤ sizeLine := by rw [List.length_map, perm.length_eq]; exact cnt
    have I1 : Inv X pins σ H { s with heap := g } := I.kept (t' := s.toks) up
    refine ⟨.ref g.objs.size, upd H g.objs.size (.lst (out.map backV)), I1.laid (t' := t) up2 (Nat.le_refl _) (show ObjOk X.prog X.w _ _ _ (.lst (out.map backV)) from ⟨len, out, n, vals_back refs, hg⟩), rfl, q bs _ _ keys ?_ (I1.hok.fresh (Nat.le_refl _))⟩
    rw [show bs.map V.ref = (bs.map Value.ref).map backV by rw [List.map_map]; rfl]
    exact perm.map backV
end
/-! ### beginnings -/
def begL (f : Nat → Nat → Rat) (bound : Rat) : Nat → List Nat
  | 0 => [0]
  | k + 1 => if (begL f bound k).any (fun b => decide (f b (k + 1) < bound)) = true then begL f bound k ++ [k + 1] else begL f bound k
theorem begL_le (f : Nat → Nat → Rat) (bound : Rat) : ∀ k, ∀ b ∈ begL f bound k, b ≤ k
  | 0, b, h => by
    rw [show begL f bound 0 = [0] from rfl, List.mem_singleton] at h
    omega
  | k + 1, b, h => by
    rw [begL] at h
    split at h
    · rcases List.mem_append.mp h with h | h
      · have := begL_le f bound k b h
        omega
      · rw [List.mem_singleton] at h
        omega
    · have := begL_le f bound k b h
      omega
theorem begL_len (f : Nat → Nat → Rat) (bound : Rat) : ∀ k, (begL f bound k).length ≤ k + 1
  | 0 => Nat.le_refl _
  | k + 1 => by
    have ih := begL_len f bound k
    rw [begL]
    split
    · rw [List.length_append]
      show _ + 1 ≤ _
      omega
    · omega
def natV (xs : List Nat) : List V := xs.map fun i : Nat => V.int (i : Int)
@[irreducible] def spCheckB (K : PySem.W.Frag) : Sp := fun vs H Q _ => ∃ (v : V) (x : Rat), vs = [v] ∧ PtV K H v x ∧ Sz 3900 x ∧ ¬ x < 1 ∧ ∀ r H', Same H H' → r = V.non → Q r H'
@[irreducible] def spBegs (K : PySem.W.Frag) : Sp := fun vs H Q _ => ∃ (v u : V) (a : Addr) (b : Bx) (ws : List Int) (bound : Rat) (d : Bool), vs = [v, .ref a, u, .str (sd d)] ∧ BxV K H v b ∧ b.Ok 450 ∧ IntsV K H a ws ∧ WOk ws ∧ PtV K H u bound ∧ Sz 3900 bound ∧ ¬ bound < 1 ∧ ∀ L H', H L = none → Same H H' → H' L = some (.lst (natV (begL (fSh b ws d) bound ws.length))) → Q (.ref L) H'
@[irreducible] def spLBegs (K : PySem.W.Frag) : Sp := fun vs H Q _ => ∃ (u : V) (D : Addr) (n m : Nat) (f : Nat → Nat → Rat) (bound : Rat), vs = [.ref D, .int n, u] ∧ DSh K n (AllR n) f m H D ∧ n ≤ 12 ∧ (∀ i j, AllR n i j → Sz 3900 (f i j)) ∧ PtV K H u bound ∧ Sz 3900 bound ∧ ∀ L H', H L = none → Same H H' → H' L = some (.lst (natV (begL f bound n))) → Q (.ref L) H'
@[irreducible] def spBound (K : PySem.W.Frag) : Sp := fun vs H Q _ => ∃ c : Addr, vs = [.ref c] ∧ Bag H c ∧ ∀ v q H', PtV K H' v q → ¬ q < 1 → Sz 200 q → Bag H' c → Kp c H H' → Q v H'
section
variable {K : PySem.W.Frag} {H : Hp} {a : Addr} {ws : List Int} {Q : VK} {E : XK} {vs : List V} {b : Bx} {v u : V} {d : Bool} {n m : Nat}
theorem checkb_step {x : Rat} (hv : PtV K H v x) (hz : Sz n x) (hn : n ≤ 3900) (h1 : ¬ x < 1) (q : ∀ H', Same H H' → Q .non H') (hvs : vs = [v] := by rfl) : spCheckB K vs H Q E := by
  unfold spCheckB
  exact ⟨v, x, hvs, hv, hz.mono hn, h1, fun r H' s e => by rw [e]; exact q H' s⟩
theorem begs_step {bound : Rat} (hv : BxV K H v b) (hb : b.Ok n) (hn : n ≤ 450) (h : IntsV K H a ws) (hw : WOk ws) (hu : PtV K H u bound) (hz : Sz m bound) (hm : m ≤ 3900) (h1 : ¬ bound < 1) (q : ∀ L H', H L = none → Same H H' → H' L = some (.lst (natV (begL (fSh b ws d) bound ws.length))) → Q (.ref L) H') (hvs : vs = [v, .ref a, u, .str (sd d)] := by rfl) : spBegs K vs H Q E := by
  unfold spBegs
  exact ⟨v, u, a, b, ws, bound, d, hvs, hv, hb.mono hn, h, hw, hu, hz.mono hm, h1, q⟩
theorem lbegs_step {D : Addr} {f : Nat → Nat → Rat} {bound : Rat} {k : Nat} (h : DSh K n (AllR n) f m H D) (hn : n ≤ 12) (hz : ∀ i j, AllR n i j → Sz 3900 (f i j)) (hu : PtV K H u bound) (zb : Sz k bound) (hk : k ≤ 3900) (q : ∀ L H', H L = none → Same H H' → H' L = some (.lst (natV (begL f bound n))) → Q (.ref L) H') (hvs : vs = [.ref D, .int n, u] := by rfl) : spLBegs K vs H Q E := by
  unfold spLBegs
  exact ⟨u, D, n, m, f, bound, hvs, h, hn, hz, hu, zb.mono hk, q⟩
theorem bound_step {c : Addr} (hb : Bag H c) (q : ∀ v q H', PtV K H' v q → ¬ q < 1 → Sz 200 q → Bag H' c → Kp c H H' → Q v H') (hvs : vs = [.ref c] := by rfl) : spBound K vs H Q E := by
  unfold spBound
  exact ⟨c, hvs, hb, q⟩
end
theorem fSh_ge {b : Bx} {ws : List Int} {n : Nat} (hb : b.Ok n) (hW : WOk ws) (d : Bool) {i j : Nat} (h : AllR ws.length i j) : ¬ fSh b ws d i j < 1 := by
  have h1 := h.1
  have h2 := h.2
  have := rowShape_ge hb hW (first := i) (size := j - i) (by omega) (by omega) d
  unfold fSh
  grind
theorem divInt_ge1 {a c : Int} (h0 : 0 < c) (h : c ≤ a) : ¬ Rat.divInt a c < 1 := by
  have c0 := int_pos h0
  have e : Rat.divInt a c * (c : Rat) = (a : Rat) := by
    rw [Rat.divInt_eq_div, Rat.div_def, Rat.mul_assoc, Rat.inv_mul_cancel _ (by grind), Rat.mul_one]
  have a1 : (c : Rat) ≤ (a : Rat) := Rat.intCast_le_intCast.mpr h
  intro z
  have := Rat.mul_lt_mul_of_pos_right z c0
  grind
theorem one_ge : ¬ (1 : Rat) < 1 := by decide
/-- all the shapes that a dict holds, by its keys -/
theorem DSh.all {K : PySem.W.Frag} {N : Nat} {f : Nat → Nat → Rat} {m : Nat} {H : Hp} {D : Addr} (x : DSh K N (AllR N) f m H D) :
    ∃ kvs : List (List Key × V), H D = some (.dT kvs) ∧ kvs.length ≤ m ∧ (1 ≤ N → kvs ≠ []) ∧ (∀ kv ∈ kvs, ∃ i j : Int, kv.1 = [.inl i, .inl j]) ∧ ∀ kv ∈ kvs, ∃ i j, kv.1 = ky i j ∧ AllR N i j := by
  obtain ⟨kvs, h1, h2, hk, h3⟩ := x
  refine ⟨kvs, h1, h2, fun hN z => ?_, fun kv hkv => ?_, hk⟩
  · subst z
    obtain ⟨v, h4, _⟩ := h3 0 1 ⟨by omega, hN⟩
    cases h4
  · obtain ⟨i, j, e, _⟩ := hk kv hkv
    exact ⟨i, j, e⟩
theorem isKeys_mem {H : Hp} : ∀ {kvs : List (List Key × V)} {bs : List Addr}, IsKeys H kvs bs → ∀ b ∈ bs, ∃ kv ∈ kvs, H b = some (.tup (kv.1.map kV)) := by
  intro kvs bs hp
  unfold IsKeys at hp
  induction hp with
  | nil => intro b hb; cases hb
  | cons hh _ ih =>
    intro b hb
    rcases List.mem_cons.mp hb with rfl | hb
    · exact ⟨_, List.mem_cons_self, hh⟩
    · obtain ⟨kv, h1, h2⟩ := ih b hb
      exact ⟨kv, List.mem_cons_of_mem _ h1, h2⟩
theorem isKeys_len {H : Hp} {kvs : List (List Key × V)} {bs : List Addr} (h : IsKeys H kvs bs) : kvs.length = bs.length := Paired.length h
end Cc
namespace Cc
open PySem PySem.Spec PyProof.Rows L2
/-! ### k in xs, xs a list of ints -/
theorem all_flat : ∀ xs : List Int, (xs.map V.int).all flatV = true
  | [] => rfl
  | x :: r => by
    rw [List.map_cons, List.all_cons, all_flat r]
    rfl
theorem inV_ints (k : Int) : ∀ xs : List Int, inV (.int k) (xs.map V.int) = decide (k ∈ xs)
  | [] => rfl
  | x :: r => by
    have ih := inV_ints k r
    unfold inV at ih ⊢
    rw [List.map_cons, List.any_cons, ih]
    show ((x == k) || decide (k ∈ r)) = decide (k ∈ x :: r)
    by_cases e : x = k
    · subst e
      simp
    · have e2 : ¬ k = x := fun z => e z.symm
      simp [e, e2]
def rInI (K : PySem.W.Frag) : R2 := fun x y H Q => ∃ (k : Int) (p : Addr) (xs : List Int), x = .int k ∧ y = .ref p ∧ SqL K H p (xs.map V.int) ∧ ∀ r, r = decide (k ∈ xs) → Q (.bl r) H
def rNotInI (K : PySem.W.Frag) : R2 := fun x y H Q => ∃ (k : Int) (p : Addr) (xs : List Int), x = .int k ∧ y = .ref p ∧ SqL K H p (xs.map V.int) ∧ ∀ r, r = (!decide (k ∈ xs)) → Q (.bl r) H
theorem op_inI {X : Cx} : OpR X (compareOp .In) (rInI X.K) := by
  intro pins s σ H x y v u Q I rx ry h
  obtain ⟨k, p, xs, rfl, rfl, hs, q⟩ := h
  refine op_in_seq pins s σ H _ _ v u Q I rx ry ⟨p, _, rfl, .inl hs, rfl, all_flat xs, ?_⟩
  show Q (.bl (inV (.int k) (xs.map V.int))) H
  exact q _ (inV_ints k xs)
theorem op_notInI {X : Cx} : OpR X (compareOp .NotIn) (rNotInI X.K) := by
  intro pins s σ H x y v u Q I rx ry h
  obtain ⟨k, p, xs, rfl, rfl, hs, q⟩ := h
  refine op_notIn_seq pins s σ H _ _ v u Q I rx ry ⟨p, _, rfl, .inl hs, rfl, all_flat xs, ?_⟩
  show Q (.bl (!inV (.int k) (xs.map V.int))) H
  exact q _ (by rw [inV_ints])
/-! ### what shuts a bound -/
def ShutP (f : Nat → Nat → Rat) (n : Nat) (bound : Rat) (xs : List Int) : Prop := (0 : Int) ∈ xs ∧ (n : Int) ∉ xs ∧ ∀ i j, AllR n i j → (i : Int) ∈ xs → (j : Int) ∉ xs → ¬ f i j < bound
@[irreducible] def spShuts (K : PySem.W.Frag) : Sp := fun vs H Q _ => ∃ (v u : V) (a S : Addr) (b : Bx) (ws xs : List Int) (bound : Rat) (d : Bool), vs = [v, .ref a, u, .ref S, .str (sd d)] ∧ BxV K H v b ∧ b.Ok 450 ∧ SqL K H a (ws.map V.int) ∧ WOk ws ∧ PtV K H u bound ∧ Sz 3900 bound ∧ ¬ bound < 1 ∧ SqL K H S (xs.map V.int) ∧ xs.length ≤ 60 ∧ ∀ (k : Bool) H', Same H H' → (k = true ↔ ShutP (fSh b ws d) ws.length bound xs) → Q (.bl k) H'
@[irreducible] def spLShut (K : PySem.W.Frag) : Sp := fun vs H Q _ => ∃ (u : V) (D S : Addr) (n m : Nat) (f : Nat → Nat → Rat) (bound : Rat) (xs : List Int), vs = [.ref D, .int n, u, .ref S] ∧ DSh K n (AllR n) f m H D ∧ n ≤ 12 ∧ (∀ i j, AllR n i j → Sz 3900 (f i j)) ∧ PtV K H u bound ∧ Sz 3900 bound ∧ SqL K H S (xs.map V.int) ∧ ∀ (k : Bool) H', Same H H' → (k = true ↔ ShutP f n bound xs) → Q (.bl k) H'
section
variable {K : PySem.W.Frag} {H : Hp} {a S : Addr} {ws xs : List Int} {Q : VK} {E : XK} {vs : List V} {b : Bx} {v u : V} {d : Bool} {n m : Nat}
theorem shuts_step {bound : Rat} (hv : BxV K H v b) (hb : b.Ok n) (hn : n ≤ 450) (h : SqL K H a (ws.map V.int)) (hw : WOk ws) (hu : PtV K H u bound) (hz : Sz m bound) (hm : m ≤ 3900) (h1 : ¬ bound < 1) (hS : SqL K H S (xs.map V.int)) (hx : xs.length ≤ 60) (q : ∀ (k : Bool) H', Same H H' → (k = true ↔ ShutP (fSh b ws d) ws.length bound xs) → Q (.bl k) H') (hvs : vs = [v, .ref a, u, .ref S, .str (sd d)] := by rfl) : spShuts K vs H Q E := by
  unfold spShuts
  exact ⟨v, u, a, S, b, ws, xs, bound, d, hvs, hv, hb.mono hn, h, hw, hu, hz.mono hm, h1, hS, hx, q⟩
theorem lshut_step {D : Addr} {f : Nat → Nat → Rat} {bound : Rat} {k : Nat} (h : DSh K n (AllR n) f m H D) (hn : n ≤ 12) (hz : ∀ i j, AllR n i j → Sz 3900 (f i j)) (hu : PtV K H u bound) (zb : Sz k bound) (hk : k ≤ 3900) (hS : SqL K H S (xs.map V.int)) (q : ∀ (k : Bool) H', Same H H' → (k = true ↔ ShutP f n bound xs) → Q (.bl k) H') (hvs : vs = [.ref D, .int n, u, .ref S] := by rfl) : spLShut K vs H Q E := by
  unfold spLShut
  exact ⟨u, D, S, n, m, f, bound, xs, hvs, h, hn, hz, hu, zb.mono hk, hS, q⟩
end
theorem isKeys_get {H : Hp} : ∀ {kvs : List (List Key × V)} {bs : List Addr}, IsKeys H kvs bs → ∀ kv ∈ kvs, ∃ b ∈ bs, H b = some (.tup (kv.1.map kV)) := by
  intro kvs bs hp
  unfold IsKeys at hp
  induction hp with
  | nil => intro b hb; cases hb
  | cons hh _ ih =>
    intro kv hkv
    rcases List.mem_cons.mp hkv with rfl | hkv
    · exact ⟨_, List.mem_cons_self, hh⟩
    · obtain ⟨b, h1, h2⟩ := ih kv hkv
      exact ⟨b, List.mem_cons_of_mem _ h1, h2⟩
theorem valV_mem {kvs : List (List Key × V)} {k : List Key} {v : V} (h : valV kvs k = some v) : ∃ kv ∈ kvs, kv.1 = k := by
  have e := valV_any k kvs
  rw [h] at e
  obtain ⟨kv, h1, h2⟩ := List.any_eq_true.mp e
  exact ⟨kv, h1, of_decide_eq_true h2⟩
end Cc
/-! XSrt: sorted texts are one list; names that all have unlike letters. -/
namespace Cc
open PySem PySem.Spec PyProof.Rows
theorem lt_irr : ∀ a : List Nat, ltCps a a = false
  | [] => rfl
  | x :: r => by
    show (decide (x < x) || (x == x && ltCps r r)) = false
    rw [lt_irr r]
    simp
theorem lt_anti : ∀ a b : List Nat, ltCps a b = false → ltCps b a = false → a = b
  | [], [], _, _ => rfl
  | [], _ :: _, h, _ => by cases h
  | _ :: _, [], _, h => by cases h
  | x :: r, y :: t, h1, h2 => by
    have h1 : (decide (x < y) || (x == y && ltCps r t)) = false := h1
    have h2 : (decide (y < x) || (y == x && ltCps t r)) = false := h2
    rw [Bool.or_eq_false_iff] at h1 h2
    have e1 := of_decide_eq_false h1.1
    have e2 := of_decide_eq_false h2.1
    have e : x = y := by omega
    subst e
    have k1 := h1.2
    have k2 := h2.2
    rw [beq_self_eq_true, Bool.true_and] at k1 k2
    rw [lt_anti r t k1 k2]
theorem lt_trans' : ∀ a b c : List Nat, ltCps b a = false → ltCps c b = false → ltCps c a = false
  | [], _, [], _, _ => rfl
  | _ :: _, _, [], h1, h2 => by
    rename_i x r b
    cases b with
    | nil => cases h1
    | cons y t => cases h2
  | [], b, _ :: _, h1, h2 => rfl
  | x :: r, b, z :: u, h1, h2 => by
    cases b with
    | nil => cases h1
    | cons y t =>
      have h1 : (decide (y < x) || (y == x && ltCps t r)) = false := h1
      have h2 : (decide (z < y) || (z == y && ltCps u t)) = false := h2
      show (decide (z < x) || (z == x && ltCps u r)) = false
      rw [Bool.or_eq_false_iff] at h1 h2 ⊢
      have e1 := of_decide_eq_false h1.1
      have e2 := of_decide_eq_false h2.1
      refine ⟨decide_eq_false (by omega), ?_⟩
      by_cases e : z = x
      · have ey : y = x := by omega
        subst ey
        subst e
        have k1 := h1.2
        have k2 := h2.2
        rw [beq_self_eq_true, Bool.true_and] at k1 k2
        rw [lt_trans' r t u k1 k2, Bool.and_false]
      · rw [beq_eq_false_iff_ne.mpr e, Bool.false_and]
theorem lt_asym : ∀ a b : List Nat, ltCps a b = true → ltCps b a = false
  | [], [], h => by cases h
  | [], _ :: _, _ => rfl
  | _ :: _, [], h => by cases h
  | x :: r, y :: t, h => by
    have h : (decide (x < y) || (x == y && ltCps r t)) = true := h
    show (decide (y < x) || (y == x && ltCps t r)) = false
    rw [Bool.or_eq_true] at h
    rw [Bool.or_eq_false_iff]
    rcases h with h | h
    · have := of_decide_eq_true h
      exact ⟨decide_eq_false (by omega), by rw [beq_eq_false_iff_ne.mpr (by omega), Bool.false_and]⟩
    · rw [Bool.and_eq_true] at h
      have := eq_of_beq h.1
      subst this
      exact ⟨decide_eq_false (by omega), by rw [lt_asym r t h.2, Bool.and_false]⟩
def leS (a b : Str) : Bool := !ltCps b.cps.toList a.cps.toList
theorem leS_trans (a b c : Str) (h1 : leS a b = true) (h2 : leS b c = true) : leS a c = true := by
  unfold leS at *
  rw [Bool.not_eq_true'] at *
  exact lt_trans' _ _ _ h1 h2
theorem leS_total (a b : Str) : (leS a b || leS b a) = true := by
  unfold leS
  cases h : ltCps b.cps.toList a.cps.toList with
  | false => rfl
  | true => rw [lt_asym _ _ h]; rfl
theorem str_ext {a b : Str} (h : a.cps.toList = b.cps.toList) : a = b := by
  obtain ⟨a⟩ := a
  obtain ⟨b⟩ := b
  exact congrArg Str.mk (Array.toList_inj.mp h)
theorem leS_anti {a b : Str} (h1 : leS a b = true) (h2 : leS b a = true) : a = b := by
  unfold leS at *
  rw [Bool.not_eq_true'] at *
  exact str_ext (lt_anti _ _ h2 h1)
theorem rising_pw : ∀ (l : List Str) (p : Str), risingS p l = true → (p :: l).Pairwise (fun a b => leS a b = true)
  | [], p, _ => List.pairwise_singleton _ _
  | x :: r, p, h => by
    have h : (!ltCps x.cps.toList p.cps.toList && risingS x r) = true := h
    rw [Bool.and_eq_true] at h
    have ih := rising_pw r x h.2
    refine List.pairwise_cons.mpr ⟨fun y hy => ?_, ih⟩
    rcases List.mem_cons.mp hy with rfl | hy
    · exact h.1
    · exact leS_trans _ _ _ h.1 ((List.pairwise_cons.mp ih).1 y hy)
theorem sorted_pw : ∀ (l : List Str), sortedS l = true → l.Pairwise (fun a b => leS a b = true)
  | [], _ => List.Pairwise.nil
  | x :: r, h => rising_pw r x h
/-- the texts in their order -/
def srt (zs : List Str) : List Str := zs.mergeSort leS
theorem srt_perm (zs : List Str) : (srt zs).Perm zs := List.mergeSort_perm _ _
theorem srt_of {ys zs : List Str} (p : ys.Perm zs) (h : sortedS ys = true) : ys = srt zs :=
  List.Perm.eq_of_pairwise (fun a b _ _ h1 h2 => leS_anti h1 h2) (sorted_pw ys h) (List.pairwise_mergeSort leS_trans leS_total zs) (p.trans (srt_perm zs).symm)
theorem srt_congr {ys zs : List Str} (p : ys.Perm zs) : srt ys = srt zs :=
  List.Perm.eq_of_pairwise (fun a b _ _ h1 h2 => leS_anti h1 h2) (List.pairwise_mergeSort leS_trans leS_total ys) (List.pairwise_mergeSort leS_trans leS_total zs) ((srt_perm ys).trans (p.trans (srt_perm zs).symm))
end Cc
set_option maxHeartbeats 4000000
/-! XZip: list(zip(xs, ys)) of two lists, as a value. -/
namespace PySem.W
open PySem PySem.Calls PyProof.Rows PyProof.V PySem.Spec
/-- the addresses ts hold the pairs of us and ws, in order; they lie above lo and rise -/
structure ZipGot (us ws : Array Value) (lo : Addr) (h : Heap) (ts : List Addr) : Prop where
  up : ts.Pairwise (· < ·)
  hi : ∀ t ∈ ts, lo < t
  at_ : ∀ (j : Nat) (t : Addr), ts[j]? = some t → ∃ u v, us[j]? = some u ∧ ws[j]? = some v ∧ IsPair h t u v
theorem ZipGot.lt {us ws : Array Value} {lo : Addr} {h : Heap} {ts : List Addr} (g : ZipGot us ws lo h ts) {t : Addr} (ht : t ∈ ts) : t < h.objs.size := by
  obtain ⟨j, hj⟩ := List.mem_iff_getElem?.mp ht
  obtain ⟨u, v, _, _, e⟩ := g.at_ j t hj
  exact Heap.lt_size e
/-- the zip at z between two turns -/
structure ZipAt (h : Heap) (z TI TO i1 i2 l1 l2 S : Addr) (us ws : Array Value) (i : Nat) : Prop where
  ti : IsPair h TI (.ref i1) (.ref i2)
  it1 : h.IsListIter i1 l1 i
  it2 : h.IsListIter i2 l2 i
  s1 : h.IsList l1 us
  s2 : h.IsList l2 ws
  zz : (IsZip h z TI TO .none ∧ ∃ a b, IsPair h TO a b) ∨ ∃ T f oT, IsZipHeld h z TI TO T f ∧ h.get? T = some oT ∧ T ≠ z ∧ T ≠ i1 ∧ T ≠ i2 ∧ T ≠ S
/-- where the list at S lies -/
structure ZipOff (z TI TO i1 i2 l1 l2 S : Addr) : Prop where
  z : z ≠ S
  ti : TI ≠ S
  to : TO ≠ S
  i1 : i1 ≠ S
  i2 : i2 ≠ S
  l1 : l1 ≠ S
  l2 : l2 ≠ S
theorem ZipAt.keep {h h' : Heap} {z TI TO i1 i2 l1 l2 S : Addr} {us ws : Array Value} {i : Nat} (x : ZipAt h z TI TO i1 i2 l1 l2 S us ws i) (o : ZipOff z TI TO i1 i2 l1 l2 S) (k : ∀ b u, b ≠ S → h.get? b = some u → h'.get? b = some u) : ZipAt h' z TI TO i1 i2 l1 l2 S us ws i := by
  refine ⟨k _ _ o.ti x.ti, x.it1.at fun u e => k _ u o.i1 e, x.it2.at fun u e => k _ u o.i2 e, x.s1.at fun u e => k _ u o.l1 e, x.s2.at fun u e => k _ u o.l2 e, ?_⟩
  rcases x.zz with ⟨e, a, b, e2⟩ | ⟨T, f, oT, e, e2, r1, r2, r3, r4⟩
  · exact .inl ⟨k _ _ o.z e, a, b, k _ _ o.to e2⟩
  · exact .inr ⟨T, f, oT, k _ _ o.z e, k _ _ r4 e2, r1, r2, r3, r4⟩
section
variable {prog : Program} {w : World} {A : Around} {E : Value → Shared → Prop} {s : Shared} {z TI TO i1 i2 l1 l2 S : Addr} {us ws : Array Value}
theorem zipat_item {i : Nat} {Q : Option Value → Shared → Prop} (D : ZipApart z TI TO i1 i2 l1 l2) (x : ZipAt s.heap z TI TO i1 i2 l1 l2 S us ws i) (hS : S < s.heap.objs.size) (h1 : i < us.size) (h2 : i < ws.size)
    (q : ∀ h', ZipAt h' z TI TO i1 i2 l1 l2 S us ws (i + 1) → (∃ u v, us[i]? = some u ∧ ws[i]? = some v ∧ IsPair h' s.heap.objs.size u v) → (∀ b o, b ≠ z → b ≠ TO → b ≠ i1 → b ≠ i2 → s.heap.get? b = some o → h'.get? b = some o) → Q (some (.ref s.heap.objs.size)) { s with heap := h' }) :
    wpAny (model prog w) A (pyNext (.ref z)) Q E s := by
  have ex := Array.getElem?_eq_getElem h1
  have ey := Array.getElem?_eq_getElem h2
  have lt : ∀ {c o}, s.heap.get? c = some o → s.heap.objs.size ≠ c := fun e => Nat.ne_of_gt (Heap.lt_size e)
  have n1 : s.heap.objs.size ≠ i1 := let ⟨_, e, _⟩ := x.it1; lt e
  have n2 : s.heap.objs.size ≠ i2 := let ⟨_, e, _⟩ := x.it2; lt e
  rcases x.zz with ⟨hz, a, b, hTO⟩ | ⟨T, f, oT, hz, hT, r1, r2, r3, r4⟩
  · refine wpAny_pyNext_zip_item D hz x.ti hTO x.it1 x.it2 x.s1 x.s2 ex ey fun h' a1 a2 a3 a4 a5 a6 hk => q h' ?_ ⟨_, _, ex, ey, a5⟩ hk
    exact ⟨hk _ _ D.TIz D.TITO D.TIi1 D.TIi2 x.ti, a3, a4, x.s1.at fun o e => hk _ o D.l1z D.l1TO D.l1i1 D.l1i2 e, x.s2.at fun o e => hk _ o D.l2z D.l2TO D.l2i1 D.l2i2 e, .inr ⟨_, false, _, a1, a5, lt hz, n1, n2, Nat.ne_of_gt hS⟩⟩
  · refine wpAny_pyNext_zip_item_held D hz hT x.ti x.it1 x.it2 x.s1 x.s2 ex ey fun h' a1 a3 a4 a5 a6 hk => q h' ?_ ⟨_, _, ex, ey, a5⟩ fun b o c1 _ c3 c4 e => hk b o c1 c3 c4 e
    exact ⟨hk _ _ D.TIz D.TIi1 D.TIi2 x.ti, a3, a4, x.s1.at fun o e => hk _ o D.l1z D.l1i1 D.l1i2 e, x.s2.at fun o e => hk _ o D.l2z D.l2i1 D.l2i2 e, .inr ⟨T, true, oT, a1, hk _ _ r1 r2 r3 hT, r1, r2, r3, r4⟩⟩
theorem zipat_end {i : Nat} {Q : Option Value → Shared → Prop} (hh : A.handled = none) (D : ZipApart z TI TO i1 i2 l1 l2) (x : ZipAt s.heap z TI TO i1 i2 l1 l2 S us ws i) (he : us.size ≤ i ∨ ws.size ≤ i)
    (q : ∀ h', (∀ b o, b ≠ z → b ≠ TO → b ≠ i1 → b ≠ i2 → s.heap.get? b = some o → h'.get? b = some o) → Q none { s with heap := h' }) : wpAny (model prog w) A (pyNext (.ref z)) Q E s := by
  have hend : us[i]? = none ∨ ws[i]? = none := he.imp (fun e => Array.getElem?_eq_none e) fun e => Array.getElem?_eq_none e
  rcases x.zz with ⟨hz, a, b, hTO⟩ | ⟨T, f, oT, hz, hT, r1, r2, r3, r4⟩
  · exact wpAny_pyNext_zip_end hh D hz x.ti hTO x.it1 x.it2 x.s1 x.s2 hend q
  · exact wpAny_pyNext_zip_end_held hh D hz hT x.ti x.it1 x.it2 x.s1 x.s2 hend fun h' hk => q h' fun b o c1 _ c3 c4 e => hk b o c1 c3 c4 e
end
section
variable {prog : Program} {w : World} {A : Around} {s : Shared} {R : Result → Shared → Prop} {z TI TO i1 i2 l1 l2 S : Addr} {us ws : Array Value}
/-- what a turn of the filling keeps of what stood -/
def KeptZ (z TO i1 i2 S : Addr) (h h' : Heap) : Prop := ∀ b o, b ≠ S → b ≠ z → b ≠ TO → b ≠ i1 → b ≠ i2 → h.get? b = some o → h'.get? b = some o
theorem zipat_fill (hh : A.handled = none) (D : ZipApart z TI TO i1 i2 l1 l2) (O : ZipOff z TI TO i1 i2 l1 l2 S) (lo : Addr) (hlo : S ≤ lo ∧ z ≤ lo ∧ TO ≤ lo ∧ i1 ≤ lo ∧ i2 ≤ lo) (hm : us.size = ws.size) (hn : us.size ≤ sizeLine) (res : Value) {g0 : Heap}
    (q : ∀ h' tk acc c ts, KeptZ z TO i1 i2 S g0 h' → h'.get? S = some { cls := .type "list", dict := none, data := .seq acc c, slots := #[] } → ts.length = us.size → ZipGot us ws lo h' ts → acc.toList = ts.map Value.ref → R (.ok (.ret res)) { s with heap := h', toks := tk }) :
    ∀ (m i : Nat) (h : Heap) (tk c : Nat) (acc : Array Value) (ts : List Addr), us.size - i = m → i ≤ us.size → ZipAt h z TI TO i1 i2 l1 l2 S us ws i → KeptZ z TO i1 i2 S g0 h → h.get? S = some { cls := .type "list", dict := none, data := .seq acc c, slots := #[] } →
      acc.toList = ts.map Value.ref → ts.length = i → ZipGot us ws lo h ts → lo < h.objs.size → codeAny (model prog w) A (.builtin "list.extend.loop" ⟨[.ref S, .ref z, res], []⟩) R { s with heap := h, toks := tk } := by
  have big : ∀ {t : Addr}, lo < t → t ≠ S ∧ t ≠ z ∧ t ≠ TO ∧ t ≠ i1 ∧ t ≠ i2 := fun {t} e => by
    obtain ⟨a1, a2, a3, a4, a5⟩ := hlo
    exact ⟨Nat.ne_of_gt (Nat.lt_of_le_of_lt a1 e), Nat.ne_of_gt (Nat.lt_of_le_of_lt a2 e), Nat.ne_of_gt (Nat.lt_of_le_of_lt a3 e), Nat.ne_of_gt (Nat.lt_of_le_of_lt a4 e), Nat.ne_of_gt (Nat.lt_of_le_of_lt a5 e)⟩
  intro m
  induction m with
  | zero =>
    intro i h tk c acc ts hk hi x kz hS hacc hal hG hl
    refine codeAny_builtin PySem.F.entry_extend_loop ?_
    rw [Around.under_plainId PySem.F.plain_extend_loop _]
    show wpAny _ A.in1 (pyNext (.ref z) >>= _) _ _ _
    refine wpAny_bind (zipat_end (s := { s with heap := h, toks := tk }) (A := A.in1) (i := i) hh D x (.inl (by omega)) fun h' he => ?_)
    refine wpAny_pure (q h' tk acc c ts (fun b o c1 c2 c3 c4 c5 e => he b o c2 c3 c4 c5 (kz b o c1 c2 c3 c4 c5 e)) (he S _ O.z.symm O.to.symm O.i1.symm O.i2.symm hS) (by omega) ⟨hG.up, hG.hi, fun j t hj => ?_⟩ hacc)
    obtain ⟨u, v, e1, e2, e3⟩ := hG.at_ j t hj
    obtain ⟨_, c2, c3, c4, c5⟩ := big (hG.hi t (List.mem_of_getElem? hj))
    exact ⟨u, v, e1, e2, he t _ c2 c3 c4 c5 e3⟩
  | succ m ih =>
    intro i h tk c acc ts hk hi x kz hS hacc hal hG hl
    have hlt : i < us.size := by omega
    have hsz : acc.size = i := by rw [← Array.length_toList, hacc, List.length_map, hal]
    have hSl : S < h.objs.size := Heap.lt_size hS
    refine codeAny_builtin PySem.F.entry_extend_loop ?_
    rw [Around.under_plainId PySem.F.plain_extend_loop _]
    show wpAny _ A.in1 (pyNext (.ref z) >>= _) _ _ _
    refine wpAny_bind (zipat_item (s := { s with heap := h, toks := tk }) (i := i) D x hSl hlt (by omega) fun h' x' pr hkp => ?_)
    dsimp only at pr hkp ⊢
    have hS' := hkp S _ O.z.symm O.to.symm O.i1.symm O.i2.symm hS
    have up : ∀ b o, b ≠ S → h'.get? b = some o → (h'.update S (Obj.mapSeq (·.push (Value.ref h.objs.size)))).get? b = some o := fun b o hb e => (Heap.get?_update_other _ _ (Ne.symm hb)).trans e
    obtain ⟨u0, v0, p1, p2, p3⟩ := pr
    have e0 := up _ _ (Nat.ne_of_gt hSl) p3
    show wpAny _ A.in1 (updateSeq S (·.push (Value.ref h.objs.size)) >>= _) _ _ _
    refine wpAny_bind ?_
    refine wpAny_updateSeq hS' rfl (wpAny_pure ⟨plainId_quiet PySem.F.plain_extend_loop _, ih (i + 1) _ tk _ (acc.push (Value.ref h.objs.size)) (ts ++ [h.objs.size]) (by omega) hlt (x'.keep O fun b o hb e => up b o hb e)
      (fun b o c1 c2 c3 c4 c5 e => up b o c1 (hkp b o c2 c3 c4 c5 (kz b o c1 c2 c3 c4 c5 e))) (Heap.get?_update_self _ hS' rfl) (by rw [Array.toList_push, hacc, List.map_append]; rfl) (by rw [List.length_append, hal]; rfl) ⟨?_, ?_, ?_⟩ (Nat.lt_trans hl (Heap.lt_size e0))⟩) (by rw [hsz]; omega) (by show (acc.push (Value.ref h.objs.size)).size ≤ sizeLine + 1; rw [Array.size_push, hsz]; omega)
    · refine List.pairwise_append.mpr ⟨hG.up, List.pairwise_singleton _ _, fun a ha b hb => ?_⟩
      rw [List.mem_singleton.mp hb]
      exact hG.lt ha
    · intro t ht
      rcases List.mem_append.mp ht with ht | ht
      · exact hG.hi t ht
      · rw [List.mem_singleton.mp ht]
        exact hl
    · intro j t hj
      rcases Nat.lt_trichotomy j ts.length with h1 | h1 | h1
      · rw [List.getElem?_append_left h1] at hj
        obtain ⟨u, v, e1, e2, e3⟩ := hG.at_ j t hj
        obtain ⟨c1, c2, c3, c4, c5⟩ := big (hG.hi t (List.mem_of_getElem? hj))
        exact ⟨u, v, e1, e2, up t _ c1 (hkp t _ c2 c3 c4 c5 e3)⟩
      · subst h1
        have hb : h.objs.size = t := by simpa using hj
        subst hb
        rw [hal]
        exact ⟨u0, v0, p1, p2, e0⟩
      · rw [List.getElem?_eq_none (by rw [List.length_append, List.length_singleton]; omega)] at hj
        cases hj
end
section
variable {prog : Program} {w : World} {A : Around} {E : Value → Shared → Prop} {s : Shared} {z TI TO i1 i2 l1 l2 : Addr} {us ws : Array Value}
theorem zip_len_no : typeLookup (.type "zip") "__len__" = pure none := am_miss_of_fast (by decide +kernel)
theorem zip_hint_no : typeLookup (.type "zip") "__length_hint__" = pure none := am_miss_of_fast (by decide +kernel)
theorem zip_hint (hT : s.TypeIs (.ref z) "zip") {Q : Bool → Shared → Prop} (h : Q true s) : wpAny (model prog w) A (Builtin.List.listLengthHint (.ref z)) Q E s := by
  unfold Builtin.List.listLengthHint
  refine wpAny_bind (wpAny_specialOf hT zip_len_no ?_)
  refine wpAny_ite_split (fun hab => absurd hab (by decide)) (fun _ => ?_)
  refine wpAny_ite_split (fun hab => absurd hab (by decide)) (fun _ => ?_)
  refine wpAny_bind (wpAny_specialOf hT zip_hint_no ?_)
  exact wpAny_pure h
/-- list(z), z a zip at its beginning -/
theorem zip_list {Q : Value → Shared → Prop} (hh : A.handled = none) (D : ZipApart z TI TO i1 i2 l1 l2) (hz0 : IsZip s.heap z TI TO .none) (x : ZipAt s.heap z TI TO i1 i2 l1 l2 s.heap.objs.size us ws 0) (hlt : z < s.heap.objs.size ∧ TI < s.heap.objs.size ∧ TO < s.heap.objs.size ∧ i1 < s.heap.objs.size ∧ i2 < s.heap.objs.size) (hm : us.size = ws.size) (hn : us.size ≤ sizeLine)
    (q : ∀ h' tk acc c ts, (∀ b o, b ≠ z → b ≠ TO → b ≠ i1 → b ≠ i2 → s.heap.get? b = some o → h'.get? b = some o) → h'.get? s.heap.objs.size = some { cls := .type "list", dict := none, data := .seq acc c, slots := #[] } → ts.length = us.size → ZipGot us ws s.heap.objs.size h' ts →
      acc.toList = ts.map Value.ref → Q (.ref s.heap.objs.size) { s with heap := h', toks := tk }) :
    wpAny (model prog w) A (call (.type "list") [.ref z]) Q E s := by
  obtain ⟨b1, b2, b3, b4, b5⟩ := hlt
  have hl1 : l1 < s.heap.objs.size := let ⟨_, e, _⟩ := x.s1; Heap.lt_size e
  have hl2 : l2 < s.heap.objs.size := let ⟨_, e, _⟩ := x.s2; Heap.lt_size e
  have O : ZipOff z TI TO i1 i2 l1 l2 s.heap.objs.size := ⟨Nat.ne_of_lt b1, Nat.ne_of_lt b2, Nat.ne_of_lt b3, Nat.ne_of_lt b4, Nat.ne_of_lt b5, Nat.ne_of_lt hl1, Nat.ne_of_lt hl2⟩
  refine callType_codes (Q₁ := fun obj t => obj = .ref s.heap.objs.size ∧ t = { s with heap := s.heap.push { cls := .type "list", data := .seq #[] } }) PySem.F.called_list (PySem.F.typeCall_list_1 _) PySem.F.entry_list_init (code_list_new _ ⟨rfl, rfl⟩) fun obj t ht => ?_
  obtain ⟨rfl, rfl⟩ := ht
  have hS : (s.heap.push { cls := .type "list", data := .seq #[] }).get? s.heap.objs.size = some { cls := .type "list", data := .seq #[] } := Heap.get?_push_size _ rfl
  refine ⟨⟨_, hS, rfl⟩, PySem.F.args_list_init_2 _ _, ?_⟩
  show wpAny _ _ (do let old ← Builtin.List.listItems (.ref s.heap.objs.size); Builtin.List.listUpdate (.ref s.heap.objs.size) (fun _ => #[]); letGo old.toList.reverse; Builtin.List.listExtendWith (.ref s.heap.objs.size) (.ref z) .none) _ _ _
  refine wpAny_bind ?_
  unfold Builtin.List.listItems
  refine wpAny_bind (wpAny_seqItems hS rfl (wpAny_pure ?_))
  show wpAny _ _ (updateSeq s.heap.objs.size (fun _ => #[]) >>= fun _ => letGo (#[] : Array Value).toList.reverse >>= fun _ => Builtin.List.listExtendWith (.ref s.heap.objs.size) (.ref z) .none) _ _ _
  refine wpAny_bind (wpAny_updateSeq hS rfl ?_)
  have hS2 := Heap.get?_update_self (Obj.mapSeq (fun _ => (#[] : Array Value))) hS rfl
  have k1 : ∀ b o, b ≠ s.heap.objs.size → s.heap.get? b = some o → ((s.heap.push { cls := .type "list", data := .seq #[] }).update s.heap.objs.size (Obj.mapSeq (fun _ => (#[] : Array Value)))).get? b = some o := fun b o hb e => (Heap.get?_update_other _ _ (Ne.symm hb)).trans (Heap.get?_push_of_some _ e)
  have x2 := x.keep O k1
  have hz := k1 _ _ O.z hz0
  refine wpAny_bind (wpAny_letGo ?_)
  unfold Builtin.List.listExtendWith
  refine wpAny_bind (wpAny_typeOf (T := "zip") ⟨_, hz, rfl⟩ ?_)
  have c1 : Builtin.List.listSameRef (.ref s.heap.objs.size) (.ref z) = false := by simp [Builtin.List.listSameRef, O.z.symm]
  have c2 : (Value.type "zip" == Value.type "list") = false := by decide
  have c3 : (Value.type "zip" == Value.type "tuple") = false := by decide
  simp only [c1, c2, c3, Bool.or_false, Bool.false_eq_true, if_false]
  refine wpAny_bind (wpAny_pyIter_zip hz ?_)
  have go : ∀ (h : Heap) (c tk : Nat), (∀ b o, b ≠ s.heap.objs.size → s.heap.get? b = some o → h.get? b = some o) → h.get? s.heap.objs.size = some { cls := .type "list", data := .seq #[] c } →
      codeAny (model prog w) A.in1 (.builtin "list.extend.loop" ⟨[.ref s.heap.objs.size, .ref z, .none], []⟩) (wants (fun r t => r = Value.none ∧ Q (Value.ref s.heap.objs.size) t) E) { s with heap := h, toks := tk } := fun h c tk k e =>
    zipat_fill (A := A.in1) (s := s) (g0 := s.heap) hh D O s.heap.objs.size ⟨Nat.le_refl _, Nat.le_of_lt b1, Nat.le_of_lt b3, Nat.le_of_lt b4, Nat.le_of_lt b5⟩ hm hn .none
      (fun h' tk acc c ts k e hl hG ha => ⟨rfl, q h' tk acc c ts (fun b o d1 d2 d3 d4 r => k b o (Nat.ne_of_lt (Heap.lt_size r)) d1 d2 d3 d4 r) e hl hG ha⟩)
      us.size 0 h tk c #[] [] (Nat.sub_zero _) (Nat.zero_le _) (x.keep O k) (fun b o d1 _ _ _ _ r => k b o d1 r) e rfl rfl ⟨List.Pairwise.nil, (fun _ z => nomatch z), (fun j t hj => by simp at hj)⟩ (Heap.lt_size e)
  refine wpAny_bind (wpAny_holding (zip_hint ⟨_, hz, rfl⟩ ?_))
  refine wpAny_ite_split (fun _ => ?_) (fun _ => wpAny_pure ⟨plainId_quiet PySem.F.plain_extend_loop _, go _ _ _ k1 hS2⟩)
  refine wpAny_bind (wpAny_rule ?_)
  refine wpAny_bind ?_
  show wpAny _ _ (updateSeq s.heap.objs.size (·.push .none) >>= fun _ => updateSeq s.heap.objs.size (·.pop)) _ _ _
  refine wpAny_bind (wpAny_updateSeq hS2 rfl ?_)
  have hS3 := Heap.get?_update_self (Obj.mapSeq (·.push Value.none)) hS2 rfl
  refine wpAny_updateSeq (hz := by seq_fits) hS3 rfl ?_
  have hS4 := Heap.get?_update_self (Obj.mapSeq (·.pop)) hS3 rfl
  refine wpAny_pure ⟨plainId_quiet PySem.F.plain_extend_loop _, go _ _ _ (fun b o hb e => ?_) hS4⟩
  exact (Heap.get?_update_other _ _ (Ne.symm hb)).trans ((Heap.get?_update_other _ _ (Ne.symm hb)).trans (k1 b o hb e))
end
end PySem.W
namespace Cc
open PySem PySem.Spec PyProof.Rows L2
/-- pairs laid at new addresses -/
def layP : Hp → List Addr → List (V × V) → Hp
  | G, t :: ts, q :: qs => layP (upd G t (.tup [q.1, q.2])) ts qs
  | G, [], _ => G
  | G, _ :: _, [] => G
theorem layP_off {b : Addr} : ∀ (ts : List Addr) (qs : List (V × V)) (G : Hp), b ∉ ts → layP G ts qs b = G b
  | [], _, _, _ => rfl
  | _ :: _, [], _, _ => rfl
  | t :: ts, q :: qs, G, h => by
    show layP (upd G t (.tup [q.1, q.2])) ts qs b = G b
    rw [layP_off ts qs _ (fun z => h (List.mem_cons_of_mem _ z)), upd_ne (fun z => h (by rw [z]; exact List.mem_cons_self))]
theorem layP_at : ∀ (ts : List Addr) (qs : List (V × V)) (G : Hp), ts.Nodup → ∀ (j : Nat) (t : Addr) (q : V × V), ts[j]? = some t → qs[j]? = some q → layP G ts qs t = some (.tup [q.1, q.2])
  | [], _, _, _, j, _, _, h, _ => by cases h
  | _ :: _, [], _, _, j, _, _, _, h => by cases h
  | t :: ts, q :: qs, G, hn, 0, t', q', h1, h2 => by
    cases h1
    cases h2
    show layP (upd G t (.tup [q.1, q.2])) ts qs t = some (.tup [q.1, q.2])
    rw [layP_off ts qs _ (List.nodup_cons.mp hn).1, upd_same]
  | t :: ts, q :: qs, G, hn, j + 1, t', q', h1, h2 => layP_at ts qs (upd G t (.tup [q.1, q.2])) (List.nodup_cons.mp hn).2 j t' q' h1 h2
/-- list(zip(xs, ys)), told: a new list of new tuples -/
def rListZip (K : PySem.W.Frag) : List V → Hp → VK → Prop := fun vs H Q => ∃ (a b : Addr) (xs ys : List V), vs = [.ref a, .ref b] ∧ SqL K H a xs ∧ SqL K H b ys ∧ xs.length = ys.length ∧ xs.length ≤ 1000 ∧
  ∀ (p : Addr) (ts : List Addr) (H' : Hp), H p = none → (∀ t ∈ ts, H t = none) → Same H H' → H' p = some (.lst (ts.map V.ref)) → ts.length = xs.length → (∀ (j : Nat) (t : Addr) (x y : V), ts[j]? = some t → xs[j]? = some x → ys[j]? = some y → H' t = some (.tup [x, y])) → Q (.ref p) H'
theorem vals_refs2 : ∀ as : List Addr, Vals (as.map V.ref) (as.map Value.ref)
  | [] => .nil
  | _ :: as => .cons rfl (vals_refs2 as)
section
variable {X : Cx} {e e2 : Expr} {ta : TA} {p p2 cpos pos : Pos}
theorem pe_listZip (hc : X.calm = true) (ha : PA X [e, e2] ta) (hg : Gl X "list") (hm : X.mg "list" = none) (hv : bootBuiltins "list" = some (.type "list")) (hg2 : Gl X "zip") (hm2 : X.mg "zip" = none)
    (hs : starEach [.Call (.Name "zip" p2) [e, e2] [] cpos] X.env = (false, eval (.Call (.Name "zip" p2) [e, e2] [] cpos) X.env) :: starEach [] X.env := by rfl) (hs2 : starEach [e, e2] X.env = (false, eval e X.env) :: starEach [e2] X.env := by rfl) (hpl : (backTo cpos (starEach [e2] X.env)).any (·.1) = false := by rfl) :
    PE X (.Call (.Name "list" p) [.Call (.Name "zip" p2) [e, e2] [] cpos] [] pos) (fun σ H Q => ta σ H fun vs H1 => rListZip X.K vs H1 Q) := by
  refine ⟨fun pins s σ H Q I hq => ?_⟩
  refine wpAny_Call_Name_kw (ld_blt I hg hm hv ?_)
  refine PyProof.Rows.callWith_type1 ?_ hs rfl
  rw [hs]
  show wpAny _ _ (spliced ((false, eval (.Call (.Name "zip" p2) [e, e2] [] cpos) X.env) :: backTo pos (starEach [] X.env))) _ _ s
  refine Calls.spliced_cons ?_
  refine wpAny_Call_Name_kw (ld_blt I hg2 hm2 PyProof.Rows.boot_zip ?_)
  refine PyProof.Rows.callWith_type1 (thn (ha.run cpos pins s σ H _ I hq) fun us s1 ⟨vs, H1, I1, r1, q1⟩ => ?_) hs2 hpl
  obtain ⟨a, b, xs, ys, ex, hqx, hqy, hl, hz, q⟩ := q1
  subst ex
  cases r1 with
  | cons r rr =>
    cases rr with
    | cons r' rr =>
      cases rr
      cases r
      cases r'
      obtain ⟨its, rv, pl1, _⟩ := I1.list hqx
      obtain ⟨its2, rv2, pl2, _⟩ := I1.list hqy
      have la : a < s1.heap.objs.size := pl1.lt
      have lb : b < s1.heap.objs.size := pl2.lt
      have n1 := rv.length
      have n2 := rv2.length
      refine call_zip_2 pl1.isList pl2.isList fun h' zz hTI hTO h1 h2 hsz hk => ?_
      have I2 : Inv X pins σ H1 { s1 with heap := h' } := I1.kept (t' := s1.toks) hk
      refine Calls.spliced_nil ?_
      have sz : h'.objs.size = s1.heap.objs.size + 5 := hsz
      have L1 : h'.IsList a its.toArray := pl1.isList.at fun o e => hk _ o e
      have L2' : h'.IsList b its2.toArray := pl2.isList.at fun o e => hk _ o e
      have lt5 : ∀ {k : Nat}, k < 5 → s1.heap.objs.size + k ≠ h'.objs.size := fun {k} hk5 => by
        rw [sz]
        exact Nat.ne_of_lt (Nat.add_lt_add_left hk5 _)
      refine PySem.W.zip_list (s := { s1 with heap := h' }) (A := X.A) (I2.ok.hd hc) (PySem.W.ktu_apart s1.heap.objs.size a b la lb) zz ⟨hTI, h1, h2, L1, L2', .inl ⟨zz, _, _, hTO⟩⟩ ?_ (by simp only [List.size_toArray]; omega) (by simp only [List.size_toArray]; have : (1000 : Nat) ≤ sizeLine := (by decide); omega) fun g tk acc c ts gk gS gl gG gacc => ?_
      · show _ < h'.objs.size ∧ _ < h'.objs.size ∧ _ < h'.objs.size ∧ _ < h'.objs.size ∧ _ < h'.objs.size
        rw [sz]
        exact ⟨Nat.add_lt_add_left (by decide) _, Nat.add_lt_add_left (by decide) _, Nat.add_lt_add_left (by decide) _, Nat.lt_add_of_pos_right (by decide), Nat.add_lt_add_left (by decide) _⟩
      have k : ∀ b o, s1.heap.get? b = some o → g.get? b = some o := fun b o e => by
        have hb := Heap.lt_size e
        have ne : ∀ j : Nat, b ≠ s1.heap.objs.size + j := fun j => Nat.ne_of_lt (Nat.lt_of_lt_of_le hb (Nat.le_add_right _ _))
        exact gk b o (ne 4) (ne 3) (ne 0) (ne 1) (hk b o e)
      obtain ⟨S, eS⟩ : ∃ S, S = h'.objs.size := ⟨_, rfl⟩
      dsimp only at gk gS gG gacc ⊢
      rw [← eS] at gS gG ⊢
      have hS1 : s1.heap.objs.size ≤ S := by rw [eS, sz]; exact Nat.le_add_right _ _
      have gt : ∀ t ∈ ts, s1.heap.objs.size ≤ t := fun t ht => Nat.le_of_lt (Nat.lt_of_le_of_lt hS1 (gG.hi t ht))
      have new : ∀ t ∈ ts, H1 t = none := fun t ht => I1.hok.fresh (gt t ht)
      have newS : H1 S = none := I1.hok.fresh hS1
      have hSn : S ∉ ts := fun z => Nat.lt_irrefl _ (gG.hi _ z)
      have nd : ts.Nodup := List.Pairwise.imp (fun {a b} (h : a < b) => Nat.ne_of_lt h) gG.up
      have hzl : (xs.zip ys).length = ts.length := by rw [List.length_zip, gl, List.size_toArray]; omega
      have off : ∀ b, b ∉ ts → b ≠ S → layP (upd H1 S (.lst (ts.map V.ref))) ts (xs.zip ys) b = H1 b := fun b h1 h2 => by rw [layP_off ts _ _ h1, upd_ne h2]
      have low : ∀ b o, s1.heap.get? b = some o → b ∉ ts ∧ b ≠ S := fun b o e => ⟨fun z => Nat.lt_irrefl _ (Nat.lt_of_lt_of_le (Heap.lt_size e) (gt b z)), Nat.ne_of_lt (Nat.lt_of_lt_of_le (Heap.lt_size e) hS1)⟩
      have kp : ∀ b u, H1 b = some u → layP (upd H1 S (.lst (ts.map V.ref))) ts (xs.zip ys) b = some u := fun b u e => by
        rw [off b (fun z => by rw [new b z] at e; cases e) (fun z => by rw [z, newS] at e; cases e)]
        exact e
      have atS : layP (upd H1 S (.lst (ts.map V.ref))) ts (xs.zip ys) S = some (.lst (ts.map V.ref)) := by rw [layP_off ts _ _ hSn, upd_same]
      have atT : ∀ (j : Nat) (t : Addr) (x y : V), ts[j]? = some t → xs[j]? = some x → ys[j]? = some y → layP (upd H1 S (.lst (ts.map V.ref))) ts (xs.zip ys) t = some (.tup [x, y]) := fun j t x y h1 h2 h3 =>
        layP_at ts (xs.zip ys) _ nd j t (x, y) h1 (by rw [List.getElem?_zip_eq_some]; exact ⟨h2, h3⟩)
      have glx : ts.length = xs.length := by rw [gl, List.size_toArray]; omega
      have key : Inv X pins σ (layP (upd H1 S (.lst (ts.map V.ref))) ts (xs.zip ys)) { s1 with heap := g, toks := tk } := by
        refine I1.call' (ch := []) rfl ⟨fun b o z _ _ _ => k b o z, fun b o z _ _ _ => ⟨o.slots, k b o z⟩, fun b o z n _ => ?_, fun b o z _ => ⟨o, k b o z⟩, fun b l z => kp b _ z, fun b o u z => kp b _ z, fun b l z => ⟨#[], by rw [kp b _ z]; simp⟩⟩ (fun b u z => ?_) I1.bare fun b z => by simp at z
        · obtain ⟨z1, z2⟩ := low b o z
          rw [off b z1 z2]
          exact n
        · by_cases hb : b ∈ ts
          · obtain ⟨j, hj⟩ := List.mem_iff_getElem?.mp hb
            obtain ⟨u1, v1, f1, f2, f3⟩ := gG.at_ j b hj
            have hj' := (List.getElem?_eq_some_iff.mp hj).1
            have gx : xs[j]? = some (xs[j]'(by omega)) := List.getElem?_eq_getElem (by omega)
            have gy : ys[j]? = some (ys[j]'(by omega)) := List.getElem?_eq_getElem (by omega)
            have e1 := atT j b _ _ hj gx gy
            rw [e1] at z
            cases z
            obtain ⟨u2, hu2, ru2⟩ := rv.get gx
            obtain ⟨v2, hv2, rv2'⟩ := rv2.get gy
            rw [List.getElem?_toArray, hu2] at f1
            rw [List.getElem?_toArray, hv2] at f2
            cases f1
            cases f2
            exact ⟨(show 2 ≤ sizeLine by decide), [_, _], .cons ru2 (.cons rv2' .nil), ⟨_, f3, rfl, _, rfl⟩⟩
          · by_cases hb2 : b = S
            · rw [hb2] at z ⊢
              rw [atS] at z
              cases z
              refine ⟨by rw [List.length_map]; have : (1000 : Nat) ≤ sizeLine := (by decide); omega, acc.toList, c, by rw [gacc]; exact vals_refs2 ts, ?_⟩
              rw [Array.toArray_toList]
              exact gS
            · rw [off b hb hb2] at z
              exact (I1.hok b u z).stay (fun d v _ y => k d v y) (fun d y => kp d _ y) fun d l y => kp d _ y
      exact ⟨.ref S, _, key, rfl, q S ts _ newS new (fun b u e => kp b u e) atS glx atT⟩
end
end Cc
namespace Cc
open PySem PySem.Spec PyProof.Rows L2
/-! ### the common edge of two boxes -/
/-- how much two stretches have in common, below nought where they are apart -/
def ovl (x l y m : Rat) : Rat := ls (x + l) (y + m) - gr x y
/-- the same, nought at least, from the ends -/
def cmn (lo hi st en : Rat) : Rat := if gr lo st < ls hi en then ls hi en - gr lo st else 0
def touchM (p q : Bx) : Rat :=
  if ovl p.l p.w q.l q.w = 0 ∧ 0 < ovl p.t p.h q.t q.h then ovl p.t p.h q.t q.h else if ovl p.t p.h q.t q.h = 0 ∧ 0 < ovl p.l p.w q.l q.w then ovl p.l p.w q.l q.w else 0
def edgeM (p q : Bx) : Rat :=
  (if p.l + p.w = q.l ∨ q.l + q.w = p.l then 0 + cmn p.t (p.t + p.h) q.t (q.t + q.h) else 0) + (if p.t + p.h = q.t ∨ q.t + q.h = p.t then cmn p.l (p.l + p.w) q.l (q.l + q.w) else 0)
theorem ovl_zero {x l y m : Rat} (hl : 0 < l) (hm : 0 < m) : ovl x l y m = 0 ↔ (x + l = y ∨ y + m = x) := by
  unfold ovl gr ls
  split <;> split <;> constructor <;> grind
theorem cmn_ovl (x l y m : Rat) : cmn x (x + l) y (y + m) = if 0 < ovl x l y m then ovl x l y m else 0 := by
  unfold cmn ovl
  split <;> split <;> grind
theorem ovl_comm (x l y m : Rat) : ovl x l y m = ovl y m x l := by
  unfold ovl gr ls
  split <;> split <;> split <;> split <;> grind
theorem touch_comm (p q : Bx) : touchM p q = touchM q p := by
  unfold touchM
  rw [ovl_comm p.l p.w q.l q.w, ovl_comm p.t p.h q.t q.h]
theorem touch_edge {m n : Nat} {p q : Bx} (hp : p.Ok m) (hq : q.Ok n) : touchM p q = edgeM p q := by
  have e1 := ovl_zero (x := p.l) (y := q.l) hp.w0 hq.w0
  have e2 := ovl_zero (x := p.t) (y := q.t) hp.h0 hq.h0
  unfold touchM edgeM
  rw [cmn_ovl, cmn_ovl]
  by_cases h1 : p.l + p.w = q.l ∨ q.l + q.w = p.l
  · have z1 := e1.mpr h1
    rw [if_pos h1]
    by_cases h2 : p.t + p.h = q.t ∨ q.t + q.h = p.t
    · have z2 := e2.mpr h2
      rw [if_pos h2, z1, z2]
      grind
    · have z2 : ¬ ovl p.t p.h q.t q.h = 0 := fun z => h2 (e2.mp z)
      rw [if_neg h2]
      split <;> split <;> grind
  · have z1 : ¬ ovl p.l p.w q.l q.w = 0 := fun z => h1 (e1.mp z)
    rw [if_neg h1, if_neg (fun z => z1 z.1)]
    by_cases h2 : p.t + p.h = q.t ∨ q.t + q.h = p.t
    · have z2 := e2.mpr h2
      rw [if_pos h2]
      split <;> split <;> grind
    · have z2 : ¬ ovl p.t p.h q.t q.h = 0 := fun z => h2 (e2.mp z)
      rw [if_neg h2, if_neg (fun z => z2 z.1)]
      grind
theorem sz_ls {n : Nat} {x y : Rat} (hx : Sz n x) (hy : Sz n y) : Sz n (ls x y) := by
  rcases ls_or x y with e | e <;> rw [e] <;> assumption
theorem sz_ovl {n : Nat} {x l y m : Rat} (hx : Sz n x) (hl : Sz n l) (hy : Sz n y) (hm : Sz n m) : Sz (3 * n + 2) (ovl x l y m) :=
  sz_sub (sz_ls (sz_add hx hl (Nat.le_refl _)) (sz_add hy hm (Nat.le_refl _))) (sz_gr hx hy) (by omega)
theorem sz_touch {n : Nat} {p q : Bx} (hp : p.Ok n) (hq : q.Ok n) : Sz (3 * n + 2) (touchM p q) := by
  have a := sz_ovl hp.sl hp.sw hq.sl hq.sw
  have b := sz_ovl hp.st hp.sh hq.st hq.sh
  unfold touchM
  split
  · exact b
  · split
    · exact a
    · exact ⟨Nat.two_pow_pos _, Nat.one_lt_two_pow (by omega)⟩
/-! ### promises -/
@[irreducible] def spOvl (K : PySem.W.Frag) : Sp := fun vs H Q _ => ∃ (v1 v2 v3 v4 : V) (x l y m : Rat), vs = [v1, v2, v3, v4] ∧ PtV K H v1 x ∧ PtV K H v2 l ∧ PtV K H v3 y ∧ PtV K H v4 m ∧ Sz 900 x ∧ Sz 900 l ∧ Sz 900 y ∧ Sz 900 m ∧ ∀ u H', Same H H' → PtV K H' u (ovl x l y m) → Q u H'
@[irreducible] def spCmn (K : PySem.W.Frag) : Sp := fun vs H Q _ => ∃ (v1 v2 v3 v4 : V) (x l y m : Rat), vs = [v1, v2, v3, v4] ∧ PtV K H v1 x ∧ PtV K H v2 l ∧ PtV K H v3 y ∧ PtV K H v4 m ∧ Sz 1801 x ∧ Sz 1801 l ∧ Sz 1801 y ∧ Sz 1801 m ∧ ∀ u H', Same H H' → PtV K H' u (cmn x l y m) → Q u H'
@[irreducible] def spEdge (K : PySem.W.Frag) (g : Bx → Bx → Rat) : Sp := fun vs H Q _ => ∃ (v w : V) (p q : Bx), vs = [v, w] ∧ BxV K H v p ∧ BxV K H w q ∧ p.Ok 900 ∧ q.Ok 900 ∧ ∀ u H', Same H H' → PtV K H' u (g p q) → Q u H'
section
variable {K : PySem.W.Frag} {H : Hp} {Q : VK} {E : XK} {vs : List V}
theorem ovl_step {v1 v2 v3 v4 : V} {x l y m : Rat} (h1 : PtV K H v1 x) (h2 : PtV K H v2 l) (h3 : PtV K H v3 y) (h4 : PtV K H v4 m) (s1 : Sz 900 x) (s2 : Sz 900 l) (s3 : Sz 900 y) (s4 : Sz 900 m) (h : ∀ u H', Same H H' → PtV K H' u (ovl x l y m) → Q u H') (hvs : vs = [v1, v2, v3, v4] := by rfl) : spOvl K vs H Q E := by
  unfold spOvl
  exact ⟨v1, v2, v3, v4, x, l, y, m, hvs, h1, h2, h3, h4, s1, s2, s3, s4, h⟩
theorem cmn_step {v1 v2 v3 v4 : V} {x l y m : Rat} (h1 : PtV K H v1 x) (h2 : PtV K H v2 l) (h3 : PtV K H v3 y) (h4 : PtV K H v4 m) (s1 : Sz 1801 x) (s2 : Sz 1801 l) (s3 : Sz 1801 y) (s4 : Sz 1801 m) (h : ∀ u H', Same H H' → PtV K H' u (cmn x l y m) → Q u H') (hvs : vs = [v1, v2, v3, v4] := by rfl) : spCmn K vs H Q E := by
  unfold spCmn
  exact ⟨v1, v2, v3, v4, x, l, y, m, hvs, h1, h2, h3, h4, s1, s2, s3, s4, h⟩
theorem edge_step {g : Bx → Bx → Rat} {v w : V} {p q : Bx} {m n : Nat} (hv : BxV K H v p) (hw : BxV K H w q) (hp : p.Ok m) (hq : q.Ok n) (hm : m ≤ 900) (hn : n ≤ 900) (h : ∀ u H', Same H H' → PtV K H' u (g p q) → Q u H') (hvs : vs = [v, w] := by rfl) : spEdge K g vs H Q E := by
  unfold spEdge
  exact ⟨v, w, p, q, hvs, hv, hw, hp.mono hm, hq.mono hn, h⟩
end
/-! ### the law's names and its boxes by names -/
theorem signs_snoc (cs : List Nat) (c : Nat) : (cs.map fun c => V.str ⟨#[c]⟩) ++ [V.str ⟨#[c]⟩] = ((cs ++ [c]).map fun c => V.str ⟨#[c]⟩) := by simp
/-- a text of one sign -/
def sign' (c : Nat) : Str := ⟨#[c]⟩
theorem signs_strs (cs : List Nat) : (cs.map fun c => V.str ⟨#[c]⟩) = (cs.map sign').map V.str := by
  rw [List.map_map]
  rfl
def letters : Str := "abcdefghijklmnopqrstuvwxyz"
theorem letters_len : letters.cps.toList.length = 26 := by decide +kernel
theorem letters_line : letters.length ≤ sizeLine := by decide +kernel
theorem letters_at {r : Int} (h0 : 0 ≤ r) (h1 : r < 26) : ∃ c, atI letters.cps.toList r = some c := by
  obtain ⟨k, rfl⟩ := Int.eq_ofNat_of_zero_le h0
  have hk : k < letters.cps.toList.length := by rw [letters_len]; omega
  exact ⟨_, atI_nat (List.getElem?_eq_getElem hk)⟩
theorem signs_len (cs : List Nat) : ((cs.map sign').map (·.length)).sum = cs.length := by
  induction cs with
  | nil => rfl
  | cons c r ih =>
    rw [List.map_cons, List.map_cons, List.sum_cons, ih, List.length_cons]
    show 1 + r.length = r.length + 1
    omega
theorem signs_set (cs : List Nat) (j c : Nat) : (cs.map fun c => V.str ⟨#[c]⟩).set j (V.str ⟨#[c]⟩) = ((cs.set j c).map fun c => V.str ⟨#[c]⟩) := by
  rw [List.map_set]
/-- names that are unlike, of one to eight signs -/
structure NmOk (zs : List Str) : Prop where
  nd : zs.Nodup
  len : ∀ z ∈ zs, 1 ≤ z.cps.toList.length ∧ z.cps.toList.length ≤ 8
  lo : ∀ z ∈ zs, ∀ c ∈ z.cps.toList, c < 256
theorem joinL_nil : ∀ cs : List Nat, TL.joinL [] (cs.map fun c => [c]) = cs
  | [] => rfl
  | [_] => rfl
  | x :: y :: r => by
    show [x] ++ ([] ++ TL.joinL [] ((y :: r).map fun c => [c])) = x :: y :: r
    rw [joinL_nil (y :: r)]
    rfl
theorem join_signs (cs : List Nat) : (Txt.join "" (cs.map sign')).cps.toList = cs := by
  rw [TL.join_eq]
  refine (TL.tl_join "" (cs.map sign')).trans ?_
  rw [List.map_map]
  exact joinL_nil cs
theorem letters_low : ∀ c ∈ letters.cps.toList, c < 256 := by decide +kernel
theorem letter_low {r : Int} {c : Nat} (h : atI letters.cps.toList r = some c) : c < 256 := by
  unfold atI at h
  obtain ⟨j, _, hj⟩ := Option.bind_eq_some_iff.mp h
  exact letters_low _ (List.mem_of_getElem? hj)
theorem lo_snoc {cs : List Nat} {c : Nat} (h : ∀ x ∈ cs, x < 256) (hc : c < 256) : ∀ x ∈ cs ++ [c], x < 256 := fun x hx => (List.mem_append.mp hx).elim (h x) fun z => by rw [List.mem_singleton.mp z]; exact hc
theorem lo_set {cs : List Nat} {c j : Nat} (h : ∀ x ∈ cs, x < 256) (hc : c < 256) : ∀ x ∈ cs.set j c, x < 256 := fun x hx => (List.mem_or_eq_of_mem_set hx).elim (h x) fun z => by rw [z]; exact hc
theorem letters_nodup : letters.cps.toList.Nodup := by decide +kernel
theorem letters_inj {i j : Int} (i0 : 0 ≤ i) (i1 : i < 26) (j0 : 0 ≤ j) (j1 : j < 26) {c : Nat} (h1 : atI letters.cps.toList i = some c) (h2 : atI letters.cps.toList j = some c) : i = j := by
  obtain ⟨a, rfl⟩ := Int.eq_ofNat_of_zero_le i0
  obtain ⟨b, rfl⟩ := Int.eq_ofNat_of_zero_le j0
  have ha : a < letters.cps.toList.length := by rw [letters_len]; omega
  have hb : b < letters.cps.toList.length := by rw [letters_len]; omega
  rw [atI_nat (List.getElem?_eq_getElem ha)] at h1
  rw [atI_nat (List.getElem?_eq_getElem hb)] at h2
  have e : letters.cps.toList[a]? = letters.cps.toList[b]? := by
    rw [List.getElem?_eq_getElem ha, List.getElem?_eq_getElem hb, h1, h2]
  rw [(List.getElem?_inj ha letters_nodup).mp e]
/-- each name has at the same place a letter that hangs on its number -/
theorem names_nodup {zs : List Str} {bg st : Int} {pn : Nat} (hz : zs.length ≤ 26) (hst : ∀ i j : Int, 0 ≤ i → i < 26 → 0 ≤ j → j < 26 → (bg + st * (0 + i)) % 26 = (bg + st * (0 + j)) % 26 → i = j)
    (h : ∀ (j : Nat) z, zs[j]? = some z → ∃ ch, atI letters.cps.toList ((bg + st * (0 + (j : Int))) % 26) = some ch ∧ z.cps.toList[pn]? = some ch) : zs.Nodup := by
  refine List.pairwise_iff_getElem.mpr fun i j hi hj hij e => ?_
  obtain ⟨c1, h1, k1⟩ := h i _ (List.getElem?_eq_getElem hi)
  obtain ⟨c2, h2, k2⟩ := h j _ (List.getElem?_eq_getElem hj)
  rw [e, k2] at k1
  cases k1
  have q := letters_inj (Int.emod_nonneg _ (by decide)) (Int.emod_lt_of_pos _ (by decide)) (Int.emod_nonneg _ (by decide)) (Int.emod_lt_of_pos _ (by decide)) h1 h2
  have := hst i j (by omega) (by omega) (by omega) (by omega) q
  omega
@[irreducible] def spNames : Sp := fun vs H Q _ => ∃ (c : Addr) (m : Nat), vs = [.ref c, .int m] ∧ Bag H c ∧ m ≤ 26 ∧ ∀ L (zs : List Str) H', H L = none → H' L = some (.lst (zs.map V.str)) → zs.length = m → NmOk zs → Bag H' c → Kp c H H' → Q (.ref L) H'
theorem names_step {H : Hp} {Q : VK} {E : XK} {vs : List V} {c : Addr} {m : Nat} (hb : Bag H c) (hm : m ≤ 26) (q : ∀ L (zs : List Str) H', H L = none → H' L = some (.lst (zs.map V.str)) → zs.length = m → NmOk zs → Bag H' c → Kp c H H' → Q (.ref L) H') (hvs : vs = [.ref c, .int m] := by rfl) : spNames vs H Q E := by
  unfold spNames
  exact ⟨c, m, hvs, hb, hm, q⟩
@[irreducible] def spPlainBox (K : PySem.W.Frag) : Sp := fun vs H Q _ => ∃ c : Addr, vs = [.ref c] ∧ Bag H c ∧ ∀ v b H', BxV K H' v b → b.Ok 202 → b.l = 0 → b.t = 0 → Bag H' c → Kp c H H' → Q v H'
theorem plainbox_step {K : PySem.W.Frag} {H : Hp} {Q : VK} {E : XK} {vs : List V} {c : Addr} (hb : Bag H c) (h : ∀ v b H', BxV K H' v b → b.Ok 202 → b.l = 0 → b.t = 0 → Bag H' c → Kp c H H' → Q v H') (hvs : vs = [.ref c] := by rfl) : spPlainBox K vs H Q E := by
  unfold spPlainBox
  exact ⟨c, hvs, hb, h⟩
/-- boxes by names, as they stand -/
def namedL (zs : List Str) (us : List V) : List (Key × V) := mergeK [] ((zs.map Sum.inr).zip us)
/-- cut boxes of a plain box, by names -/
structure Cut (K : PySem.W.Frag) (H : Hp) (v : V) (D : Addr) (bx : Bx) (zs : List Str) (us : List V) (ws ss : List Int) (d : Bool) : Prop where
  bv : BxV K H v bx
  ok : bx.Ok 202
  l0 : bx.l = 0
  t0 : bx.t = 0
  wo : WOk ws
  so : SOk ss ws.length
  zl : zs.length = ws.length
  zn : NmOk zs
  bs : Bxs K H us (laidM bx ws ss d)
  at_ : H D = some (.dK (namedL zs us))
@[irreducible] def spBoxesNamed (K : PySem.W.Frag) : Sp := fun vs H Q _ => ∃ (c : Addr) (m : Int), vs = [.ref c, .int m] ∧ Bag H c ∧ 1 ≤ m ∧ m ≤ 12 ∧ ∀ p v D bx zs us ws ss d H', H p = none → H' p = some (.tup [v, .ref D]) → H D = none → Cut K H' v D bx zs us ws ss d → Bag H' c → Kp c H H' → Q (.ref p) H'
theorem boxesnamed_step {K : PySem.W.Frag} {H : Hp} {Q : VK} {E : XK} {vs : List V} {c : Addr} {m : Int} (hb : Bag H c) (h1 : 1 ≤ m) (h2 : m ≤ 12) (q : ∀ p v D bx zs us ws ss d H', H p = none → H' p = some (.tup [v, .ref D]) → H D = none → Cut K H' v D bx zs us ws ss d → Bag H' c → Kp c H H' → Q (.ref p) H') (hvs : vs = [.ref c, .int m] := by rfl) : spBoxesNamed K vs H Q E := by
  unfold spBoxesNamed
  exact ⟨c, m, hvs, hb, h1, h2, q⟩
theorem paired_of {α β : Type} {R : α → β → Prop} : ∀ (xs : List α) (ys : List β), xs.length = ys.length → (∀ (j : Nat) x y, xs[j]? = some x → ys[j]? = some y → R x y) → Paired R xs ys
  | [], [], _, _ => .nil
  | [], _ :: _, h, _ => by cases h
  | _ :: _, [], h, _ => by cases h
  | x :: xs, y :: ys, h, k => .cons (k 0 x y rfl rfl) (paired_of xs ys (Nat.succ.inj h) fun j x y h1 h2 => k (j + 1) x y h1 h2)
theorem mergeK_len : ∀ (more kvs : List (Key × V)), (mergeK kvs more).length ≤ kvs.length + more.length
  | [], kvs => by show kvs.length ≤ kvs.length + 0; omega
  | x :: more, kvs => by
    have h := mergeK_len more (putK kvs x.1 x.2)
    have h2 : (putK kvs x.1 x.2).length ≤ kvs.length + 1 := by
      unfold putK
      split
      · rw [List.length_map]
        omega
      · rw [List.length_append]
        exact Nat.le_refl _
    show (mergeK (putK kvs x.1 x.2) more).length ≤ kvs.length + (more.length + 1)
    omega
theorem mergeK_new : ∀ (more kvs : List (Key × V)), ((kvs ++ more).map (·.1)).Nodup → mergeK kvs more = kvs ++ more
  | [], kvs, _ => (List.append_nil kvs).symm
  | x :: more, kvs, h => by
    have h1 : x.1 ∉ kvs.map (·.1) := fun z => by
      rw [List.map_append, List.nodup_append] at h
      exact h.2.2 _ z x.1 (by simp) rfl
    have e : putK kvs x.1 x.2 = kvs ++ [x] := by
      unfold putK
      rw [if_neg]
      intro z
      obtain ⟨y, hy, e⟩ := List.any_eq_true.mp z
      exact h1 (List.mem_map.mpr ⟨y, hy, by simpa using e⟩)
    show mergeK (putK kvs x.1 x.2) more = kvs ++ x :: more
    rw [e, mergeK_new more _ (by simpa using h), List.append_assoc]
    rfl
theorem named_eq {zs : List Str} {us : List V} (h : zs.Nodup) (hl : zs.length = us.length) : namedL zs us = (zs.map Sum.inr).zip us := by
  unfold namedL
  rw [mergeK_new _ _ ?_, List.nil_append]
  rw [List.nil_append, List.map_fst_zip (by rw [List.length_map]; omega)]
  exact List.Pairwise.map _ (fun a b n e => n (Sum.inr.inj e)) h
theorem named_len (zs : List Str) (us : List V) : (namedL zs us).length ≤ zs.length := by
  have h := mergeK_len ((zs.map (Sum.inr : Str → Key)).zip us) []
  rw [List.length_zip, List.length_map, List.length_nil] at h
  unfold namedL
  omega
theorem valK_mem : ∀ {kvs : List (Key × V)} {k : Key} {v : V}, (k, v) ∈ kvs → ∃ v', valV kvs k = some v' ∧ (k, v') ∈ kvs
  | [], _, _, h => by cases h
  | x :: r, k, v, h => by
    by_cases e : x.1 = k
    · refine ⟨x.2, ?_, by rw [← e]; exact List.mem_cons_self⟩
      simp [valV, e]
    · rcases List.mem_cons.mp h with z | z
      · exact absurd (by rw [← z]) e
      · obtain ⟨v', h1, h2⟩ := valK_mem z
        refine ⟨v', ?_, List.mem_cons_of_mem _ h2⟩
        simp [valV, e] at h1 ⊢
        exact h1
/-- what stands in such a dict is one of the boxes -/
theorem mem_mergeK : ∀ (more kvs : List (Key × V)) {kv : Key × V}, kv ∈ mergeK kvs more → kv.2 ∈ kvs.map (·.2) ∨ kv.2 ∈ more.map (·.2)
  | [], _, kv, h => .inl (List.mem_map.mpr ⟨kv, h, rfl⟩)
  | x :: more, kvs, kv, h => by
    have h' : kv ∈ mergeK (putK kvs x.1 x.2) more := h
    rcases mem_mergeK more _ h' with h2 | h2
    · obtain ⟨y, hy, e⟩ := List.mem_map.mp h2
      unfold putK at hy
      split at hy
      · obtain ⟨y0, hy0, e0⟩ := List.mem_map.mp hy
        by_cases z : y0.1 = x.1
        · rw [if_pos z] at e0
          rw [← e, ← e0]
          exact .inr (List.mem_cons_self ..)
        · rw [if_neg z] at e0
          rw [← e, ← e0]
          exact .inl (List.mem_map.mpr ⟨y0, hy0, rfl⟩)
      · rcases List.mem_append.mp hy with hy | hy
        · exact .inl (by rw [← e]; exact List.mem_map.mpr ⟨y, hy, rfl⟩)
        · rw [List.mem_singleton.mp hy] at e
          rw [← e]
          exact .inr (List.mem_cons_self ..)
    · exact .inr (List.mem_cons_of_mem _ h2)
theorem named_mem {zs : List Str} {us : List V} {kv : Key × V} (h : kv ∈ namedL zs us) : kv.2 ∈ us := by
  rcases mem_mergeK _ _ h with h | h
  · cases h
  · obtain ⟨x, hx, e⟩ := List.mem_map.mp h
    rw [← e]
    exact (List.of_mem_zip hx).2
end Cc
/-! XNear: boxes by names; a box's neighbours. -/
namespace L2
open PySem PySem.Spec PyProof.Rows
/-- list(d), d a dict with keys that are ints or texts, locked or not -/
def rListDR : List V → Hp → VK → Prop := fun xs H Q => ∃ p kvs, xs = [.ref p] ∧ Rd H p (.dK kvs) ∧ ∀ q, H q = none → Q (.ref q) (upd H q (.lst (kvs.map fun kv => kV kv.1)))
theorem call_list_dKR {X : Cx} (calm : X.calm = true) : CallR X (.type "list") rListDR := call_listD calm
end L2
namespace Cc
open PySem PySem.Spec PyProof.Rows L2
theorem Rd.same {H H' : Hp} {a : Addr} {o : HO} (h : Rd H a o) (e : Same H H') : Rd H' a o := by
  rcases h with h | ⟨f, h⟩
  · exact .inl (e _ _ h)
  · exact .inr ⟨f, e _ _ h⟩
/-! ### boxes by names -/
def bxOf : List (Str × Bx) → Str → Option Bx
  | [], _ => none
  | x :: r, z => if x.1 = z then some x.2 else bxOf r z
structure NOk (ns : List (Str × Bx)) : Prop where
  nd : (ns.map (·.1)).Nodup
  len : ns.length ≤ 20
  ok : ∀ x ∈ ns, x.2.Ok 900
theorem bxOf_mem : ∀ {ns : List (Str × Bx)} {z : Str} {b : Bx}, (ns.map (·.1)).Nodup → (z, b) ∈ ns → bxOf ns z = some b
  | [], _, _, _, h => by cases h
  | x :: r, z, b, nd, h => by
    rw [List.map_cons, List.nodup_cons] at nd
    unfold bxOf
    rcases List.mem_cons.mp h with e | h
    · rw [if_pos (by rw [← e]), ← e]
    · rw [if_neg (fun e => nd.1 (by rw [e]; exact List.mem_map.mpr ⟨_, h, rfl⟩))]
      exact bxOf_mem nd.2 h
theorem bxOf_some : ∀ {ns : List (Str × Bx)} {z : Str} {b : Bx}, bxOf ns z = some b → (z, b) ∈ ns
  | [], _, _, h => by cases h
  | x :: r, z, b, h => by
    unfold bxOf at h
    by_cases e : x.1 = z
    · rw [if_pos e] at h
      cases h
      subst e
      exact List.mem_cons_self
    · rw [if_neg e] at h
      exact List.mem_cons_of_mem _ (bxOf_some h)
theorem bxOf_key : ∀ {ns : List (Str × Bx)} {z : Str}, z ∈ ns.map (·.1) → ∃ b, bxOf ns z = some b
  | [], _, h => by cases h
  | x :: r, z, h => by
    unfold bxOf
    by_cases e : x.1 = z
    · exact ⟨_, if_pos e⟩
    · rw [if_neg e]
      rcases List.mem_cons.mp h with h | h
      · exact absurd h.symm e
      · exact bxOf_key h
theorem bxOf_none {ns : List (Str × Bx)} {z : Str} (h : z ∉ ns.map (·.1)) : bxOf ns z = none := by
  cases e : bxOf ns z with
  | none => rfl
  | some b => exact absurd (List.mem_map.mpr ⟨_, bxOf_some e, rfl⟩) h
section
variable {K : PySem.W.Frag} {H H' : Hp}
def NmR (K : PySem.W.Frag) (H : Hp) (kv : Key × V) (nb : Str × Bx) : Prop := kv.1 = Sum.inr nb.1 ∧ BxV K H kv.2 nb.2
theorem paired_mono {α β : Type} {R R' : α → β → Prop} (h : ∀ a b, R a b → R' a b) : ∀ {xs : List α} {ys : List β}, Paired R xs ys → Paired R' xs ys
  | _, _, .nil => .nil
  | _, _, .cons a r => .cons (h _ _ a) (paired_mono h r)
structure NmD (K : PySem.W.Frag) (H : Hp) (D : Addr) (kvs : List (Key × V)) (ns : List (Str × Bx)) : Prop where
  at_ : Rd H D (.dK kvs)
  pr : Paired (NmR K H) kvs ns
theorem nmr_same {kvs : List (Key × V)} {ns : List (Str × Bx)} (e : Same H H') (h : Paired (NmR K H) kvs ns) : Paired (NmR K H') kvs ns := paired_mono (fun _ _ x => ⟨x.1, x.2.same e⟩) h
theorem nmr_bag {c : Addr} {kvs : List (Key × V)} {ns : List (Str × Bx)} (e : Kp c H H') (hb : Bag H c) (h : Paired (NmR K H) kvs ns) : Paired (NmR K H') kvs ns := paired_mono (fun _ _ x => ⟨x.1, x.2.bag e hb⟩) h
theorem NmD.same {D : Addr} {kvs : List (Key × V)} {ns : List (Str × Bx)} (h : NmD K H D kvs ns) (e : Same H H') : NmD K H' D kvs ns := ⟨Rd.same h.at_ e, nmr_same e h.pr⟩
theorem bxv_frz {v : V} {b : Bx} {D : Addr} {o o' : HO} (x : BxV K H v b) (hD : H D = some o) (n : ∀ xs, o ≠ .tup xs) (n2 : ∀ f xs, o ≠ .frz f (.tup xs)) : BxV K (upd H D o') v b := by
  have k : ∀ {a : Addr} {xs : List V}, SqT K H a xs → SqT K (upd H D o') a xs := fun {a xs} h => by
    have q : ∀ {p : HO}, H a = some p → p ≠ o → (upd H D o') a = some p := fun {p} e ne => by
      rw [upd_ne (fun z => ne (by rw [z, hD] at e; exact (Option.some.inj e).symm))]
      exact e
    rcases h with (h | ⟨f, h⟩) | h
    · exact .inl (.inl (q h fun z => n _ z.symm))
    · exact .inl (.inr ⟨f, q h fun z => n2 _ _ z.symm⟩)
    · exact .inr h
  have kp : ∀ {v : V} {q : Rat}, PtV K H v q → PtV K (upd H D o') v q := fun ⟨a, e, h⟩ => ⟨a, e, k h⟩
  obtain ⟨a, v1, v2, v3, v4, rfl, h0, h1, h2, h3, h4⟩ := x
  exact ⟨a, v1, v2, v3, v4, rfl, k h0, kp h1, kp h2, kp h3, kp h4⟩
theorem nm_val : ∀ {kvs : List (Key × V)} {ns : List (Str × Bx)} {z : Str} {b : Bx}, Paired (NmR K H) kvs ns → bxOf ns z = some b → ∃ v, valV kvs (Sum.inr z) = some v ∧ BxV K H v b
  | _, _, _, _, .nil, h => by cases h
  | _, _, z, b, .cons (a := x) (b := y) h r, e => by
    unfold bxOf at e
    by_cases c : y.1 = z
    · rw [if_pos c] at e
      cases e
      refine ⟨x.2, ?_, h.2⟩
      have : x.1 = Sum.inr z := by rw [h.1, c]
      simp [valV, this]
    · rw [if_neg c] at e
      obtain ⟨v, h1, h2⟩ := nm_val r e
      refine ⟨v, ?_, h2⟩
      have : x.1 ≠ (Sum.inr z : Key) := fun q => c (Sum.inr.inj (h.1.symm.trans q))
      simp [valV, this] at h1 ⊢
      exact h1
theorem nm_valN : ∀ {kvs : List (Key × V)} {ns : List (Str × Bx)} {z : Str}, Paired (NmR K H) kvs ns → bxOf ns z = none → valV kvs (Sum.inr z) = none
  | _, _, _, .nil, _ => rfl
  | _, _, z, .cons (a := x) (b := y) h r, e => by
    unfold bxOf at e
    by_cases c : y.1 = z
    · rw [if_pos c] at e
      cases e
    · rw [if_neg c] at e
      have h1 := nm_valN r e
      have : x.1 ≠ (Sum.inr z : Key) := fun q => c (Sum.inr.inj (h.1.symm.trans q))
      simp [valV, this] at h1 ⊢
      exact h1
theorem nm_keys : ∀ {kvs : List (Key × V)} {ns : List (Str × Bx)}, Paired (NmR K H) kvs ns → (kvs.map fun kv => kV kv.1) = (ns.map (·.1)).map V.str
  | _, _, .nil => rfl
  | _, _, .cons (a := x) (b := y) h r => by
    rw [List.map_cons, List.map_cons, List.map_cons, nm_keys r, h.1]
    rfl
/-! ### a text and a part -/
def SpV (K : PySem.W.Frag) (H : Hp) (v : V) (x : Str × Rat) : Prop := ∃ a u, v = .ref a ∧ SqT K H a [.str x.1, u] ∧ PtV K H u x.2
theorem SpV.same {v : V} {x : Str × Rat} (h : SpV K H v x) (e : Same H H') : SpV K H' v x := by
  obtain ⟨a, u, rfl, h1, h2⟩ := h
  exact ⟨a, u, rfl, seqT_same e h1, h2.same e⟩
theorem SpV.kp {v : V} {x : Str × Rat} {c : Addr} {ys : List V} (h : SpV K H v x) (e : Kp c H H') (hb : H c = some (.lst ys)) : SpV K H' v x := by
  obtain ⟨a, u, rfl, h1, h2⟩ := h
  exact ⟨a, u, rfl, seqT_kp e hb h1, h2.kp e hb⟩
theorem SpV.mk {p : Addr} {u : V} {z : Str} {q : Rat} (np : H p = none) (h : PtV K H u q) : SpV K (upd H p (.tup [.str z, u])) (.ref p) (z, q) := ⟨p, u, rfl, SqT.of upd_same, h.same (same_new np)⟩
end
/-! ### the neighbours of a box -/
def nearAt (ns : List (Str × Bx)) (b : Bx) (y : Str) : Option (Str × Rat) :=
  match bxOf ns y with
  | some c => if touchM b c = 0 then none else some (y, touchM b c)
  | none => none
def nearM (ns : List (Str × Bx)) (b : Bx) : List (Str × Rat) := (srt (ns.map (·.1))).filterMap (nearAt ns b)
theorem near_len (ns : List (Str × Bx)) (b : Bx) : (nearM ns b).length ≤ ns.length := by
  unfold nearM
  have h := List.length_filterMap_le (nearAt ns b) (srt (ns.map (·.1)))
  rw [(srt_perm _).length_eq, List.length_map] at h
  exact h
theorem near_mem {ns : List (Str × Bx)} {b : Bx} {y : Str} {q : Rat} : (y, q) ∈ nearM ns b ↔ ∃ c, bxOf ns y = some c ∧ touchM b c = q ∧ q ≠ 0 := by
  unfold nearM
  rw [List.mem_filterMap]
  constructor
  · rintro ⟨z, hz, e⟩
    unfold nearAt at e
    cases h : bxOf ns z with
    | none => rw [h] at e; cases e
    | some c =>
      rw [h] at e
      dsimp only at e
      by_cases t : touchM b c = 0
      · rw [if_pos t] at e; cases e
      · rw [if_neg t] at e
        cases e
        exact ⟨c, h, rfl, t⟩
  · rintro ⟨c, h, rfl, t⟩
    refine ⟨y, (srt_perm _).mem_iff.mpr (List.mem_map.mpr ⟨_, bxOf_some h, rfl⟩), ?_⟩
    unfold nearAt
    rw [h]
    exact if_neg t
theorem near_nodup {ns : List (Str × Bx)} (h : (ns.map (·.1)).Nodup) (b : Bx) : ((nearM ns b).map (·.1)).Nodup := by
  have e : ∀ ys : List Str, ((ys.filterMap (nearAt ns b)).map (·.1)).Sublist ys := fun ys => by
    induction ys with
    | nil => exact List.Sublist.slnil
    | cons y r ih =>
      rw [List.filterMap_cons]
      cases q : nearAt ns b y with
      | none => exact ih.cons _
      | some x =>
        have : x.1 = y := by
          unfold nearAt at q
          cases h : bxOf ns y with
          | none => rw [h] at q; cases q
          | some c =>
            rw [h] at q
            dsimp only at q
            by_cases t : touchM b c = 0
            · rw [if_pos t] at q; cases q
            · rw [if_neg t] at q; cases q; rfl
        show (x.1 :: ((r.filterMap (nearAt ns b)).map (·.1))).Sublist (y :: r)
        rw [this]
        exact ih.cons₂ _
  exact (e _).nodup ((srt_perm _).nodup_iff.mpr h)
/-! ### promises -/
@[irreducible] def spCheckN : Sp := fun vs H Q _ => ∃ (D : Addr) (z : Str) (kvs : List (Key × V)) (u : V), vs = [.ref D, .str z] ∧ Rd H D (.dK kvs) ∧ valV kvs (Sum.inr z) = some u ∧ Q .non H
theorem checkn_step {H : Hp} {Q : VK} {E : XK} {vs : List V} {D : Addr} {z : Str} {kvs : List (Key × V)} {u : V} (h : Rd H D (.dK kvs)) (hv : valV kvs (Sum.inr z) = some u) (q : Q .non H) (hvs : vs = [.ref D, .str z] := by rfl) : spCheckN vs H Q E := by
  unfold spCheckN
  exact ⟨D, z, kvs, u, hvs, h, hv, q⟩
@[irreducible] def spNear (K : PySem.W.Frag) : Sp := fun vs H Q _ => ∃ (D : Addr) (z : Str) (kvs : List (Key × V)) (ns : List (Str × Bx)) (b : Bx), vs = [.ref D, .str z] ∧ NmD K H D kvs ns ∧ NOk ns ∧ bxOf ns z = some b ∧ ∀ L us H', H L = none → Same H H' → H' L = some (.lst us) → Al (SpV K H') us (nearM ns b) → Q (.ref L) H'
theorem near_step {K : PySem.W.Frag} {H : Hp} {Q : VK} {E : XK} {vs : List V} {D : Addr} {z : Str} {kvs : List (Key × V)} {ns : List (Str × Bx)} {b : Bx} (h : NmD K H D kvs ns) (ho : NOk ns) (hb : bxOf ns z = some b) (q : ∀ L us H', H L = none → Same H H' → H' L = some (.lst us) → Al (SpV K H') us (nearM ns b) → Q (.ref L) H') (hvs : vs = [.ref D, .str z] := by rfl) : spNear K vs H Q E := by
  unfold spNear
  exact ⟨D, z, kvs, ns, b, hvs, h, ho, hb, q⟩
/-! ### locks, dicts by names -/
/-- all tuples stand as they stood -/
def TK (K : PySem.W.Frag) (H H' : Hp) : Prop := ∀ a xs, SqT K H a xs → SqT K H' a xs
section
variable {K : PySem.W.Frag} {H H' H2 : Hp}
theorem TK.refl : TK K H H := fun _ _ h => h
theorem TK.of (e : Same H H') : TK K H H' := fun _ _ h => seqT_same e h
theorem TK.trans (x : TK K H H') (y : TK K H' H2) : TK K H H2 := fun a xs h => y a xs (x a xs h)
theorem tk_kp {D : Addr} {o : HO} (hD : H D = some o) (n : ∀ xs, o ≠ .tup xs) (n2 : ∀ f xs, o ≠ .frz f (.tup xs)) (e : Kp D H H') : TK K H H' := fun a xs h => by
  have q : ∀ {p : HO}, H a = some p → p ≠ o → H' a = some p := fun {p} h ne => e _ _ h fun z => ne (by rw [z, hD] at h; exact (Option.some.inj h).symm)
  rcases h with (h | ⟨f, h⟩) | h
  · exact .inl (.inl (q h fun z => n _ z.symm))
  · exact .inl (.inr ⟨f, q h fun z => n2 _ _ z.symm⟩)
  · exact .inr h
theorem tk_dK {D : Addr} {kvs : List (Key × V)} (hD : H D = some (.dK kvs)) (e : Kp D H H') : TK K H H' := tk_kp hD (fun _ z => by cases z) (fun _ _ z => by cases z) e
theorem tk_frz {D : Addr} {o : Obj} {kvs : List (Key × V)} (hD : H D = some (.frz o (.dK kvs))) (e : Kp D H H') : TK K H H' := tk_kp hD (fun _ z => by cases z) (fun _ _ z => by cases z) e
theorem PtV.tk {v : V} {q : Rat} (h : PtV K H v q) (e : TK K H H') : PtV K H' v q := by
  obtain ⟨a, rfl, h⟩ := h
  exact ⟨a, rfl, e _ _ h⟩
theorem BxAt.tk {a : Addr} {v1 v2 v3 v4 : V} {b : Bx} (x : BxAt K H a v1 v2 v3 v4 b) (e : TK K H H') : BxAt K H' a v1 v2 v3 v4 b := ⟨e _ _ x.1, x.2.1.tk e, x.2.2.1.tk e, x.2.2.2.1.tk e, x.2.2.2.2.tk e⟩
theorem BxV.tk {v : V} {b : Bx} (x : BxV K H v b) (e : TK K H H') : BxV K H' v b := by
  obtain ⟨a, v1, v2, v3, v4, rfl, x⟩ := x
  exact ⟨a, v1, v2, v3, v4, rfl, x.tk e⟩
theorem nmr_tk {kvs : List (Key × V)} {ns : List (Str × Bx)} (e : TK K H H') (h : Paired (NmR K H) kvs ns) : Paired (NmR K H') kvs ns := paired_mono (fun _ _ x => ⟨x.1, x.2.tk e⟩) h
theorem upd_back {E : Addr} {o o' : HO} (h : H E = some o) : upd (upd H E o') E o = H := funext fun a => by
  by_cases e : a = E
  · rw [e, upd_same, h]
  · rw [upd_ne e, upd_ne e]
theorem rd_lock {E E2 : Addr} {f : Obj} {o o2 : HO} (h2 : H E2 = some o2) (h : H E = some o) : Rd (upd H E (.frz f o)) E2 o2 := by
  by_cases e : E2 = E
  · subst e
    rw [h] at h2
    cases h2
    exact .inr ⟨f, upd_same⟩
  · exact .inl (by rw [upd_ne e]; exact h2)
theorem kp_lock {E : Addr} {o : HO} : Kp E H (upd H E o) := Kp.upd
theorem paired_get {α β : Type} {R : α → β → Prop} : ∀ {xs : List α} {ys : List β}, Paired R xs ys → ∀ {i : Nat} {x : α}, xs[i]? = some x → ∃ y, ys[i]? = some y ∧ R x y
  | _, _, .nil, i, x, e => by simp at e
  | _, _, .cons (b := b) h r, 0, x, e => by
    cases e
    exact ⟨b, rfl, h⟩
  | _, _, .cons h r, i + 1, x, e => by
    rw [List.getElem?_cons_succ] at e
    obtain ⟨y, h1, h2⟩ := paired_get r e
    exact ⟨y, by rw [List.getElem?_cons_succ]; exact h1, h2⟩
theorem paired_len {α β : Type} {R : α → β → Prop} : ∀ {xs : List α} {ys : List β}, Paired R xs ys → xs.length = ys.length
  | _, _, .nil => rfl
  | _, _, .cons _ r => by rw [List.length_cons, List.length_cons, paired_len r]
theorem paired_snoc {α β : Type} {R : α → β → Prop} {x : α} {y : β} : ∀ {xs : List α} {ys : List β}, Paired R xs ys → R x y → Paired R (xs ++ [x]) (ys ++ [y])
  | _, _, .nil, h => .cons h .nil
  | _, _, .cons a r, h => .cons a (paired_snoc r h)
/-- what stands at a name -/
theorem pr_val {β : Type} {R : Key × V → Str × β → Prop} (hR : ∀ kv x, R kv x → kv.1 = Sum.inr x.1) : ∀ {kvs : List (Key × V)} {xs : List (Str × β)}, Paired R kvs xs → (xs.map (·.1)).Nodup → ∀ {x : Str × β}, x ∈ xs → ∃ kv, valV kvs (Sum.inr x.1) = some kv.2 ∧ R kv x
  | _, _, .nil, _, x, h => by cases h
  | _, _, .cons (a := a) (b := b) h r, nd, x, hm => by
    rw [List.map_cons, List.nodup_cons] at nd
    rcases List.mem_cons.mp hm with e | hm
    · refine ⟨a, ?_, by rw [e]; exact h⟩
      have : a.1 = Sum.inr x.1 := by rw [hR _ _ h, e]
      simp [valV, this]
    · obtain ⟨kv, h1, h2⟩ := pr_val hR r nd.2 hm
      refine ⟨kv, ?_, h2⟩
      have : a.1 ≠ (Sum.inr x.1 : Key) := fun z => nd.1 (by
        rw [show b.1 = x.1 from Sum.inr.inj ((hR _ _ h).symm.trans z)]
        exact List.mem_map.mpr ⟨_, hm, rfl⟩)
      simp [valV, this] at h1 ⊢
      exact h1
theorem pr_none {β : Type} {R : Key × V → Str × β → Prop} (hR : ∀ kv x, R kv x → kv.1 = Sum.inr x.1) : ∀ {kvs : List (Key × V)} {xs : List (Str × β)}, Paired R kvs xs → ∀ {z : Str}, z ∉ xs.map (·.1) → valV kvs (Sum.inr z) = none
  | _, _, .nil, z, h => rfl
  | _, _, .cons (a := a) (b := b) h r, z, hm => by
    rw [List.map_cons, List.mem_cons] at hm
    have h1 := pr_none hR r (z := z) fun q => hm (.inr q)
    have : a.1 ≠ (Sum.inr z : Key) := fun q => hm (.inl (Sum.inr.inj (q.symm.trans (hR _ _ h))))
    simp [valV, this] at h1 ⊢
    exact h1
theorem pr_keys {β : Type} {R : Key × V → Str × β → Prop} (hR : ∀ kv x, R kv x → kv.1 = Sum.inr x.1) : ∀ {kvs : List (Key × V)} {xs : List (Str × β)}, Paired R kvs xs → kvs.map (·.1) = (xs.map (·.1)).map Sum.inr
  | _, _, .nil => rfl
  | _, _, .cons h r => by rw [List.map_cons, List.map_cons, List.map_cons, pr_keys hR r, hR _ _ h]
theorem keys_nodup {β : Type} {xs : List (Str × β)} (h : (xs.map (·.1)).Nodup) : ((xs.map (·.1)).map (Sum.inr : Str → Key)).Nodup := List.Pairwise.map _ (fun a b n e => n (Sum.inr.inj e)) h
theorem putK_new {kvs : List (Key × V)} {k : Key} {v : V} (h : k ∉ kvs.map (·.1)) : putK kvs k v = kvs ++ [(k, v)] := by
  unfold putK
  rw [if_neg]
  intro z
  obtain ⟨y, hy, e⟩ := List.any_eq_true.mp z
  exact h (List.mem_map.mpr ⟨y, hy, by simpa using e⟩)
/-- an entry of a dict of parts by names -/
def SqR (K : PySem.W.Frag) (H : Hp) (kv : Key × V) (x : Str × Rat) : Prop := kv.1 = Sum.inr x.1 ∧ PtV K H kv.2 x.2
theorem al_pairs : ∀ {us : List V} {xs : List (Str × Rat)}, Al (SpV K H) us xs → ∃ (ps : List Addr) (kvs : List (Key × V)), us = ps.map V.ref ∧ Paired (fun p kv => SqT K H p [kV kv.1, kv.2]) ps kvs ∧ Paired (SqR K H) kvs xs
  | _, _, .nil => ⟨[], [], rfl, .nil, .nil⟩
  | _, _, .cons (x := x) h r => by
    obtain ⟨ps, kvs, h1, h2, h3⟩ := al_pairs r
    obtain ⟨a, u, rfl, k1, k2⟩ := h
    exact ⟨a :: ps, (Sum.inr x.1, u) :: kvs, by rw [h1]; rfl, .cons k1 h2, .cons ⟨rfl, k2⟩ h3⟩
theorem nm_zip : ∀ {us : List V} {bs : List Bx} {zs : List Str}, Bxs K H us bs → zs.length = us.length → Paired (NmR K H) ((zs.map Sum.inr).zip us) (zs.zip bs)
  | _, _, [], .nil, _ => .nil
  | _, _, z :: r, .nil, h => by cases h
  | _, _, [], .cons _ _, h => by cases h
  | _, _, z :: r, .cons h t, e => .cons ⟨rfl, h⟩ (nm_zip t (Nat.succ.inj e))
theorem Cut.named {v : V} {D : Addr} {bx : Bx} {zs : List Str} {us : List V} {ws ss : List Int} {d : Bool} (h : Cut K H v D bx zs us ws ss d) : ∃ (kvs : List (Key × V)) (ns : List (Str × Bx)), H D = some (.dK kvs) ∧ Paired (NmR K H) kvs ns ∧ NOk ns ∧ ns.map (·.2) = laidM bx ws ss d ∧ ns.map (·.1) = zs := by
  have l1 := h.bs.len
  have l2 := laidM_len bx d h.so
  have l3 := h.zl
  have l4 := h.wo.l1
  have e1 : (zs.zip (laidM bx ws ss d)).map (·.1) = zs := List.map_fst_zip (by omega)
  have e2 : (zs.zip (laidM bx ws ss d)).map (·.2) = laidM bx ws ss d := List.map_snd_zip (by omega)
  refine ⟨namedL zs us, zs.zip (laidM bx ws ss d), h.at_, ?_, ⟨by rw [e1]; exact h.zn.nd, by rw [List.length_zip]; omega, fun x hx => ?_⟩, e2, e1⟩
  · rw [named_eq h.zn.nd (by omega)]
    exact nm_zip h.bs (by omega)
  · exact (laid_ok h.ok h.wo h.so (List.of_mem_zip hx).2).mono (by decide)
end
theorem touch_self {p : Bx} {n : Nat} (hp : p.Ok n) : touchM p p = 0 := by
  have e : ∀ x l, ovl x l x l = l := fun x l => by
    unfold ovl gr ls
    grind
  unfold touchM
  rw [e, e]
  have := hp.w0
  have := hp.h0
  rw [if_neg (fun z => by grind), if_neg (fun z => by grind)]
end Cc
/-! XAll: sorted of a list of tuples of ints, all sizes, a worst shape by told shapes. -/
namespace Cc
open PySem PySem.Spec PyProof.Rows L2
/-- a tuple of ints -/
def TsV (K : PySem.W.Frag) (H : Hp) (v : V) (s : List Int) : Prop := ∃ t, v = .ref t ∧ SqT K H t (s.map V.int)
section
variable {K : PySem.W.Frag} {H H' : Hp} {v : V} {s : List Int}
theorem TsV.same (h : TsV K H v s) (e : Same H H') : TsV K H' v s := by
  obtain ⟨t, h0, h1⟩ := h
  exact ⟨t, h0, seqT_same e h1⟩
theorem TsV.kp {b : Addr} {ys : List V} (h : TsV K H v s) (e : Kp b H H') (hb : H b = some (.lst ys)) : TsV K H' v s := by
  obtain ⟨t, h0, h1⟩ := h
  exact ⟨t, h0, seqT_kp e hb h1⟩
def szD (s : List Int) : PyData := .tuple (s.map .int)
theorem dpIs : ∀ {ss : List Int}, DpAll K H (ss.map V.int) (ss.map .int)
  | [] => .nil
  | _ :: _ => .cons (.int _) dpIs
theorem TsV.dp (h : TsV K H v s) : Dp K H v (szD s) := by
  obtain ⟨t, rfl, h1⟩ := h
  exact .tup h1 dpIs
theorem tsAll : ∀ {us : List V} {ss : List (List Int)}, Al (TsV K H) us ss → DpAll K H us (ss.map szD)
  | _, _, .nil => .nil
  | _, _, .cons a r => .cons a.dp (tsAll r)
end
theorem szD_lay (s : List Int) : (szD s).canLay0 = true ∧ (szD s).depth ≤ 2 := by
  have h1 : ∀ ss : List Int, PyData.canLayAll0 (ss.map .int) = true := fun ss => by
    induction ss with
    | nil => simp [PyData.canLayAll0]
    | cons x r ih =>
      rw [List.map_cons, PyData.canLayAll0, ih]
      simp [PyData.canLay0]
  have h2 := PySem.W.depth_ints s
  constructor
  · simp only [szD, PyData.canLay0]
    exact h1 s
  · simp only [szD, PyData.depth, h2]
    omega
theorem szDs_lay : ∀ ss : List (List Int), PyData.canLayAll0 (ss.map szD) = true ∧ PyData.depthAll (ss.map szD) ≤ 2
  | [] => by simp [PyData.canLayAll0, PyData.depthAll]
  | z :: zs => by
    have h := szDs_lay zs
    have h2 := szD_lay z
    refine ⟨by simp [PyData.canLayAll0, h2.1, h.1], ?_⟩
    simp only [List.map_cons, PyData.depthAll]
    have := h.2
    have := h2.2
    omega
theorem szDs_shaped (ss : List (List Int)) : SeqAt.shaped (.list (ss.map szD)) = true := by
  have h := szDs_lay ss
  show (PyData.canLay0 (.list (ss.map szD)) && decide (PyData.depth (.list (ss.map szD)) ≤ 64)) = true
  rw [Bool.and_eq_true]
  exact ⟨by simp only [PyData.canLay0]; exact h.1, decide_eq_true (by simp only [PyData.depth]; omega)⟩
theorem nil_shapedS : SeqAt.shaped (.list (([] : List (List Int)).map szD)) = true := szDs_shaped []
theorem eqv_nilS : ∀ ss : List (List Int), PyData.eqv (.list (ss.map szD)) (.list (([] : List (List Int)).map szD)) = ss.isEmpty
  | [] => rfl
  | _ :: _ => rfl
/-! ### sorted -/
section
variable {X : Cx} {pins : List (Addr × Obj)} {σ : L2.St} {H : Hp} {s : Shared}
theorem zip_each {K : PySem.W.Frag} : ∀ {us : List V} {ss : List (List Int)} {its : List Value}, Al (TsV K H) us ss → Vals us its → PySem.W.EachIs (fun v (b : V × List Int) => RelV b.1 v) its (us.zip ss)
  | _, _, _, .nil, .nil => .nil
  | _, _, _, .cons a r, .cons c t => .cons c (zip_each r t)
theorem zip_reads (I : Inv X pins σ H s) : ∀ {us : List V} {ss : List (List Int)} {its : List Value}, Al (TsV X.K H) us ss → Vals us its → PySem.W.EachIs (fun v (b : V × List Int) => ∃ as, Reads s.heap v (szD b.2) as) its (us.zip ss)
  | _, _, _, .nil, .nil => .nil
  | _, _, _, .cons a r, .cons c t => .cons (Dp.reads I _ _ _ a.dp c) (zip_reads I r t)
theorem al_zip {α : Type} {R : V → α → Prop} : ∀ {us : List V} {ss : List α}, Al R us ss → ∀ p ∈ us.zip ss, R p.1 p.2
  | _, _, .nil, p, h => by cases h
  | _, _, .cons a r, p, h => by
    rw [List.zip_cons_cons] at h
    rcases List.mem_cons.mp h with h | h
    · rw [h]
      exact a
    · exact al_zip r p h
theorem al_of {α : Type} {R : V → α → Prop} : ∀ {zs : List (V × α)}, (∀ p ∈ zs, R p.1 p.2) → Al R (zs.map (·.1)) (zs.map (·.2))
  | [], _ => .nil
  | z :: zs, h => .cons (h z List.mem_cons_self) (al_of fun p hp => h p (List.mem_cons_of_mem _ hp))
theorem vals_each {α : Type} : ∀ {out : List Value} {zs : List (V × α)}, PySem.W.EachIs (fun v (b : V × α) => RelV b.1 v) out zs → Vals (zs.map (·.1)) out
  | _, _, .nil => .nil
  | _, _, .cons a r => .cons a (vals_each r)
theorem lt_of_cons {x y : Int} {xs ys : List Int} : (x :: xs) < (y :: ys) ↔ x < y ∨ (x = y ∧ xs < ys) := List.cons_lt_cons_iff
theorem lex_total : ∀ a b : List Int, ¬ b < a ∨ ¬ a < b
  | [], _ => .inl (List.not_lt_nil _)
  | _ :: _, [] => .inr (List.not_lt_nil _)
  | x :: xs, y :: ys => by
    rw [lt_of_cons, lt_of_cons]
    rcases lex_total xs ys with h | h
    · by_cases c : y < x
      · exact .inr (by rintro (z | ⟨z, _⟩) <;> omega)
      · exact .inl fun z => z.elim c fun w => h w.2
    · by_cases c : x < y
      · exact .inl (by rintro (z | ⟨z, _⟩) <;> omega)
      · exact .inr fun z => z.elim c fun w => h w.2
theorem lex_trans : ∀ a b c : List Int, ¬ b < a → ¬ c < b → ¬ c < a
  | [], _, c, _, _ => List.not_lt_nil _
  | x :: xs, [], c, h, _ => fun _ => h (List.nil_lt_cons _ _)
  | x :: xs, y :: ys, [], _, h => fun _ => h (List.nil_lt_cons _ _)
  | x :: xs, y :: ys, z :: zs, h1, h2 => by
    rw [lt_of_cons] at h1 h2 ⊢
    have h3 : ¬ y < x := fun q => h1 (.inl q)
    have h4 : ¬ z < y := fun q => h2 (.inl q)
    rintro (q | ⟨q, r⟩)
    · omega
    · exact lex_trans xs ys zs (fun q2 => h1 (.inr ⟨by omega, q2⟩)) (fun q2 => h2 (.inr ⟨by omega, q2⟩)) r
theorem lex_antisymm : ∀ a b : List Int, ¬ b < a → ¬ a < b → a = b
  | [], [], _, _ => rfl
  | [], _ :: _, _, h => absurd (List.nil_lt_cons _ _) h
  | _ :: _, [], h, _ => absurd (List.nil_lt_cons _ _) h
  | x :: xs, y :: ys, h1, h2 => by
    rw [lt_of_cons] at h1 h2
    have h3 : ¬ y < x := fun q => h1 (.inl q)
    have h4 : ¬ x < y := fun q => h2 (.inl q)
    obtain rfl : x = y := by omega
    rw [lex_antisymm xs ys (fun q => h1 (.inr ⟨rfl, q⟩)) (fun q => h2 (.inr ⟨rfl, q⟩))]
theorem dataLe_sz : PySem.W.dataLe false (fun b : V × List Int => szD b.2) = fun p q => !decide (q.2 < p.2) := by
  funext p q
  rw [PySem.W.dataLe_eq]
  show (!PySem.W.dataLt (szD q.2) (szD p.2)) = _
  unfold szD
  rw [PySem.W.dataLt_tuple]
  have h := PySem.W.dataLt_ints q.2 p.2
  unfold PySem.W.rowLt at h
  rw [h]
def rSortedT (K : PySem.W.Frag) : List V → Hp → VK → Prop := fun vs H Q => ∃ (l : Addr) (us : List V) (ss : List (List Int)), vs = [V.ref l] ∧ SqL K H l us ∧ Al (TsV K H) us ss ∧ (∀ s ∈ ss, s ≠ []) ∧ ∀ (zs : List V) (ts : List (List Int)) (p : Addr), Al (TsV K H) zs ts → ts.Perm ss → ts.Pairwise (fun a b => ¬ b < a) → H p = none → Q (.ref p) (upd H p (.lst zs))
theorem cr_sortedT (hu : X.A.units + 64 < cLine) : CallR X (.builtin "sorted") (rSortedT X.K) := by
  intro pins s σ H vs us' Q I r h
  obtain ⟨l, us, ss, rfl, hs, hA, hne, q⟩ := h
  obtain ⟨its, rv, hl, hz⟩ := I.list hs
  rw [Vals.ref1 r]
  have hul := hA.len
  have hvl := rv.length
  have hzl : (us.zip ss).length = us.length := by rw [List.length_zip]; omega
  have hmem : ∀ d ∈ (us.zip ss).map (fun b : V × List Int => szD b.2), ∃ s ∈ ss, d = szD s := fun d hd => by
    obtain ⟨b, hb, rfl⟩ := List.mem_map.mp hd
    exact ⟨b.2, (List.of_mem_zip hb).2, rfl⟩
  refine PySem.W.sorted_data (enc := fun b : V × List Int => szD b.2) (bs := us.zip ss) hl.isList (zip_each hA rv) (zip_reads I hA rv) ?_ ?_ (by rw [hzl]; exact hz) (fun b _ => by have := (szD_lay b.2).2; omega) fun out hol ho => ?_
  · intro d hd d' hd'
    obtain ⟨s1, _, rfl⟩ := hmem d hd
    obtain ⟨s2, _, rfl⟩ := hmem d' hd'
    simp only [szD, PySem.W.alike]
    exact PySem.W.alike_ints s1 s2
  · refine .inl fun d hd => ?_
    obtain ⟨s1, h1, rfl⟩ := hmem d hd
    cases s1 with
    | nil => exact absurd rfl (hne _ h1)
    | cons x r => exact ⟨_, _, rfl⟩
  · obtain ⟨ep, he'⟩ := PyProof.Rows.sortedAll_at s.heap its out.toArray
    rw [dataLe_sz] at ho
    obtain ⟨zs, hzs⟩ : ∃ zs, zs = (us.zip ss).mergeSort (fun p q => !decide (q.2 < p.2)) := ⟨_, rfl⟩
    rw [← hzs] at ho
    have hpm : zs.Perm (us.zip ss) := by
      rw [hzs]
      exact List.mergeSort_perm _ _
    have hpw : zs.Pairwise (fun p q => (!decide (q.2 < p.2)) = true) := by
      rw [hzs]
      refine List.pairwise_mergeSort (fun a b c h1 h2 => ?_) (fun a b => ?_) _
      · simp only [Bool.not_eq_true', decide_eq_false_iff_not] at h1 h2 ⊢
        exact lex_trans _ _ _ h1 h2
      · have h := lex_total a.2 b.2
        simpa only [Bool.or_eq_true, Bool.not_eq_true', decide_eq_false_iff_not] using h
    have hA2 : Al (TsV X.K H) (zs.map (·.1)) (zs.map (·.2)) := al_of fun p hp => al_zip hA p (hpm.mem_iff.mp hp)
    have hp2 : (zs.map (·.2)).Perm ss := by
      have h := hpm.map (·.2)
      rw [List.map_snd_zip (by omega)] at h
      exact h
    have hw2 : (zs.map (·.2)).Pairwise (fun a b => ¬ b < a) := by
      refine List.Pairwise.map _ (fun x y h => ?_) hpw
      simpa only [Bool.not_eq_true', decide_eq_false_iff_not] using h
    have hlen : (zs.map (·.1)).length ≤ sizeLine := by
      rw [List.length_map, hpm.length_eq, hzl]
      exact hz
    exact ⟨.ref _, upd H (s.heap.objs.size + 1) (.lst (zs.map (·.1))), I.laid (t' := s.toks) (fun _ _ => PyProof.Rows.sortedAll_old) (Nat.le_succ _) ⟨hlen, out, ep, vals_each ho, he'⟩, rfl, q _ _ _ hA2 hp2 hw2 (I.hok.fresh (Nat.le_succ _))⟩
end
theorem Al.app {α : Type} {R : V → α → Prop} : ∀ {us vs : List V} {xs ys : List α}, Al R us xs → Al R vs ys → Al R (us ++ vs) (xs ++ ys)
  | _, _, _, _, .nil, h => h
  | _, _, _, _, .cons a r, h => .cons a (Al.app r h)
/-! ### all sizes, by how many rows -/
def ext1 (n : Nat) (s : List Int) : List (List Int) := (List.range ((n : Int) - s.sum).toNat).map fun i : Nat => s ++ [(1 : Int) + (i : Int)]
def lvl (n : Nat) : Nat → List (List Int)
  | 0 => [[]]
  | k + 1 => (lvl n k).flatMap (ext1 n)
def dnS (n : Nat) (ls : List (List Int)) : List (List Int) := ls.filter fun s => decide ((n : Int) - s.sum = 0)
def dones (n : Nat) : Nat → List (List Int)
  | 0 => []
  | k + 1 => dones n k ++ dnS n (lvl n k)
theorem lvl_ok {n : Nat} : ∀ {k : Nat} {s : List Int}, s ∈ lvl n k → s.length = k ∧ (∀ x ∈ s, 1 ≤ x) ∧ s.sum ≤ (n : Int)
  | 0, s, h => by
    rw [lvl] at h
    rw [List.mem_singleton.mp h]
    exact ⟨rfl, by simp, by simp⟩
  | k + 1, s, h => by
    rw [lvl] at h
    obtain ⟨t, h1, h2⟩ := List.mem_flatMap.mp h
    unfold ext1 at h2
    obtain ⟨i, h3, rfl⟩ := List.mem_map.mp h2
    have h3 := List.mem_range.mp h3
    obtain ⟨g1, g2, g3⟩ := lvl_ok h1
    refine ⟨by rw [List.length_append, g1]; rfl, fun x hx => ?_, ?_⟩
    · rcases List.mem_append.mp hx with hx | hx
      · exact g2 x hx
      · rw [List.mem_singleton.mp hx]
        omega
    · rw [List.sum_append, List.sum_cons, List.sum_nil]
      omega
theorem lvl_le {n k : Nat} (h : lvl n k ≠ []) : k ≤ n := by
  obtain ⟨s, hs⟩ := List.exists_mem_of_ne_nil _ h
  obtain ⟨g1, g2, g3⟩ := lvl_ok hs
  have := sum_nn g2
  omega
theorem lvl_mem {n : Nat} {s : List Int} (h : SOk s n) : ∀ k, k ≤ s.length → s.take k ∈ lvl n k
  | 0, _ => by
    rw [List.take_zero, lvl]
    exact List.mem_singleton.mpr rfl
  | k + 1, hk => by
    rw [lvl]
    refine List.mem_flatMap.mpr ⟨s.take k, lvl_mem h k (by omega), ?_⟩
    unfold ext1
    have h1 := h.off_int k
    have h2 := h.off_int (k + 1)
    have h3 := h.off_le (k + 1)
    have h4 : (s.take (k + 1)).sum = (s.take k).sum + s.getD k 0 := take_sum (by omega)
    have h5 := h.w (s.getD k 0) (by rw [List.getD_eq_getElem?_getD, List.getElem?_eq_getElem (show k < s.length by omega)]; exact List.getElem_mem _)
    refine List.mem_map.mpr ⟨(s.getD k 0 - 1).toNat, List.mem_range.mpr (by omega), ?_⟩
    rw [List.take_add_one, List.getElem?_eq_getElem (show k < s.length by omega)]
    have h6 : s.getD k 0 = s[k]'(by omega) := by rw [List.getD_eq_getElem?_getD, List.getElem?_eq_getElem (show k < s.length by omega)]; rfl
    rw [show (1 : Int) + ((s.getD k 0 - 1).toNat : Nat) = s.getD k 0 by omega, h6]
    rfl
theorem dones_mem {n : Nat} {s : List Int} : ∀ {k : Nat}, s ∈ dones n k ↔ ∃ j, j < k ∧ s ∈ lvl n j ∧ s.sum = (n : Int)
  | 0 => by
    rw [dones]
    constructor
    · intro h
      cases h
    · rintro ⟨j, h, _⟩
      omega
  | k + 1 => by
    rw [dones, List.mem_append, dones_mem (k := k)]
    unfold dnS
    rw [List.mem_filter, decide_eq_true_iff]
    constructor
    · rintro (⟨j, h1, h2, h3⟩ | ⟨h1, h2⟩)
      · exact ⟨j, by omega, h2, h3⟩
      · exact ⟨k, by omega, h1, by omega⟩
    · rintro ⟨j, h1, h2, h3⟩
      by_cases z : j = k
      · subst z
        exact .inr ⟨h2, by omega⟩
      · exact .inl ⟨j, by omega, h2, h3⟩
theorem all_mem {n k : Nat} {s : List Int} (h : lvl n k = []) : s ∈ dones n k ↔ SOk s n := by
  rw [dones_mem]
  constructor
  · rintro ⟨j, h1, h2, h3⟩
    exact ⟨(lvl_ok h2).2.1, h3⟩
  · intro hs
    have hlt : s.length < k := by
      rcases Nat.lt_or_ge s.length k with z | z
      · exact z
      · have := lvl_mem hs k z
        rw [h] at this
        cases this
    have := lvl_mem hs s.length (Nat.le_refl _)
    rw [List.take_length] at this
    exact ⟨_, hlt, this, hs.s⟩
theorem ext1_len {n : Nat} {s : List Int} (h : ∀ x ∈ s, 1 ≤ x) (hn : n ≤ 7) : (ext1 n s).length ≤ 7 := by
  unfold ext1
  rw [List.length_map, List.length_range]
  have := sum_nn h
  omega
theorem flat_len {n : Nat} (hn : n ≤ 7) : ∀ {ls : List (List Int)}, (∀ s ∈ ls, ∀ x ∈ s, 1 ≤ x) → (ls.flatMap (ext1 n)).length ≤ 7 * ls.length
  | [], _ => by simp
  | s :: r, h => by
    rw [List.flatMap_cons, List.length_append, List.length_cons]
    have h1 := ext1_len (h s List.mem_cons_self) hn
    have h2 := flat_len hn (ls := r) fun s hs => h s (List.mem_cons_of_mem _ hs)
    omega
theorem lvl_len {n : Nat} (hn : n ≤ 7) : ∀ k, (lvl n k).length ≤ 7 ^ k
  | 0 => by simp [lvl]
  | k + 1 => by
    rw [lvl, Nat.pow_succ]
    have h1 := flat_len hn (ls := lvl n k) fun s hs => (lvl_ok hs).2.1
    have h2 := lvl_len hn k
    omega
theorem dones_len {n : Nat} (hn : n ≤ 7) : ∀ k, (dones n k).length ≤ 7 ^ k
  | 0 => by simp [dones]
  | k + 1 => by
    rw [dones, List.length_append, Nat.pow_succ]
    have h1 : (dnS n (lvl n k)).length ≤ (lvl n k).length := List.length_filter_le _ _
    have h2 := lvl_len hn k
    have h3 := dones_len hn k
    omega
theorem big {n : Nat} (h : n ≤ 10000000) : n < sizeLine := by
  rw [sizeLine_eq]
  omega
/-- the worst shape of sizes by told shapes -/
def wOf (f : Nat → Nat → Rat) (ss : List Int) : Rat := mostL ((List.range ss.length).map fun j => f (off ss j) (off ss (j + 1)))
@[irreducible] def spAllSizes (K : PySem.W.Frag) : Sp := fun vs H Q _ => ∃ n : Nat, vs = [.int n] ∧ 1 ≤ n ∧ n ≤ 7 ∧ ∀ p zs ts H', H p = none → Same H H' → H' p = some (.lst zs) → Al (TsV K H') zs ts → (∀ s, s ∈ ts ↔ SOk s n) → ts.Pairwise (fun a b => ¬ b < a) → Q (.ref p) H'
@[irreducible] def spByShapes (K : PySem.W.Frag) : Sp := fun vs H Q _ => ∃ (D t : Addr) (n m : Nat) (f : Nat → Nat → Rat) (ss : List Int), vs = [.ref D, .ref t] ∧ DSh K n (AllR n) f m H D ∧ SqT K H t (ss.map V.int) ∧ SOk ss n ∧ 1 ≤ n ∧ n ≤ 12 ∧ (∀ i j, AllR n i j → Sz 3900 (f i j)) ∧ ∀ v H', Same H H' → PtV K H' v (wOf f ss) → Q v H'
section
variable {K : PySem.W.Frag} {H : Hp} {Q : VK} {E : XK} {vs : List V} {n m : Nat} {f : Nat → Nat → Rat} {ss : List Int} {D t : Addr}
theorem allSizes_step (h0 : 1 ≤ n) (hn : n ≤ 7) (q : ∀ p zs ts H', H p = none → Same H H' → H' p = some (.lst zs) → Al (TsV K H') zs ts → (∀ s, s ∈ ts ↔ SOk s n) → ts.Pairwise (fun a b => ¬ b < a) → Q (.ref p) H') (hvs : vs = [.int n] := by rfl) : spAllSizes K vs H Q E := by
  unfold spAllSizes
  exact ⟨n, hvs, h0, hn, q⟩
theorem byShapes_step (h : DSh K n (AllR n) f m H D) (ht : SqT K H t (ss.map V.int)) (hS : SOk ss n) (h0 : 1 ≤ n) (hn : n ≤ 12) (hz : ∀ i j, AllR n i j → Sz 3900 (f i j)) (q : ∀ v H', Same H H' → PtV K H' v (wOf f ss) → Q v H') (hvs : vs = [.ref D, .ref t] := by rfl) : spByShapes K vs H Q E := by
  unfold spByShapes
  exact ⟨D, t, n, m, f, ss, hvs, h, ht, hS, h0, hn, hz, q⟩
theorem wOf_at (hS : SOk ss n) (h0 : 1 ≤ n) : ∃ j, j < ss.length ∧ wOf f ss = f (off ss j) (off ss (j + 1)) := by
  have hm : wOf f ss ∈ (List.range ss.length).map fun j => f (off ss j) (off ss (j + 1)) := mostL_mem (fun z => by
    have := congrArg List.length z
    rw [List.length_map, List.length_range, List.length_nil] at this
    have := hS.ne h0
    omega)
  obtain ⟨j, hj, e⟩ := List.mem_map.mp hm
  exact ⟨j, List.mem_range.mp hj, e.symm⟩
theorem off_AllR (hS : SOk ss n) {j : Nat} (hj : j < ss.length) : AllR n (off ss j) (off ss (j + 1)) := by
  have h1 := hS.off_succ hj
  have h2 := hS.off_le (j + 1)
  have h3 := hS.w (ss.getD j 0) (by rw [List.getD_eq_getElem?_getD, List.getElem?_eq_getElem hj]; exact List.getElem_mem hj)
  exact ⟨by omega, h2⟩
theorem wOf_sz (hS : SOk ss n) (h0 : 1 ≤ n) {m : Nat} (hz : ∀ i j, AllR n i j → Sz m (f i j)) : Sz m (wOf f ss) := by
  obtain ⟨j, hj, e⟩ := wOf_at (f := f) hS h0
  rw [e]
  exact hz _ _ (off_AllR hS hj)
theorem wOf_ge {j : Nat} (hj : j < ss.length) : f (off ss j) (off ss (j + 1)) ≤ wOf f ss := mostL_ge (List.mem_map.mpr ⟨j, List.mem_range.mpr hj, rfl⟩)
end
@[irreducible] def spWeightsM (K : PySem.W.Frag) : Sp := fun vs H Q _ => ∃ (c : Addr) (m : Int), vs = [.ref c, .int m] ∧ Bag H c ∧ 1 ≤ m ∧ m ≤ 12 ∧ ∀ L ws H', H L = none → H' L = some (.lst (ws.map V.int)) → WOk ws → (ws.length : Int) ≤ m → Bag H' c → Kp c H H' → Q (.ref L) H'
theorem weightsM_step {K : PySem.W.Frag} {H : Hp} {Q : VK} {E : XK} {vs : List V} {c : Addr} {m : Int} (hb : Bag H c) (h0 : 1 ≤ m) (h1 : m ≤ 12) (q : ∀ L ws H', H L = none → H' L = some (.lst (ws.map V.int)) → WOk ws → (ws.length : Int) ≤ m → Bag H' c → Kp c H H' → Q (.ref L) H') (hvs : vs = [.ref c, .int m] := by rfl) : spWeightsM K vs H Q E := by
  unfold spWeightsM
  exact ⟨c, m, hvs, hb, h0, h1, q⟩
end Cc
namespace Cc
open PySem PySem.Spec PyProof.Rows L2
/-! ### the best sizes -/
/-- the least worst shapes behind each place are one and the same, however they are got -/
theorem Bst.uniq {f : Nat → Nat → Rat} {n : Nat} {g g' : Nat → Rat} (h : Bst f n 0 g) (h' : Bst f n 0 g') : ∀ k, k ≤ n → g (n - k) = g' (n - k)
  | 0, _ => by rw [Nat.sub_zero, h.e, h'.e]
  | k + 1, hk => by
    have low : ∀ {p q : Nat → Rat}, Bst f n 0 p → Bst f n 0 q → (∀ j, j ≤ k → p (n - j) = q (n - j)) → p (n - (k + 1)) ≤ q (n - (k + 1)) := fun {p q} hp hq ih => by
      obtain ⟨e, h1, h2, h3⟩ := hq.hit (n - (k + 1)) (by omega) (by omega)
      have h4 := hp.le (n - (k + 1)) (by omega) (by omega) e h1 h2
      have h5 := ih (n - e) (by omega)
      rw [show n - (n - e) = e by omega] at h5
      rw [h3, ← h5]
      exact h4
    have ih : ∀ j, j ≤ k → g (n - j) = g' (n - j) := fun j hj => Bst.uniq h h' j (by omega)
    exact Rat.le_antisymm (low h h' ih) (low h' h fun j hj => (ih j hj).symm)
theorem Bst.uniq0 {f : Nat → Nat → Rat} {n : Nat} {g g' : Nat → Rat} (h : Bst f n 0 g) (h' : Bst f n 0 g') : g 0 = g' 0 := by
  have := Bst.uniq h h' n (Nat.le_refl _)
  rw [Nat.sub_self] at this
  exact this
/-- from e on: the first end of a row behind which the rest is within M too -/
def bEnd (f : Nat → Nat → Rat) (g : Nat → Rat) (M : Rat) (n b e : Nat) : Nat := if e < n ∧ M < gr (f b e) (g e) then bEnd f g M n b (e + 1) else e
termination_by n - e
section
variable {f : Nat → Nat → Rat} {g : Nat → Rat} {M : Rat} {n b : Nat}
theorem bEnd_go {e : Nat} (h : e < n ∧ M < gr (f b e) (g e)) : bEnd f g M n b e = bEnd f g M n b (e + 1) := by rw [bEnd, if_pos h]
theorem bEnd_stop {e : Nat} (h : ¬ (e < n ∧ M < gr (f b e) (g e))) : bEnd f g M n b e = e := by rw [bEnd, if_neg h]
theorem bEnd_ge : ∀ k e, n - e ≤ k → e ≤ bEnd f g M n b e
  | 0, e, h => by
    rw [bEnd_stop (by omega)]
    exact Nat.le_refl _
  | k + 1, e, h => by
    by_cases c : e < n ∧ M < gr (f b e) (g e)
    · rw [bEnd_go c]
      have := bEnd_ge k (e + 1) (by omega)
      omega
    · rw [bEnd_stop c]
      exact Nat.le_refl _
theorem bEnd_le : ∀ k e, n - e ≤ k → e ≤ n → bEnd f g M n b e ≤ n
  | 0, e, h, h2 => by
    rw [bEnd_stop (by omega)]
    exact h2
  | k + 1, e, h, h2 => by
    by_cases c : e < n ∧ M < gr (f b e) (g e)
    · rw [bEnd_go c]
      exact bEnd_le k (e + 1) (by omega) (by omega)
    · rw [bEnd_stop c]
      exact h2
/-- what lies ahead of it is over M -/
theorem bEnd_over : ∀ k e, n - e ≤ k → ∀ e', e ≤ e' → e' < bEnd f g M n b e → M < gr (f b e') (g e')
  | 0, e, h, e', h1, h2 => by
    rw [bEnd_stop (by omega)] at h2
    omega
  | k + 1, e, h, e', h1, h2 => by
    by_cases c : e < n ∧ M < gr (f b e) (g e)
    · rw [bEnd_go c] at h2
      by_cases z : e' = e
      · rw [z]
        exact c.2
      · exact bEnd_over k (e + 1) (by omega) e' (by omega) h2
    · rw [bEnd_stop c] at h2
      omega
/-- and it is within M, where there is such an end -/
theorem bEnd_hit : ∀ k e, n - e ≤ k → e ≤ n → (∃ e', e ≤ e' ∧ e' ≤ n ∧ ¬ M < gr (f b e') (g e')) → ¬ M < gr (f b (bEnd f g M n b e)) (g (bEnd f g M n b e))
  | 0, e, h, h2, ⟨e', h3, h4, h5⟩ => by
    rw [bEnd_stop (by omega), show e = e' by omega]
    exact h5
  | k + 1, e, h, h2, ⟨e', h3, h4, h5⟩ => by
    by_cases c : e < n ∧ M < gr (f b e) (g e)
    · rw [bEnd_go c]
      refine bEnd_hit k (e + 1) (by omega) (by omega) ⟨e', ?_, h4, h5⟩
      by_cases z : e' = e
      · rw [z] at h5
        exact absurd c.2 h5
      · omega
    · rw [bEnd_stop c]
      by_cases z : e < n
      · exact fun w => c ⟨z, w⟩
      · rw [show e = e' by omega]
        exact h5
end
/-- the best sizes from b on -/
def bestL (f : Nat → Nat → Rat) (g : Nat → Rat) (M : Rat) (n b : Nat) : List Int := if b < n then ((bEnd f g M n b (b + 1) - b : Nat) : Int) :: bestL f g M n (bEnd f g M n b (b + 1)) else []
termination_by n - b
decreasing_by
  have := bEnd_ge (f := f) (g := g) (M := M) (n := n) (b := b) (n - (b + 1)) (b + 1) (Nat.le_refl _)
  omega
section
variable {f : Nat → Nat → Rat} {g : Nat → Rat} {M : Rat} {n : Nat}
theorem bestL_go {b : Nat} (h : b < n) : bestL f g M n b = ((bEnd f g M n b (b + 1) - b : Nat) : Int) :: bestL f g M n (bEnd f g M n b (b + 1)) := by rw [bestL, if_pos h]
theorem bestL_stop {b : Nat} (h : ¬ b < n) : bestL f g M n b = [] := by rw [bestL, if_neg h]
theorem best_ok : ∀ k b, n - b ≤ k → b ≤ n → (∀ x ∈ bestL f g M n b, 1 ≤ x) ∧ (bestL f g M n b).sum = (n : Int) - b
  | 0, b, h, hb => by
    rw [bestL_stop (by omega)]
    refine ⟨by simp, ?_⟩
    rw [List.sum_nil]
    omega
  | k + 1, b, h, hb => by
    by_cases c : b < n
    · have g1 := bEnd_ge (f := f) (g := g) (M := M) (n := n) (b := b) (n - (b + 1)) (b + 1) (Nat.le_refl _)
      have g2 := bEnd_le (f := f) (g := g) (M := M) (n := n) (b := b) (n - (b + 1)) (b + 1) (Nat.le_refl _) (by omega)
      obtain ⟨h1, h2⟩ := best_ok k (bEnd f g M n b (b + 1)) (by omega) g2
      rw [bestL_go c]
      refine ⟨fun x hx => ?_, ?_⟩
      · rcases List.mem_cons.mp hx with rfl | hx
        · omega
        · exact h1 x hx
      · rw [List.sum_cons, h2]
        omega
    · rw [bestL_stop c]
      refine ⟨by simp, ?_⟩
      rw [List.sum_nil]
      omega
theorem best_sok : SOk (bestL f g M n 0) n := by
  obtain ⟨h1, h2⟩ := best_ok (f := f) (g := g) (M := M) (n := n) n 0 (by omega) (by omega)
  exact ⟨h1, by rw [h2]; omega⟩
/-- the sizes hang on g at the places alone -/
theorem bEnd_congr {g' : Nat → Rat} (h : ∀ e, e ≤ n → g e = g' e) {b : Nat} : ∀ k e, n - e ≤ k → bEnd f g M n b e = bEnd f g' M n b e
  | 0, e, hk => by rw [bEnd_stop (by omega), bEnd_stop (by omega)]
  | k + 1, e, hk => by
    by_cases c : e < n ∧ M < gr (f b e) (g e)
    · rw [bEnd_go (g := g) c, bEnd_go (g := g') (e := e) (by rw [← h e (by omega)]; exact c)]
      exact bEnd_congr h k (e + 1) (by omega)
    · rw [bEnd_stop c, bEnd_stop (fun z => c ⟨z.1, by rw [h e (by omega)]; exact z.2⟩)]
theorem bestL_congr {g' : Nat → Rat} (h : ∀ e, e ≤ n → g e = g' e) : ∀ k b, n - b ≤ k → bestL f g M n b = bestL f g' M n b
  | 0, b, hk => by rw [bestL_stop (by omega), bestL_stop (by omega)]
  | k + 1, b, hk => by
    by_cases c : b < n
    · have g1 := bEnd_ge (f := f) (g := g') (M := M) (n := n) (b := b) (n - (b + 1)) (b + 1) (Nat.le_refl _)
      rw [bestL_go (g := g) c, bestL_go (g := g') c, bEnd_congr h (n - (b + 1)) (b + 1) (Nat.le_refl _), bestL_congr h k _ (by omega)]
    · rw [bestL_stop c, bestL_stop c]
end
/-- a row from a place within M leads on within M -/
theorem Bst.on {f : Nat → Nat → Rat} {g : Nat → Rat} {n b : Nat} {M : Rat} (h : Bst f n 0 g) (hb : b < n) (hM : g b ≤ M) : ∃ e, b + 1 ≤ e ∧ e ≤ n ∧ ¬ M < gr (f b e) (g e) := by
  obtain ⟨e, h1, h2, h3⟩ := h.hit b (Nat.zero_le _) hb
  exact ⟨e, h1, h2, by rw [← h3]; grind⟩
@[irreducible] def spBest (K : PySem.W.Frag) : Sp := fun vs H Q _ => ∃ (v : V) (a : Addr) (b : Bx) (ws : List Int) (d : Bool), vs = [v, .ref a, .str (sd d)] ∧ BxV K H v b ∧ b.Ok 450 ∧ IntsV K H a ws ∧ WOk ws ∧
  ∀ t g H', Same H H' → Bst (fSh b ws d) ws.length 0 g → H' t = some (.tup ((bestL (fSh b ws d) g (g 0) ws.length 0).map V.int)) → Q (.ref t) H'
theorem best_step {K : PySem.W.Frag} {H : Hp} {a : Addr} {ws : List Int} {Q : VK} {E : XK} {vs : List V} {b : Bx} {v : V} {d : Bool} {n : Nat} (hv : BxV K H v b) (hb : b.Ok n) (hn : n ≤ 450) (h : IntsV K H a ws) (hw : WOk ws)
    (q : ∀ t g H', Same H H' → Bst (fSh b ws d) ws.length 0 g → H' t = some (.tup ((bestL (fSh b ws d) g (g 0) ws.length 0).map V.int)) → Q (.ref t) H') (hvs : vs = [v, .ref a, .str (sd d)] := by rfl) : spBest K vs H Q E := by
  unfold spBest
  exact ⟨v, a, b, ws, d, hvs, hv, hb.mono hn, h, hw, q⟩
end Cc
namespace Cc
open PySem PySem.Spec PyProof.Rows L2
/-! ### min of a list of data -/
def rMinD (K : PySem.W.Frag) : List V → Hp → VK → Prop := fun vs H Q => ∃ (l : Addr) (us : List V) (x : PyData) (xs : List PyData), vs = [V.ref l] ∧ SqL K H l us ∧ DpAll K H us (x :: xs) ∧ PySem.W.AlikeAll (x :: xs) ∧ PyData.depthAll (x :: xs) ≤ 60 ∧
  ∀ (i : Nat) (u : V), us[i]? = some u → Dp K H u (PySem.W.minD x xs) → Q u H
theorem cr_minD {X : Cx} (hc : X.calm = true) (hu : X.A.units + 64 < cLine) : CallR X (.builtin "min") (rMinD X.K) := by
  intro pins s σ H vs us Q I r h
  obtain ⟨l, ys, x, xs, rfl, hs, ha, hal, hd, q⟩ := h
  obtain ⟨its, rv, hl, _⟩ := I.list hs
  rw [Vals.ref1 r]
  obtain ⟨as, hr⟩ := Dp.readsAll I (x :: xs) ys its ha rv
  refine PySem.W.min_list_data (I.ok.hd hc) hl.isList hr hal (by omega) fun i v h' tk bs hv rr hk => ?_
  have hv' : its[i]? = some v := by simpa using hv
  obtain ⟨u, hu, ru⟩ : ∃ u, ys[i]? = some u ∧ RelV u v := by
    have hl2 := rv.length
    obtain ⟨hi, _⟩ := List.getElem?_eq_some_iff.mp hv'
    obtain ⟨w, hw, rw⟩ := rv.get (List.getElem?_eq_getElem (show i < ys.length by omega))
    rw [hv'] at hw
    cases hw
    exact ⟨_, List.getElem?_eq_getElem (by omega), rw⟩
  obtain ⟨d, hd', hdp⟩ := dpAll_get ha hu
  obtain ⟨as1, r1⟩ := Dp.reads I d u v hdp ru
  have e := (PySem.Reads.unique (PySem.W.reads_keeps hk r1) _ _ rr).1
  exact ⟨u, H, I.kept hk, ru, q i u hu (e ▸ hdp)⟩
theorem minD_first {x : PyData} : ∀ {xs : List PyData}, (∀ y ∈ xs, PySem.W.dataLt y x = false) → PySem.W.minD x xs = x
  | [], _ => rfl
  | y :: r, h => by
    show PySem.W.minD (if PySem.W.dataLt y x = true then y else x) r = x
    rw [h y List.mem_cons_self]
    exact minD_first fun z hz => h z (List.mem_cons_of_mem _ hz)
/-! ### what leads on, with its cost -/
def sD (c : Int) (ss : List Int) : PyData := .tuple [.int c, .tuple (ss.map .int)]
theorem alikeI : ∀ {ss ts : List Int}, PySem.W.alikeAll (ss.map .int) (ts.map .int) = true
  | [], _ => by simp [PySem.W.alikeAll]
  | _ :: _, [] => by simp [PySem.W.alikeAll]
  | _ :: ss, _ :: ts => by
    rw [List.map_cons, List.map_cons, PySem.W.alikeAll, alikeI]
    simp [PySem.W.alike]
theorem sD_alike {c c' : Int} {ss ts : List Int} : PySem.W.alike (sD c ss) (sD c' ts) = true := by
  simp [sD, PySem.W.alike, PySem.W.alikeAll, alikeI]
theorem sD_lt {c : Int} {i j : Int} {ss ts : List Int} (h : i < j) : PySem.W.dataLt (sD c (j :: ss)) (sD c (i :: ts)) = false := by
  unfold sD
  rw [PySem.W.dataLt_tuple, PySem.W.dataLt_all_yes (by simp [PySem.W.alike]) (by simp [PyData.eqv]), PySem.W.dataLt_all_no (by simp only [PySem.W.alike]; exact alikeI) (by simp only [List.map_cons, PyData.eqv, PyData.eqvAll, Bool.and_eq_false_iff]; left; simp; omega), PySem.W.dataLt_tuple, List.map_cons, List.map_cons, PySem.W.dataLt_all_no (by simp [PySem.W.alike]) (by simp [PyData.eqv]; omega), PySem.W.dataLt_int]
  simp
  omega
theorem sD_depth {c : Int} {ss : List Int} : (sD c ss).depth ≤ 3 := by
  have : ∀ ss : List Int, PyData.depthAll (ss.map .int) ≤ 1 := fun ss => by
    induction ss with
    | nil => simp [PyData.depthAll]
    | cons x r ih =>
      rw [List.map_cons, PyData.depthAll]
      have : (PyData.int x).depth ≤ 1 := by simp [PyData.depth]
      omega
  have := this ss
  simp only [sD, PyData.depth, PyData.depthAll]
  omega
/-! ### a dict by ints -/
def kI (i : Nat) : Key := .inl (i : Int)
theorem kI_inj {i j : Nat} (h : kI i = kI j) : i = j := by
  unfold kI at h
  simp only [Sum.inl.injEq, Int.natCast_inj] at h
  exact h
section
variable {K : PySem.W.Frag} {H H' : Hp} {a b : Addr}
theorem kp_lst {xs : List V} (e : Kp b H H') {u v : HO} (hb : H b = some u) (h : H a = some v) (n : u ≠ v) : H' a = some v := e _ _ h fun z => by
  rw [z, hb] at h
  exact n (Option.some.inj h)
theorem seqT_kpK {xs : List V} {kvs : List (Key × V)} (e : Kp b H H') (hb : H b = some (.dK kvs)) (h : SqT K H a xs) : SqT K H' a xs := by
  rcases h with (h | ⟨o, h⟩) | h
  · exact .inl (.inl (kp_lst (xs := []) e hb h (fun z => nomatch z)))
  · exact .inl (.inr ⟨o, kp_lst (xs := []) e hb h (fun z => nomatch z)⟩)
  · exact .inr h
theorem PtV.kpK {kvs : List (Key × V)} {v : V} {q : Rat} (h : PtV K H v q) (e : Kp b H H') (hb : H b = some (.dK kvs)) : PtV K H' v q := by
  obtain ⟨a, rfl, h⟩ := h
  exact ⟨a, rfl, seqT_kpK e hb h⟩
theorem dgetK {kvs : List (Key × V)} {i : Nat} {v : V} (h : H a = some (.dK kvs)) (e : valV kvs (kI i) = some v) : DGet H a (.int (i : Int)) (some v) := by
  rw [← e]
  exact DGet.k (k := kI i) h
theorem dputK {kvs : List (Key × V)} {i : Nat} {v : V} (h : H a = some (.dK kvs)) (e : kvs.length < 900) : DPut H a (.int (i : Int)) v (upd H a (.dK (putK kvs (kI i) v))) := DPut.k (k := kI i) h (small1000 (by omega))
end
@[irreducible] def spFLeast (K : PySem.W.Frag) : Sp := fun vs H Q _ => ∃ (D : Addr) (n m : Nat) (f : Nat → Nat → Rat), vs = [.ref D, .int n] ∧ DSh K n (AllR n) f m H D ∧ n ≤ 12 ∧ (∀ i j, AllR n i j → Sz 3900 (f i j)) ∧ ∀ u g H', Same H H' → Bst f n 0 g → Sz 3900 (g 0) → PtV K H' u (g 0) → Q u H'
theorem fleast_step {K : PySem.W.Frag} {H : Hp} {Q : VK} {E : XK} {vs : List V} {n m : Nat} {D : Addr} {f : Nat → Nat → Rat} (h : DSh K n (AllR n) f m H D) (hn : n ≤ 12) (hz : ∀ i j, AllR n i j → Sz 3900 (f i j)) (q : ∀ u g H', Same H H' → Bst f n 0 g → Sz 3900 (g 0) → PtV K H' u (g 0) → Q u H') (hvs : vs = [.ref D, .int n] := by rfl) : spFLeast K vs H Q E := by
  unfold spFLeast
  exact ⟨D, n, m, f, hvs, h, hn, hz, q⟩
theorem units65 {k : Nat} {A : Around} (r : Room k A) : A.units + 65 < cLine := by have := r.un; omega
/-- (cost, sizes) -/
def CD (K : PySem.W.Frag) (H : Hp) (v : V) (c : Int) (ss : List Int) : Prop := ∃ t s, v = .ref t ∧ SqT K H t [.int c, .ref s] ∧ SqT K H s (ss.map V.int)
section
variable {K : PySem.W.Frag} {H H' : Hp} {v : V} {c : Int} {ss : List Int}
theorem CD.same (h : CD K H v c ss) (e : Same H H') : CD K H' v c ss := by
  obtain ⟨t, s, h0, h1, h2⟩ := h
  exact ⟨t, s, h0, seqT_same e h1, seqT_same e h2⟩
theorem CD.kp {b : Addr} {ys : List V} (h : CD K H v c ss) (e : Kp b H H') (hb : H b = some (.lst ys)) : CD K H' v c ss := by
  obtain ⟨t, s, h0, h1, h2⟩ := h
  exact ⟨t, s, h0, seqT_kp e hb h1, seqT_kp e hb h2⟩
theorem CD.kpK {b : Addr} {kvs : List (Key × V)} (h : CD K H v c ss) (e : Kp b H H') (hb : H b = some (.dK kvs)) : CD K H' v c ss := by
  obtain ⟨t, s, h0, h1, h2⟩ := h
  exact ⟨t, s, h0, seqT_kpK e hb h1, seqT_kpK e hb h2⟩
theorem dpI : ∀ {ss : List Int}, DpAll K H (ss.map V.int) (ss.map .int)
  | [] => .nil
  | _ :: _ => .cons (.int _) dpI
theorem dpI_inv : ∀ {ss : List Int} {xs : List V}, DpAll K H xs (ss.map .int) → xs = ss.map V.int
  | [], _, h => by cases h; rfl
  | _ :: _, _, h => by
    cases h with
    | cons h1 h2 =>
      cases h1
      rw [dpI_inv h2]
      rfl
theorem CD.dp (h : CD K H v c ss) : Dp K H v (sD c ss) := by
  obtain ⟨t, s, rfl, h1, h2⟩ := h
  exact .tup h1 (.cons (.int _) (.cons (.tup h2 dpI) .nil))
theorem CD.of (h : Dp K H v (sD c ss)) : CD K H v c ss := by
  unfold sD at h
  cases h with
  | tup h1 h2 =>
    cases h2 with
    | cons a b =>
      cases a
      cases b with
      | cons a2 b2 =>
        cases b2
        cases a2 with
        | tup h3 h4 =>
          rw [dpI_inv h4] at h3
          exact ⟨_, _, rfl, h1, h3⟩
/-- a list of pairs -/
def SpD (K : PySem.W.Frag) (H : Hp) (L : Addr) (ps : List (Int × Int)) : Prop := ∃ us, SqL K H L us ∧ Al (fun v p => ∃ t, v = .ref t ∧ SqT K H t [.int p.1, .int p.2]) us ps
def ppD (p : Int × Int) : PyData := .tuple [.int p.1, .int p.2]
theorem SpD.same {L : Addr} {ps : List (Int × Int)} (h : SpD K H L ps) (e : Same H H') : SpD K H' L ps := by
  obtain ⟨us, h1, h2⟩ := h
  exact ⟨us, seqL_same e h1, h2.mono fun v x ⟨t, a, b⟩ => ⟨t, a, seqT_same e b⟩⟩
theorem ppAll : ∀ {us : List V} {ps : List (Int × Int)}, Al (fun v p => ∃ t, v = .ref t ∧ SqT K H t [.int p.1, .int p.2]) us ps → DpAll K H us (ps.map ppD)
  | _, _, .nil => .nil
  | _, _, .cons ⟨t, a, b⟩ r => by
    subst a
    exact .cons (.tup b (.cons (.int _) (.cons (.int _) .nil))) (ppAll r)
theorem ppD_lay : ∀ ps : List (Int × Int), PyData.canLayAll0 (ps.map ppD) = true ∧ PyData.depthAll (ps.map ppD) ≤ 2
  | [] => by simp [PyData.canLayAll0, PyData.depthAll]
  | z :: zs => by
    have h := ppD_lay zs
    have h2 : (ppD z).depth ≤ 2 := by simp [ppD, PyData.depth, PyData.depthAll]
    have h3 : (ppD z).canLay0 = true := by simp [ppD, PyData.canLay0, PyData.canLayAll0]
    refine ⟨by simp [PyData.canLayAll0, h3, h.1], ?_⟩
    simp only [List.map_cons, PyData.depthAll]
    have := h.2
    omega
theorem ppD_shaped (ps : List (Int × Int)) : SeqAt.shaped (.list (ps.map ppD)) = true := by
  have h := ppD_lay ps
  show (PyData.canLay0 (.list (ps.map ppD)) && decide (PyData.depth (.list (ps.map ppD)) ≤ 64)) = true
  rw [Bool.and_eq_true]
  exact ⟨by simp only [PyData.canLay0]; exact h.1, decide_eq_true (by simp only [PyData.depth]; omega)⟩
theorem ppD_sh (p : Int × Int) : SeqAt.shaped (ppD p) = true := by
  show (PyData.canLay0 (ppD p) && decide (PyData.depth (ppD p) ≤ 64)) = true
  simp [ppD, PyData.canLay0, PyData.canLayAll0, PyData.depth, PyData.depthAll]
theorem inSp_step {L t : Addr} {ps : List (Int × Int)} {p : Int × Int} {Q : VK} (h : SpD K H L ps) (hp : H t = some (.tup [.int p.1, .int p.2])) (hm : p ∈ ps) (q : Q (.bl true) H) : rInD K (.ref t) (.ref L) H Q := by
  obtain ⟨us, h1, h2⟩ := h
  refine ⟨ppD p, ps.map ppD, .tup (SqT.of hp) (.cons (.int _) (.cons (.int _) .nil)), .lst h1 (ppAll h2), ppD_sh p, ppD_shaped ps, ?_⟩
  have e : (ps.map ppD).any (fun z => PyData.eqv z (ppD p)) = true := List.any_eq_true.mpr ⟨ppD p, List.mem_map.mpr ⟨p, hm, rfl⟩, by simp [ppD, PyData.eqv, PyData.eqvAll]⟩
  rw [e]
  exact q
end
/-! ### what leads on from a place -/
section
variable {f : Nat → Nat → Rat} {g : Nat → Rat} {M : Rat} {n b : Nat}
def ons (f : Nat → Nat → Rat) (g : Nat → Rat) (M : Rat) (b k : Nat) : List Nat := ((List.range k).map fun i => b + 1 + i).filter fun e => decide (g e ≤ M ∧ ¬ M < f b e)
theorem ons_succ (k : Nat) : ons f g M b (k + 1) = ons f g M b k ++ (if g (b + 1 + k) ≤ M ∧ ¬ M < f b (b + 1 + k) then [b + 1 + k] else []) := by
  unfold ons
  rw [List.range_succ, List.map_append, List.filter_append]
  congr 1
  by_cases c : g (b + 1 + k) ≤ M ∧ ¬ M < f b (b + 1 + k)
  · rw [if_pos c]
    simp [c.1]
    exact c.2
  · rw [if_neg c]
    simp
    intro h
    by_cases z : M < f b (b + 1 + k)
    · exact z
    · exact absurd ⟨h, z⟩ c
theorem ons_mem {k e : Nat} : e ∈ ons f g M b k ↔ (b + 1 ≤ e ∧ e < b + 1 + k) ∧ g e ≤ M ∧ ¬ M < f b e := by
  unfold ons
  rw [List.mem_filter, List.mem_map, decide_eq_true_iff]
  constructor
  · rintro ⟨⟨i, hi, rfl⟩, h⟩
    have := List.mem_range.mp hi
    exact ⟨⟨by omega, by omega⟩, h⟩
  · rintro ⟨⟨h1, h2⟩, h⟩
    exact ⟨⟨e - (b + 1), List.mem_range.mpr (by omega), by omega⟩, h⟩
theorem ons_len {k : Nat} : (ons f g M b k).length ≤ k := by
  unfold ons
  refine Nat.le_trans (List.length_filter_le _ _) ?_
  rw [List.length_map, List.length_range]
  exact Nat.le_refl _
theorem ons_lt {k : Nat} : (ons f g M b k).Pairwise (· < ·) := by
  unfold ons
  refine List.Pairwise.filter _ ?_
  refine List.Pairwise.map _ (fun x y h => ?_) List.pairwise_lt_range
  omega
theorem gr_le {x y : Rat} (h : ¬ M < gr x y) : x ≤ M ∧ y ≤ M := by
  have := gr_ge x y
  constructor <;> grind
theorem gr_le' {x y : Rat} (h : y ≤ M) (h2 : ¬ M < x) : ¬ M < gr x y := by
  rcases gr_or x y with e | e <;> rw [e] <;> grind
theorem ons_first {e : Nat} {r : List Nat} (h : ons f g M b (n - b) = e :: r) (hb : b < n) : bEnd f g M n b (b + 1) = e ∧ e ≤ n ∧ b < e := by
  have hm := ons_mem.mp (show e ∈ ons f g M b (n - b) by rw [h]; exact List.mem_cons_self)
  have hp := ons_lt (f := f) (g := g) (M := M) (b := b) (k := n - b)
  rw [h] at hp
  have hp := List.pairwise_cons.mp hp
  have h1 := bEnd_ge (f := f) (g := g) (M := M) (n := n) (b := b) (n - (b + 1)) (b + 1) (Nat.le_refl _)
  have h2 := bEnd_le (f := f) (g := g) (M := M) (n := n) (b := b) (n - (b + 1)) (b + 1) (Nat.le_refl _) (by omega)
  have h3 := bEnd_hit (f := f) (g := g) (M := M) (n := n) (b := b) (n - (b + 1)) (b + 1) (Nat.le_refl _) (by omega) ⟨e, hm.1.1, by omega, gr_le' hm.2.1 hm.2.2⟩
  have h4 := bEnd_over (f := f) (g := g) (M := M) (n := n) (b := b) (n - (b + 1)) (b + 1) (Nat.le_refl _) e hm.1.1
  refine ⟨?_, by omega, by omega⟩
  rcases Nat.lt_trichotomy e (bEnd f g M n b (b + 1)) with z | z | z
  · exact absurd (h4 z) (gr_le' hm.2.1 hm.2.2)
  · exact z.symm
  · have h5 := gr_le h3
    have h6 : bEnd f g M n b (b + 1) ∈ ons f g M b (n - b) := ons_mem.mpr ⟨⟨h1, by omega⟩, h5.2, Rat.not_lt.mpr h5.1⟩
    rw [h] at h6
    rcases List.mem_cons.mp h6 with h7 | h7
    · omega
    · have := hp.1 _ h7
      omega
theorem ons_nil (h : Bst f n 0 g) (hb : b < n) : ons f g M b (n - b) = [] ↔ ¬ g b ≤ M := by
  constructor
  · intro e hM
    obtain ⟨e', h1, h2, h3⟩ := h.on hb hM
    have h4 := gr_le h3
    have : e' ∈ ons f g M b (n - b) := ons_mem.mpr ⟨⟨h1, by omega⟩, h4.2, Rat.not_lt.mpr h4.1⟩
    rw [e] at this
    cases this
  · intro hM
    rcases he : ons f g M b (n - b) with _ | ⟨e, r⟩
    · rfl
    · have hm := ons_mem.mp (show e ∈ ons f g M b (n - b) by rw [he]; exact List.mem_cons_self)
      have h1 := h.le b (Nat.zero_le _) hb e (by omega) (by omega)
      have h2 := gr_le' hm.2.1 hm.2.2
      exact absurd (by grind) hM
end
section
variable {K : PySem.W.Frag} {H : Hp} {F : Nat → List Int}
theorem cat_step {a b : Addr} {xs ys : List V} {Q : VK} (ha : SqT K H a xs) (hb : SqT K H b ys) (hx : xs ≠ []) (hz : xs.length + ys.length ≤ sizeLine) (q : ∀ p H', Same H H' → SqT K H' p (xs ++ ys) → Q (.ref p) H') : rCatT K (.ref a) (.ref b) H Q :=
  ⟨a, b, xs, ys, rfl, rfl, ha, hb, hx, hz, fun e => q a H (Same.refl _) (by rw [e, List.append_nil]; exact ha), fun _ p np => q p _ (same_new np) (SqT.of upd_same)⟩
theorem cdAll : ∀ {cs : List V} {es : List Nat}, Al (fun v e => CD K H v 0 (F e)) cs es → DpAll K H cs (es.map fun e => sD 0 (F e))
  | _, _, .nil => .nil
  | _, _, .cons a r => .cons a.dp (cdAll r)
theorem intsLay : ∀ ss : List Int, PyData.canLayAll0 (ss.map .int) = true
  | [] => by simp [PyData.canLayAll0]
  | x :: r => by
    rw [List.map_cons, PyData.canLayAll0, intsLay r]
    simp [PyData.canLay0]
theorem sD_lay (c : Int) (ss : List Int) : (sD c ss).canLay0 = true := by
  simp only [sD, PyData.canLay0, PyData.canLayAll0, intsLay]
  rfl
theorem sDs_ok : ∀ es : List Nat, PyData.canLayAll0 (es.map fun e => sD 0 (F e)) = true ∧ PyData.depthAll (es.map fun e => sD 0 (F e)) ≤ 3
  | [] => by simp [PyData.canLayAll0, PyData.depthAll]
  | z :: zs => by
    have h := sDs_ok zs
    have h2 := sD_depth (c := 0) (ss := F z)
    refine ⟨by simp [PyData.canLayAll0, sD_lay, h.1], ?_⟩
    simp only [List.map_cons, PyData.depthAll]
    have := h.2
    omega
theorem sDs_shaped (es : List Nat) : SeqAt.shaped (.list (es.map fun e => sD 0 (F e))) = true := by
  have h := sDs_ok (F := F) es
  show (PyData.canLay0 (.list (es.map fun e => sD 0 (F e))) && decide (PyData.depth (.list (es.map fun e => sD 0 (F e))) ≤ 64)) = true
  rw [Bool.and_eq_true]
  exact ⟨by simp only [PyData.canLay0]; exact h.1, decide_eq_true (by simp only [PyData.depth]; omega)⟩
theorem nil_shaped : SeqAt.shaped (.list []) = true := by
  show (PyData.canLay0 (.list []) && decide (PyData.depth (.list []) ≤ 64)) = true
  simp [PyData.canLay0, PyData.canLayAll0, PyData.depth, PyData.depthAll]
theorem sDs_alike (es : List Nat) : PySem.W.AlikeAll (es.map fun e => sD 0 (F e)) := by
  refine ⟨fun x hx y hy => ?_, fun x hx => ?_⟩
  · obtain ⟨a, _, rfl⟩ := List.mem_map.mp hx
    obtain ⟨b, _, rfl⟩ := List.mem_map.mp hy
    exact sD_alike
  · obtain ⟨a, _, rfl⟩ := List.mem_map.mp hx
    simp [sD]
theorem dgetN {a : Addr} {kvs : List (Key × V)} {i : Nat} (h : H a = some (.dK kvs)) (e : valV kvs (kI i) = none) : DGet H a (.int (i : Int)) none := by
  rw [← e]
  exact DGet.k (k := kI i) h
end
@[irreducible] def spFCalm (K : PySem.W.Frag) : Sp := fun vs H Q _ => ∃ (D L : Addr) (n m : Nat) (u : V) (M : Rat) (f : Nat → Nat → Rat) (g : Nat → Rat) (ps : List (Int × Int)), vs = [.ref D, .int n, u, .ref L] ∧ DSh K n (AllR n) f m H D ∧ n ≤ 12 ∧ (∀ i j, AllR n i j → Sz 3900 (f i j)) ∧ PtV K H u M ∧ Sz 3900 M ∧ Bst f n 0 g ∧ g 0 ≤ M ∧ 1 ≤ M ∧ SpD K H L ps ∧ (∀ i j : Nat, AllR n i j → ((i : Int), (j : Int) - i) ∈ ps) ∧
  ∀ t s c H', Same H H' → SqT K H' t [.ref s, c] → SqT K H' s ((bestL f g M n 0).map V.int) → Q (.ref t) H'
theorem fcalm_step {K : PySem.W.Frag} {H : Hp} {Q : VK} {E : XK} {vs : List V} {n m : Nat} {D L : Addr} {u : V} {M : Rat} {f : Nat → Nat → Rat} {g : Nat → Rat} {ps : List (Int × Int)} (hD : DSh K n (AllR n) f m H D) (hn : n ≤ 12) (hz : ∀ i j, AllR n i j → Sz 3900 (f i j)) (hu : PtV K H u M) (zM : Sz 3900 M) (hG : Bst f n 0 g) (hM : g 0 ≤ M) (hM1 : 1 ≤ M) (hL : SpD K H L ps) (hps : ∀ i j : Nat, AllR n i j → ((i : Int), (j : Int) - i) ∈ ps)
    (q : ∀ t s c H', Same H H' → SqT K H' t [.ref s, c] → SqT K H' s ((bestL f g M n 0).map V.int) → Q (.ref t) H') (hvs : vs = [.ref D, .int n, u, .ref L] := by rfl) : spFCalm K vs H Q E := by
  unfold spFCalm
  exact ⟨D, L, n, m, u, M, f, g, ps, hvs, hD, hn, hz, hu, zM, hG, hM, hM1, hL, hps, q⟩
theorem Bst.ge1 {f : Nat → Nat → Rat} {g : Nat → Rat} {n : Nat} (h : Bst f n 0 g) : ∀ k b, n - b ≤ k → b ≤ n → 1 ≤ g b
  | 0, b, hk, hb => by
    rw [show b = n by omega, h.e]
    exact Rat.le_refl
  | k + 1, b, hk, hb => by
    by_cases c : b = n
    · rw [c, h.e]
      exact Rat.le_refl
    · obtain ⟨e, h1, h2, h3⟩ := h.hit b (Nat.zero_le _) (by omega)
      have h4 := Bst.ge1 h k e (by omega) h2
      have h5 := gr_ge (f b e) (g e)
      rw [h3]
      exact Rat.le_trans h4 h5.2
def spot : List Key → Int × Int
  | [.inl a, .inl b] => (a, b - a)
  | _ => (0, 0)
@[irreducible] def spFBest (K : PySem.W.Frag) : Sp := fun vs H Q _ => ∃ (D : Addr) (n m : Nat) (f : Nat → Nat → Rat), vs = [.ref D, .int n] ∧ DSh K n (AllR n) f m H D ∧ m ≤ 200 ∧ n ≤ 12 ∧ (∀ i j, AllR n i j → Sz 3900 (f i j)) ∧ ∀ t g H', Same H H' → Bst f n 0 g → SqT K H' t ((bestL f g (g 0) n 0).map V.int) → Q (.ref t) H'
theorem fbest_step {K : PySem.W.Frag} {H : Hp} {Q : VK} {E : XK} {vs : List V} {n m : Nat} {D : Addr} {f : Nat → Nat → Rat} (h : DSh K n (AllR n) f m H D) (hm : m ≤ 200) (hn : n ≤ 12) (hz : ∀ i j, AllR n i j → Sz 3900 (f i j)) (q : ∀ t g H', Same H H' → Bst f n 0 g → SqT K H' t ((bestL f g (g 0) n 0).map V.int) → Q (.ref t) H') (hvs : vs = [.ref D, .int n] := by rfl) : spFBest K vs H Q E := by
  unfold spFBest
  exact ⟨D, n, m, f, hvs, h, hm, hn, hz, q⟩
end Cc
set_option maxHeartbeats 2000000
/-! XItm: for k, v in d.items(), the keys tuples, d just made; min(xs, default=v). -/
namespace Cc
open PySem PySem.Spec PyProof.Rows L2
/-- the pairs of a locked dict with tuple keys, each a new tuple -/
def ItiT (d : Addr) (o : Obj) (kvs : List (List Key × V)) : It :=
  ⟨fun i H => H d = some (.frz o (.dT kvs)) ∧ i < kvs.length, fun i H x H' => ∃ T k v q, kvs[i]? = some (k, v) ∧ H q = some (.tup (k.map kV)) ∧ x = .ref T ∧ H T = none ∧ H' = upd H T (.tup [.ref q, v]), fun i H => H d = some (.frz o (.dT kvs)) ∧ kvs.length ≤ i⟩
section
variable {X : Cx} {pins : List (Addr × Obj)} {σ : L2.St} {H : Hp} {s : Shared} {d : Addr} {o : Obj}
theorem frzT2 {ps : List (List Key × V)} (I : Inv X pins σ H s) (h : H d = some (.frz o (.dT ps))) :
    ((d == sysModules) = false ∧ (ps.map (·.1)).Nodup) ∧ ∃ (rows : Array DictEntry) (ep : Nat), o.data = .dict rows ep ∧ DT.Raw s.heap d rows ep ∧ rows.size = ps.length ∧
      ∀ (i : Nat) (ky : List Key) (v : V), ps[i]? = some (ky, v) → ∃ (hi : i < rows.size) (q : Addr), rows[i].key = .ref q ∧ H q = some (.tup (ky.map kV)) ∧ RelV v rows[i].val := by
  obtain ⟨e0, _, ns, xs, pair, o', rows, ep, e1, exact1, e2, e3, one⟩ := I.hok d _ h
  obtain rfl : o = o' := by rw [e0] at e1; exact Option.some.inj e1
  have m1 := size_of_entries e3
  have m2 := Paired.length pair
  have same : ∀ {as : List (List Key × V)} {bs : List (List Key × Addr × Value)}, Paired (fun p q => p.1 = q.1 ∧ H q.2.1 = some (.tup (p.1.map kV)) ∧ RelV p.2 q.2.2) as bs → as.map (·.1) = bs.map (·.1) := fun h => by
    induction h with
    | nil => rfl
    | cons a _ ih => rw [List.map_cons, List.map_cons, a.1, ih]
  refine ⟨⟨ns, by rw [same pair]; exact one⟩, rows, ep, e2, ⟨o, e0, exact1, e2⟩, by omega, fun i ky v hi => ?_⟩
  obtain ⟨⟨ky', q, u⟩, g1, g2, g3, g4⟩ := paired_get pair hi
  have at1 := entry_at e3 i
  rw [g1] at at1
  obtain ⟨lt, at2⟩ := Array.getElem?_eq_some_iff.mp at1
  refine ⟨lt, q, ?_, g3, ?_⟩ <;> rw [at2]
  · rfl
  · exact g4
end
/-- one turn of it -/
theorem turn_itemsT {P : Program} {w : World} {K : PySem.W.Frag} {d : Addr} {o : Obj} {rows : Array DictEntry} {ep : Nat} {ps : List (List Key × V)} {elts : List Expr} {kk : Nat} {tpos : Pos} (z : Addr) (ho : o.data = .dict rows ep) :
    Turn P w K (.Tuple elts kk tpos) (ItiT d o ps) [z] z (fun i h => ∃ u1 u2, IsItemIter h z d i rows.size ep u1 u2) := by
  refine { mem := List.mem_singleton.mpr rfl, obj := ?_, keep := ?_, item := ?_, done := ?_, self := ?_ }
  · rintro i h ⟨u1, u2, there⟩ b hb
    cases List.mem_singleton.mp hb
    exact ⟨_, there, by simp⟩
  · rintro i h h' ⟨u1, u2, there⟩ same
    exact ⟨u1, u2, same z (List.mem_singleton.mpr rfl) _ there⟩
  · rintro X rfl rfl rfl _ i pins s σ H E I free ⟨u1, u2, there⟩ ⟨frozen, small⟩
    obtain ⟨_, rows', ep', ho', raw, len, ent⟩ := frzT2 I frozen
    obtain ⟨e1, e2⟩ := dict_ep ho ho'
    subst e1 e2
    have at0 : ps[i]? = some (ps[i].1, ps[i].2) := List.getElem?_eq_getElem small
    generalize ps[i].1 = ky at at0
    generalize ps[i].2 = v at at0
    obtain ⟨lt, q, eq, hq, rv⟩ := ent i ky v at0
    have zlt : z < s.heap.objs.size := Heap.lt_size there
    refine DT.nextI there raw lt fun h1 out1 tup1 _ kept1 => ⟨_, rfl, ?_⟩
    refine wpAny_letOwnedTupleGo_items (s := { s with heap := h1 }) out1 fun h2 back2 only2 => ?_
    have nz : s.heap.objs.size ≠ z := Nat.ne_of_gt zlt
    have tup2 := (only2.2 _ nz).trans tup1
    have keep12 : ∀ b ob, b ∉ [z] → s.heap.get? b = some ob → h2.get? b = some ob := fun b ob nb e => by
      have nb := fun e => nb (List.mem_singleton.mpr e)
      exact (only2.2 b nb).trans (kept1 b ob nb e)
    have made : ObjOk X.prog X.w (upd H s.heap.objs.size (.tup [.ref q, v])) h2 s.heap.objs.size (.tup [.ref q, v]) :=
      ⟨(show 2 ≤ sizeLine by decide), [rows'[i].key, rows'[i].val], .cons (by rw [eq]; rfl) (.cons rv .nil), ⟨_, tup2, rfl, _, rfl⟩⟩
    refine ⟨.ref s.heap.objs.size, _, I.turnedNew (t' := s.toks) (ch := [z]) keep12 free (Nat.le_refl _) made, rfl, ⟨_, ky, v, q, at0, hq, rfl, I.hok.fresh (Nat.le_refl _), rfl⟩, ⟨_, _, back2⟩, fun b hb => ?_⟩
    cases List.mem_singleton.mp hb
    rw [upd_ne (fun e => nz e.symm)]
    exact (free z (List.mem_singleton.mpr rfl)).1
  · rintro X rfl rfl rfl calm i pins s σ H E I free ⟨u1, u2, there⟩ ⟨frozen, stop⟩
    obtain ⟨_, rows', ep', ho', raw, len, _⟩ := frzT2 I frozen
    obtain ⟨e1, e2⟩ := dict_ep ho ho'
    subst e1 e2
    obtain ⟨a0, a1, _, a3, a4, a5⟩ := free z (List.mem_singleton.mpr rfl)
    exact DT.endI (I.ok.hd calm) there raw (by omega) fun h1 but => ⟨rfl, I.turned (t' := s.toks) (fun b ob nb e => but b ob nb e) a0 a1 a3 a4 a5⟩
  · rintro A i s Q E ⟨_, _, there⟩ h
    exact PySem.W.kcp_self there h
/-- the dict is told by the expression, and stays locked from here on -/
def iItemsT (td : TE) : TI := fun σ H R => td σ H fun x H1 => ∃ d kvs, x = .ref d ∧ H1 d = some (.dT kvs) ∧ ((kvs.map (·.1)).Nodup → ∀ o, R (ItiT d o kvs) (upd H1 d (.frz o (.dT kvs))))
section
variable {X : Cx} {e : Expr} {td : TE} {apos cpos : Pos}
theorem pi_itemsT {elts : List Expr} {kk : Nat} {tpos : Pos} (he : PE X e td) (hb : attributeBase e "items" X.env (eval e X.env) = eval e X.env := by rfl) (hl : (apos.endLine == cpos.line) = true := by rfl) :
    PI X (.Tuple elts kk tpos) (.Call (.Attribute e "items" apos) [] [] cpos) (iItemsT td) := by
  constructor
  intro pins s σ H R I h
  refine wpAny_Call_method (T := "dict") (id := "dict.items") hb rfl hl F.plainAttrs_dict F.slot_dict_items F.type_dict_items (thn (he.run pins s σ H _ I h) ?_)
  rintro u s1 ⟨x, H1, I1, rx, d, ps, rfl, there, q⟩
  cases (show u = Value.ref d from rx)
  obtain ⟨o, I0⟩ := I1.lock there True.intro
  obtain ⟨⟨ns, one⟩, rows, ep, ho, raw, _, _⟩ := frzT2 I0 upd_same
  refine ⟨raw.typeIs, fun a ea => ?_, ?_⟩
  · obtain ⟨o', g1, g2, _⟩ := raw
    cases ea
    exact ⟨o', g1, g2.2.1⟩
  have pushed : ∀ (ob : Obj), ∀ b u, s1.heap.get? b = some u → (s1.heap.push ob).get? b = some u := fun ob b u e => Heap.get?_push_of_some _ e
  refine method_meetsIn F.slot_dict_items F.entry_dict_items rfl (PySem.evalArgs_none ⟨rfl, raw.typeIs, F.args_dict_items_1 _, _, DT.meetsItems ns, raw, ?_⟩)
  exact DT.iterI (d := d) ⟨_, Heap.get?_push_size _ rfl, rfl, rfl⟩ (raw.push _) (pi_one (tk := s1.toks) (I0.kept (t' := s1.toks) (pushed _)) _ (turn_itemsT _ ho) ⟨.none, .none, Heap.get?_push_size _ rfl⟩ (q one o))
end
theorem walk_itemsT {d : Addr} {o : Obj} {kvs : List (List Key × V)} : Walk (ItiT d o kvs) kvs.length (fun H => H d = some (.frz o (.dT kvs))) (fun i H x H' => ∃ T k v q, kvs[i]? = some (k, v) ∧ H q = some (.tup (k.map kV)) ∧ x = .ref T ∧ H T = none ∧ H' = upd H T (.tup [.ref q, v])) :=
  { goes := fun _ _ lt here => ⟨here, lt⟩, stops := fun _ here => ⟨here, Nat.le_refl _⟩, yields := fun _ _ _ _ _ _ y => y }
theorem valV_at {kvs : List (List Key × V)} : ∀ {i : Nat} {k : List Key} {v : V}, (kvs.map (·.1)).Nodup → kvs[i]? = some (k, v) → valV kvs k = some v := by
  induction kvs with
  | nil => intro i k v _ h; simp at h
  | cons p r ih =>
    intro i k v nd h
    rw [List.map_cons, List.nodup_cons] at nd
    unfold valV
    rw [List.find?_cons]
    cases i with
    | zero =>
      simp only [List.getElem?_cons_zero, Option.some.injEq] at h
      subst h
      simp
    | succ i =>
      rw [List.getElem?_cons_succ] at h
      have ne : p.1 ≠ k := fun z => nd.1 (by rw [z]; exact List.mem_map.mpr ⟨(k, v), List.mem_of_getElem? h, rfl⟩)
      simp only [ne, decide_false]
      exact ih nd.2 h
/-! ### min(xs, default=None) of whole numbers -/
theorem foldl_min_mem : ∀ (l : List Int) (x : Int), l.foldl min x = x ∨ l.foldl min x ∈ l
  | [], _ => .inl rfl
  | y :: r, x => by
    rw [List.foldl_cons]
    rcases foldl_min_mem r (min x y) with h | h
    · rcases Int.le_total x y with z | z
      · left
        rw [h]
        omega
      · right
        rw [h, show min x y = y by omega]
        exact List.mem_cons_self
    · exact .inr (List.mem_cons_of_mem _ h)
theorem foldl_min_le : ∀ (l : List Int) (x : Int), l.foldl min x ≤ x ∧ ∀ y ∈ l, l.foldl min x ≤ y
  | [], _ => ⟨Int.le_refl _, fun y h => nomatch h⟩
  | y :: r, x => by
    obtain ⟨h1, h2⟩ := foldl_min_le r (min x y)
    rw [List.foldl_cons]
    refine ⟨by omega, fun z hz => ?_⟩
    rcases List.mem_cons.mp hz with rfl | hz
    · omega
    · exact h2 z hz
def rMinDef (K : PySem.W.Frag) : List V → List V → Hp → VK → Prop := fun vs zs H Q => ∃ (l : Addr) (ns : List Int), vs = [V.ref l] ∧ zs = [V.non] ∧ SqL K H l (ns.map V.int) ∧ (ns = [] → Q .non H) ∧ (∀ m, m ∈ ns → (∀ y ∈ ns, m ≤ y) → Q (.int m) H)
theorem ints_alike (ns : List Int) : PySem.W.AlikeAll (ns.map PyData.int) := by
  refine ⟨fun x hx y hy => ?_, fun x hx => ?_⟩
  · obtain ⟨a, _, rfl⟩ := List.mem_map.mp hx
    obtain ⟨b, _, rfl⟩ := List.mem_map.mp hy
    simp [PySem.W.alike]
  · obtain ⟨a, _, rfl⟩ := List.mem_map.mp hx
    simp
theorem ints_depth : ∀ ss : List Int, PyData.depthAll (ss.map .int) ≤ 1
  | [] => by simp [PyData.depthAll]
  | x :: r => by
    have ih := ints_depth r
    rw [List.map_cons, PyData.depthAll]
    have : (PyData.int x).depth ≤ 1 := by simp [PyData.depth]
    omega
theorem cr_minDef {X : Cx} (hc : X.calm = true) (hu : X.A.units + 64 < cLine) : CallRK X (.builtin "min") [Str.ofString "default"] (rMinDef X.K) := by
  intro pins s σ H vs zs us ws Q I r rz h
  obtain ⟨l, ns, rfl, rfl, hs, q0, q1⟩ := h
  obtain rfl := Vals.ref1 r
  obtain ⟨w1, rfl, e1⟩ := vals1 rz
  obtain rfl : w1 = Value.none := e1
  obtain ⟨its, rv, hl, _⟩ := I.list hs
  obtain ⟨as, hr⟩ := Dp.readsAll I (ns.map .int) (ns.map V.int) its dpI rv
  have hd := ints_depth ns
  refine PySem.W.min_list_default (I.ok.hd hc) hl.isList hr (ints_alike ns) (by omega) (fun e h' tk hk => ?_) fun y ys i v h' tk bs ey hv rr hk => ?_
  · cases ns with
    | nil => exact ⟨.non, H, I.kept hk, rfl, q0 rfl⟩
    | cons a b => cases e
  · cases ns with
    | nil => cases ey
    | cons a b =>
      rw [List.map_cons] at ey
      cases ey
      have hv' : its[i]? = some v := by simpa using hv
      obtain ⟨u, hu, ru⟩ : ∃ u, ((a :: b).map V.int)[i]? = some u ∧ RelV u v := by
        have hl2 := rv.length
        obtain ⟨hi, _⟩ := List.getElem?_eq_some_iff.mp hv'
        obtain ⟨w, hw, rw⟩ := rv.get (List.getElem?_eq_getElem (show i < ((a :: b).map V.int).length by omega))
        rw [hv'] at hw
        cases hw
        exact ⟨_, List.getElem?_eq_getElem (by omega), rw⟩
      obtain ⟨d, hd', hdp⟩ := dpAll_get (dpI (K := X.K) (H := H) (ss := a :: b)) hu
      obtain ⟨as1, r1⟩ := Dp.reads I d u v hdp ru
      have e := (PySem.Reads.unique (PySem.W.reads_keeps hk r1) _ _ rr).1
      rw [PySem.W.minD_ints] at e
      rw [e] at hdp
      cases hdp
      refine ⟨_, H, I.kept hk, ru, q1 _ ?_ ?_⟩
      · rcases foldl_min_mem b a with z | z
        · rw [z]
          exact List.mem_cons_self
        · exact List.mem_cons_of_mem _ z
      · intro y hy
        have h2 := foldl_min_le b a
        rcases List.mem_cons.mp hy with rfl | hy
        · exact h2.1
        · exact h2.2 y hy
end Cc
set_option maxHeartbeats 2000000
/-! XDc: {k: v for x in xs}, the keys tuples. -/
namespace Cc
open PySem PySem.Spec PyProof.Rows L2
theorem dictSet_tup {X : Cx} {pins : List (Addr × Obj)} {σ : L2.St} {H : Hp} {s : Shared} {E : Value → Shared → Prop} {D b : Addr} {kvs : List (List Key × V)} {k : List Key} {v : V} {r : Value} {Q : Unit → Shared → Prop} (hu : X.A.units + 1 < cLine) (I : Inv X pins σ H s) (there : H D = some (.dT kvs)) (room : kvs.length < sizeLine)
    (eb : H b = some (.tup (k.map kV))) (rv : RelV v r) (h : ∀ s', Inv X pins σ (upd H D (.dT (putK kvs k v))) s' → Q () s') : wpAny (model X.prog X.w) X.A (dictSet D (.ref b) r) Q E s := by
  obtain ⟨small, ns, xs, rel, dd⟩ := dt_of I.hok there
  have e1 := Paired.length rel
  have e2 := length_putK kvs k v
  refine wpAny_dictSet_heap (hsz := by omega) (show X.A.units < cLine by omega) (key_of I.hok eb) dd ?_
  rintro h' ⟨o, es, ep, g1, g2, g3, g4, _, g5⟩ only
  refine h _ (d_write I (by rw [there]; exact True.intro) only ⟨o, g1⟩ ⟨by omega, ns, _, (rel.put k eb rv).keeps ?_, o, es, ep, g1, g2, g3, g4, g5⟩)
  intro c ys ec
  rw [upd_ne (ne_of ec there (fun z => nomatch z))]
  exact ec
/-- D the new dict -/
def tDcT (wi : TI) (g : TG) (tk tv : TE) (vs : List Nat) : TE := fun σ H Q => wi σ H fun J H1 => ∀ D, H1 D = none → ∃ W : Nat → Nat → Hp → Prop, (∃ m, W 0 m (upd H1 D (.dT []))) ∧ ∀ i m H, W i m H →
  (J.stop i H ∧ Q (.ref D) H) ∨ (J.go i H ∧ ∃ Nx : Hp → Prop, (∀ H', Nx H' → ∃ m', m' < m ∧ W (i + 1) m' H') ∧ ∀ x H', J.yld i H x H' → g x (wipe σ vs) H' fun σ2 H2 => wipe σ2 vs = wipe σ vs ∧
    tk σ2 H2 fun y H4 => tv σ2 H4 fun z H5 => ∃ kvs k b, y = .ref b ∧ H5 b = some (.tup (k.map kV)) ∧ H5 D = some (.dT kvs) ∧ kvs.length < sizeLine ∧ Nx (upd H5 D (.dT (putK kvs k z))))
section
variable {X : Cx}
theorem pe_dcT {kx vx tg iter : Expr} {scope : Scope} {own : List (Str × Nat)} {pos : Pos} {wi : TI} {g : TG} {tk tv : TE} (hu : X.A.units + 1 < cLine) (calm : X.calm = true) (nd : X.N.Nodup) (hi : PI X tg iter wi) (ok : BlkOk X.N X.env.scope scope own)
    (hg : ∀ (s : Shared) (H : Hp) (C : Addr) (cl : List (Str × Addr)) (fp : List Addr), PG (X.blk s H scope (compEnvC scope cl C X.env) fp) tg g)
    (hk : ∀ (s : Shared) (H : Hp) (C : Addr) (cl : List (Str × Addr)) (fp : List Addr), PE (X.blk s H scope (compEnvC scope cl C X.env) fp) kx tk)
    (hv : ∀ (s : Shared) (H : Hp) (C : Addr) (cl : List (Str × Addr)) (fp : List Addr), PE (X.blk s H scope (compEnvC scope cl C X.env) fp) vx tv) (hs : ∀ x, foldedSetIterable iter X.env x = pure x := by intro _; rfl) :
    PE X (.DictComp kx vx [⟨tg, iter, [], 0⟩] scope pos) (tDcT wi g tk tv (own.map (·.2))) := by
  constructor
  intro pins s0 σ H Q I0 reading
  rw [arm_eval_DictComp]
  have closes : ∀ y ∈ scope.names, y.2 = .free → ∃ c, X.env.cells.lookup y.1 = some c := by
    intro y hy hf
    rcases ok.free y hy hf with z | z
    · exact I0.ok.has _ (.inl z)
    · exact I0.ok.has _ (.inr z)
  refine wpAny_comprehension_free rfl hs (closure_ok closes) ok.kind (fun y hy e => (ok.uniq y hy).trans (congrArg some e)) ?_
  refine thn (hi.run pins s0 σ H _ I0 reading) fun _ s1 walked => thn walked fun _ s2 ⟨z, fp, stage, J, H2, ez, I2, turns, at2, free2, q⟩ => ?_
  subst ez
  refine wpAny_newObj_type (newEnv_comp ?_)
  obtain ⟨D, eD⟩ : ∃ D, D = s2.heap.objs.size := ⟨_, rfl⟩
  obtain ⟨W, ⟨m0, w0⟩, walk⟩ := q D (I2.hok.fresh (by rw [eD]; exact Nat.le_refl _))
  obtain ⟨s3, es3⟩ : ∃ s3 : Shared, s3 = { s2 with heap := s2.heap.push { cls := .type "dict", data := .dict #[] } } := ⟨_, rfl⟩
  have eh3 : s3.heap = s2.heap.push { cls := .type "dict", data := .dict #[] } := by rw [es3]
  have I3 : Inv X pins σ (upd H2 D (.dT [])) s3 := by
    rw [es3, eD]
    exact I2.laid (t' := s2.toks) (fun b o e => Heap.get?_push_of_some _ e) (Nat.le_refl _) (dt_empty s2.heap I2.big)
  have low : ∀ b ∈ fp, b < s2.heap.objs.size := by
    intro b hb
    obtain ⟨ob, there, _⟩ := turns.obj _ _ at2 b hb
    exact Heap.lt_size there
  have free3 : ∀ b ∈ fp, FpOk X pins (upd H2 D (.dT [])) b ∧ b < s3.heap.objs.size := by
    intro b hb
    have lb := low b hb
    refine ⟨⟨?_, (free2 b hb).2⟩, ?_⟩
    · rw [upd_ne (by rw [eD]; exact Nat.ne_of_lt lb)]
      exact (free2 b hb).1
    · rw [eh3, Heap.size_push]
      exact Nat.lt_succ_of_lt lb
  have at3 : stage 0 s3.heap := turns.keep _ _ _ at2 fun b _ o e => by
    rw [eh3]
    exact Heap.get?_push_of_some _ e
  have I4 := block_start I3 ok nd free3
  generalize eH3 : upd H2 D (.dT []) = H3 at *
  obtain ⟨ce, ece⟩ : ∃ ce, ce = compEnvC scope (cellsFrom (s3.heap.objs.size + 1) scope.names (cloFrom X.env.cells scope.names [])) s3.heap.objs.size X.env := ⟨_, rfl⟩
  have g0 := hg s3 H3 s3.heap.objs.size (cellsFrom (s3.heap.objs.size + 1) scope.names (cloFrom X.env.cells scope.names [])) fp
  have k0 := hk s3 H3 s3.heap.objs.size (cellsFrom (s3.heap.objs.size + 1) scope.names (cloFrom X.env.cells scope.names [])) fp
  have v0 := hv s3 H3 s3.heap.objs.size (cellsFrom (s3.heap.objs.size + 1) scope.names (cloFrom X.env.cells scope.names [])) fp
  rw [← ece] at g0 k0 v0 I4
  have eL : ce.locals = s3.heap.objs.size := by rw [ece]; rfl
  suffices goal : codeAny (model X.prog X.w) X.A (.compStart (.DictComp kx vx [⟨tg, iter, [], 0⟩] scope pos) 0 (.ref z) (.ref D) ce) (compPost (model X.prog X.w) X.A X.xe none (EP X pins σ Q) (.ref D) s3.heap.objs.size) { s3 with heap := pushCells (s3.heap.push { cls := .type "dict", data := .dict #[] }) scope.names } by
    rw [ece, es3, eD] at goal
    exact goal
  obtain ⟨s4, es4⟩ : ∃ s4 : Shared, s4 = { s3 with heap := pushCells (s3.heap.push { cls := .type "dict", data := .dict #[] }) scope.names } := ⟨_, rfl⟩
  rw [← es4] at I4 ⊢
  have at4 : stage 0 s4.heap := turns.keep _ _ _ at3 fun b _ o e => by
    rw [es4]
    exact pushCells_keeps _ _ _ _ (Heap.get?_push_of_some _ e)
  have gone : ∀ b ∈ fp, H3 b = none := fun b hb => (free3 b hb).1.1
  -- the footprint within the block
  have inner : ∀ {σ' : L2.St} {H' : Hp} {s' : Shared}, Inv (X.blk s3 H3 scope ce fp) [] σ' H' s' → (∀ b ∈ fp, H' b = none) → ∀ b ∈ fp, FpOk (X.blk s3 H3 scope ce fp) [] H' b := by
    intro σ' H' s' J' none' b hb
    obtain ⟨x1, x2⟩ := J'.ok.exf b hb
    refine ⟨none' b hb, x1, J'.ok.exfs b hb, .inl hb, fun x c e => x2 x c e, fun p hp => ?_⟩
    simp at hp
  have loop : codeAny (model X.prog X.w) X.A (.compLoop (.DictComp kx vx [⟨tg, iter, [], 0⟩] scope pos) 0 (.ref z) (.ref D) ce) (compPost (model X.prog X.w) X.A X.xe none (EP X pins σ Q) (.ref D) s3.heap.objs.size) s4 := by
    refine compLoop_anyD (fun n s' => ∃ i H', Inv (X.blk s3 H3 scope ce fp) [] (wipe σ (own.map (·.2))) H' s' ∧ stage i s'.heap ∧ (∀ b ∈ fp, H' b = none) ∧ W i n H') ?_ m0 ⟨0, H3, I4, at4, gone, w0⟩
    rintro n s5 ⟨i, H5, I5, at5, gone5, w5⟩
    rcases walk i n H5 w5 with ⟨stop, fin⟩ | ⟨go, Nx, less, step⟩
    · -- at the end
      have last := turns.done (X.blk s3 H3 scope ce fp) rfl rfl rfl calm i [] s5 _ H5 (fun _ _ => False) I5 (inner I5 gone5) at5 stop
      refine thnF last ?_
      rintro r s6 ⟨rfl, I6⟩
      have back : Inv X pins σ H5 s6 := by
        refine I3.call' (ch := fp) I6.os I6.base I6.hok I6.bare fun b hb => ?_
        obtain ⟨⟨_, x1, x2, x3, x4, x5⟩, _⟩ := free3 b hb
        exact ⟨x3, x1, x4, x5⟩
      obtain ⟨m, names, _⟩ := I6.loc
      have names : s6.heap.Ns ce.locals m := names
      have unset : H5 ce.locals = none := I6.free
      rw [eL] at names unset
      refine ⟨m, names, fun h'' only => ?_⟩
      obtain ⟨x0, x1, x2, x3, x4, x5⟩ := I3.fpOk (Nat.le_refl _) unset
      exact ⟨.ref D, H5, back.turned (t' := s6.toks) (fun b o hb e => (only.2 b hb).trans e) x0 x1 x3 x4 x5, rfl, fin⟩
    · -- one more
      have more := turns.item (X.blk s3 H3 scope ce fp) rfl rfl rfl calm i [] s5 _ H5 (fun _ _ => False) I5 (inner I5 gone5) at5 go
      refine thnF more ?_
      rintro r s6 ⟨u, rfl, got⟩
      refine thnF got fun _ s7 ⟨x, H7, I7, r7, y7, at7, gone7⟩ => ?_
      have held := I7.pinned (inner I7 gone7) (turns.obj _ _ at7)
      refine thnF (g0.run _ s7 _ H7 x u _ held r7 (step x H7 y7)) fun _ s8 ⟨σ8, H8, I8, ew, q8⟩ => ?_
      refine wpAny_pure ?_
      show wpAny _ _ (eval kx ce) _ _ s8
      refine thnF (k0.run _ s8 σ8 H8 _ I8 q8) fun k s9 ⟨yk, H9, I9, r9, q9⟩ => ?_
      refine thnF (v0.run _ s9 σ8 H9 _ I9 q9) fun v s10 ⟨yv, H10, I10, r10, kvs, ky, b, ek, eb, hD, small, nx⟩ => ?_
      subst ek
      obtain rfl : k = Value.ref b := r9
      refine dictSet_tup (X := X.blk s3 H3 scope ce fp) hu I10 hD small eb r10 fun s11 I11 => ?_
      obtain ⟨m', lt, w'⟩ := less _ nx
      have kept : ∀ c ∈ fp, ∀ o, s7.heap.get? c = some o → s11.heap.get? c = some o ∧ (upd H10 D (.dT (putK kvs ky yv))) c = none := by
        intro c hc o e
        obtain ⟨x1, x2, _⟩ := I11.pin (c, o) (List.mem_append_right _ (List.mem_append_right _ (mem_pinsAt hc e)))
        exact ⟨x1, x2⟩
      refine ⟨m', lt, i + 1, _, (I11.unpinned (pins := [])).weak ?_ ?_, turns.keep _ _ _ at7 fun c hc o e => (kept c hc o e).1, fun c hc => ?_, w'⟩
      · rw [← ew, wipe_length]
      · intro j w e
        rw [← ew] at e
        exact (wipe_some e).1
      · obtain ⟨o, e, _⟩ := turns.obj _ _ at7 c hc
        exact (kept c hc o e).2
  exact codeAny_compStart_dict loop (turns.self X.A 0 _ _ _ at4 loop)
end
/-- over a walk: Pv by the turn and the heap -/
theorem dcT_it {J : It} {n : Nat} {G : Hp → Prop} {Y : Nat → Hp → V → Hp → Prop} (w : Walk J n G Y) {g : TG} {tk tv : TE} {vs : List Nat} {σ : L2.St} {H1 : Hp} {D : Addr} {Qd : Hp → Prop} (Pv : Nat → Hp → Prop) (h0 : Pv 0 (upd H1 D (.dT []))) (hG : ∀ i H, i ≤ n → Pv i H → G H)
    (hs : ∀ i x H H', i < n → Pv i H → Y i H x H' → g x (wipe σ vs) H' fun σ2 H2 => wipe σ2 vs = wipe σ vs ∧ tk σ2 H2 fun y H4 => tv σ2 H4 fun z H5 => ∃ kvs k b, y = .ref b ∧ H5 b = some (.tup (k.map kV)) ∧ H5 D = some (.dT kvs) ∧ kvs.length < sizeLine ∧ Pv (i + 1) (upd H5 D (.dT (putK kvs k z)))) (hd : ∀ H, Pv n H → Qd H) :
    ∃ W : Nat → Nat → Hp → Prop, (∃ m, W 0 m (upd H1 D (.dT []))) ∧ ∀ i m H, W i m H →
      (J.stop i H ∧ Qd H) ∨ (J.go i H ∧ ∃ Nx : Hp → Prop, (∀ H', Nx H' → ∃ m', m' < m ∧ W (i + 1) m' H') ∧ ∀ x H', J.yld i H x H' → g x (wipe σ vs) H' fun σ2 H2 => wipe σ2 vs = wipe σ vs ∧
        tk σ2 H2 fun y H4 => tv σ2 H4 fun z H5 => ∃ kvs k b, y = .ref b ∧ H5 b = some (.tup (k.map kV)) ∧ H5 D = some (.dT kvs) ∧ kvs.length < sizeLine ∧ Nx (upd H5 D (.dT (putK kvs k z)))) := by
  refine ⟨fun i m H => (m = n - i ∧ i ≤ n) ∧ Pv i H, ⟨n, ⟨(Nat.sub_zero n).symm, Nat.zero_le n⟩, h0⟩, ?_⟩
  intro i m H ⟨⟨em, le⟩, p⟩
  have here := hG i H le p
  rcases Nat.lt_or_ge i n with lt | ge
  · refine .inr ⟨w.goes i H lt here, Pv (i + 1), fun H' p' => ⟨n - (i + 1), by omega, ⟨rfl, lt⟩, p'⟩, ?_⟩
    intro x H' y
    exact hs i x H H' lt p (w.yields i H x H' lt here y)
  · obtain rfl : i = n := Nat.le_antisymm le ge
    exact .inl ⟨w.stops H here, hd H p⟩
end Cc
/-! XNum: kept rows, what rows cost, the numbers that show the least cost. -/
namespace Cc
open PySem PySem.Spec PyProof.Rows L2
structure KOk (n : Nat) (ps : List (Int × Int)) : Prop where
  r : ∀ p ∈ ps, 0 ≤ p.1 ∧ 1 ≤ p.2 ∧ p.1 + p.2 ≤ n
  u : ps.Nodup
  l : ps.length ≤ 60
/-- what a row costs -/
def cst (ps : List (Int × Int)) (b e : Int) : Int := if (b, e - b) ∈ ps then 0 else 1
theorem cst_01 (ps : List (Int × Int)) (b e : Int) : 0 ≤ cst ps b e ∧ cst ps b e ≤ 1 := by
  unfold cst
  split <;> omega
section
variable {K : PySem.W.Frag} {H H' : Hp}
theorem inD_any {L : Addr} {ps : List (Int × Int)} {t : Addr} {a b : Int} {Q : VK} (h : SpD K H L ps) (hp : SqT K H t [.int a, .int b]) (q : Q (.bl (decide ((a, b) ∈ ps))) H) : rInD K (.ref t) (.ref L) H Q := by
  obtain ⟨us, h1, h2⟩ := h
  refine ⟨ppD (a, b), ps.map ppD, .tup hp (.cons (.int _) (.cons (.int _) .nil)), .lst h1 (ppAll h2), ppD_sh (a, b), ppD_shaped ps, ?_⟩
  have e : (ps.map ppD).any (fun z => PyData.eqv z (ppD (a, b))) = decide ((a, b) ∈ ps) := by
    rw [Bool.eq_iff_iff, List.any_eq_true, decide_eq_true_iff]
    constructor
    · rintro ⟨z, hz, e⟩
      obtain ⟨⟨x, y⟩, hp, rfl⟩ := List.mem_map.mp hz
      simp [ppD, PyData.eqv, PyData.eqvAll] at e
      rw [← e.1, ← e.2]
      exact hp
    · intro hm
      exact ⟨ppD (a, b), List.mem_map.mpr ⟨_, hm, rfl⟩, by simp [ppD, PyData.eqv, PyData.eqvAll]⟩
  rw [e]
  exact q
theorem notInD_any {L : Addr} {ps : List (Int × Int)} {t : Addr} {a b : Int} {Q : VK} (h : SpD K H L ps) (hp : SqT K H t [.int a, .int b]) (q : Q (.bl (!decide ((a, b) ∈ ps))) H) : rNotInD K (.ref t) (.ref L) H Q := by
  obtain ⟨d, ds, h1, h2, h3, h4, h5⟩ := inD_any (Q := fun v H' => ∃ k, v = .bl k ∧ Q (.bl (!k)) H') h hp ⟨_, rfl, q⟩
  obtain ⟨k, e, h6⟩ := h5
  injection e with e
  exact ⟨d, ds, h1, h2, h3, h4, by rw [e]; exact h6⟩
/-- a pair that lies on the heap -/
def PiH (H : Hp) (v : V) (p : Int × Int) : Prop := ∃ t, v = .ref t ∧ H t = some (.tup [.int p.1, .int p.2])
theorem PiH.same {v : V} {p : Int × Int} (h : PiH H v p) (e : Same H H') : PiH H' v p := by
  obtain ⟨t, h1, h2⟩ := h
  exact ⟨t, h1, e _ _ h2⟩
theorem PiH.kp {c : Addr} {ys : List V} {v : V} {p : Int × Int} (h : PiH H v p) (e : Kp c H H') (hc : H c = some (.lst ys)) : PiH H' v p := by
  obtain ⟨t, h1, h2⟩ := h
  exact ⟨t, h1, kp_lst (xs := []) e hc h2 (fun z => nomatch z)⟩
/-- a list of such pairs -/
def SpH (K : PySem.W.Frag) (H : Hp) (L : Addr) (ps : List (Int × Int)) : Prop := ∃ us, SqL K H L us ∧ Al (PiH H) us ps
theorem SpH.same {L : Addr} {ps : List (Int × Int)} (h : SpH K H L ps) (e : Same H H') : SpH K H' L ps := by
  obtain ⟨us, h1, h2⟩ := h
  exact ⟨us, seqL_same e h1, h2.mono fun v x h => h.same e⟩
theorem SpH.spD {L : Addr} {ps : List (Int × Int)} (h : SpH K H L ps) : SpD K H L ps := by
  obtain ⟨us, h1, h2⟩ := h
  exact ⟨us, h1, h2.mono fun v x ⟨t, a, b⟩ => ⟨t, a, SqT.of b⟩⟩
theorem SpD.kpD {F L : Addr} {kvs : List (List Key × V)} {ps : List (Int × Int)} (h : SpD K H L ps) (e : Kp F H H') (hF : H F = some (.dT kvs)) : SpD K H' L ps := by
  obtain ⟨us, h1, h2⟩ := h
  refine ⟨us, ?_, h2.mono fun v x ⟨t, a, b⟩ => ⟨t, a, seqT_kpD e hF b⟩⟩
  have go : ∀ {o : HO}, H L = some o → o ≠ .dT kvs → H' L = some o := fun g n => e _ _ g fun z => by
    rw [z, hF] at g
    exact n (Option.some.inj g).symm
  rcases h1 with (h | ⟨o, h⟩) | h
  · exact .inl (.inl (go h (fun z => nomatch z)))
  · exact .inl (.inr ⟨o, go h (fun z => nomatch z)⟩)
  · exact .inr h
/-- costs by pairs, of the rows within M -/
def DCo (n : Nat) (f : Nat → Nat → Rat) (M : Rat) (ps : List (Int × Int)) (H : Hp) (D : Addr) : Prop := ∃ kvs : List (List Key × V), H D = some (.dT kvs) ∧ kvs.length ≤ 200 ∧ (∀ kv ∈ kvs, ∃ i j, kv.1 = ky i j ∧ AllR n i j) ∧ ∀ i j, AllR n i j → valV kvs (ky i j) = if M < f i j then none else some (.int (cst ps i j))
theorem DCo.same {n : Nat} {f : Nat → Nat → Rat} {M : Rat} {ps : List (Int × Int)} {D : Addr} (h : DCo n f M ps H D) (e : Same H H') : DCo n f M ps H' D := by
  obtain ⟨kvs, h1, h2, h3, h4⟩ := h
  exact ⟨kvs, e _ _ h1, h2, h3, h4⟩
end
theorem all_repl (n : Nat) : (List.replicate n true).all id = true := List.all_eq_true.mpr fun _ h => List.eq_of_mem_replicate h
/-! ### the numbers -/
def oV : Option Int → V
  | none => .non
  | some k => .int k
def minO : List Int → Option Int
  | [] => none
  | x :: r => some (r.foldl min x)
theorem minO_eq {ns : List Int} {m : Int} (h1 : m ∈ ns) (h2 : ∀ y ∈ ns, m ≤ y) : minO ns = some m := by
  cases ns with
  | nil => cases h1
  | cons a r =>
    have e1 := foldl_min_le r a
    have e2 := foldl_min_mem r a
    show some (r.foldl min a) = some m
    congr 1
    have e3 : m ≤ r.foldl min a := by
      rcases e2 with z | z
      · rw [z]
        exact h2 a List.mem_cons_self
      · exact h2 _ (List.mem_cons_of_mem _ z)
    have e4 : r.foldl min a ≤ m := by
      rcases List.mem_cons.mp h1 with rfl | z
      · exact e1.1
      · exact e1.2 m z
    omega
section
variable (f : Nat → Nat → Rat) (M : Rat) (ps : List (Int × Int))
def lead (L : List (Option Int)) (e b : Nat) : Bool := (L.getD b none).isSome && !decide (M < f b e)
def valN (L : List (Option Int)) (e b : Nat) : Int := (L.getD b none).getD 0 + cst ps b e
def leads (L : List (Option Int)) (e k : Nat) : List Nat := (List.range k).filter (lead f M L e)
def valsN (L : List (Option Int)) (e k : Nat) : List Int := (leads f M L e k).map (valN ps L e)
/-- the numbers for all places to k -/
def numL : Nat → List (Option Int)
  | 0 => [some 0]
  | k + 1 => numL k ++ [minO (valsN f M ps (numL k) (k + 1) (k + 1))]
end
section
variable {f : Nat → Nat → Rat} {M : Rat} {ps : List (Int × Int)}
theorem numL_len : ∀ k, (numL f M ps k).length = k + 1
  | 0 => rfl
  | k + 1 => by rw [numL, List.length_append, numL_len k]; rfl
theorem leads_succ (L : List (Option Int)) (e k : Nat) : leads f M L e (k + 1) = leads f M L e k ++ (if lead f M L e k = true then [k] else []) := by
  unfold leads
  rw [List.range_succ, List.filter_append]
  congr 1
  cases h : lead f M L e k <;> simp [h]
theorem leads_len (L : List (Option Int)) (e k : Nat) : (leads f M L e k).length ≤ k := by
  unfold leads
  refine Nat.le_trans (List.length_filter_le _ _) ?_
  rw [List.length_range]
  exact Nat.le_refl _
theorem leads_mem {L : List (Option Int)} {e k b : Nat} (h : b ∈ leads f M L e k) : b < k ∧ lead f M L e b = true := by
  unfold leads at h
  obtain ⟨h1, h2⟩ := List.mem_filter.mp h
  exact ⟨List.mem_range.mp h1, h2⟩
end
/-! ### promises -/
@[irreducible] def spIsRow (K : PySem.W.Frag) : Sp := fun vs H Q _ => ∃ (t : Addr) (n : Nat) (a b : Int), vs = [.ref t, .int n] ∧ SqT K H t [.int a, .int b] ∧ 0 ≤ a ∧ 1 ≤ b ∧ a + b ≤ n ∧ ∀ H', Same H H' → Q (.bl true) H'
@[irreducible] def spRowCost (K : PySem.W.Frag) : Sp := fun vs H Q _ => ∃ (b e : Int) (L : Addr) (ps : List (Int × Int)), vs = [.int b, .int e, .ref L] ∧ SpD K H L ps ∧ ∀ H', Same H H' → Q (.int (cst ps b e)) H'
@[irreducible] def spCheckCalm (K : PySem.W.Frag) : Sp := fun vs H Q _ => ∃ (v u : V) (a L : Addr) (b : Bx) (ws : List Int) (M : Rat) (ps : List (Int × Int)) (d : Bool), vs = [v, .ref a, u, .ref L, .str (sd d)] ∧ BxV K H v b ∧ b.Ok 450 ∧ IntsV K H a ws ∧ WOk ws ∧ PtV K H u M ∧ Sz 3900 M ∧ ¬ M < 1 ∧ SpH K H L ps ∧ KOk ws.length ps ∧ ∀ H', Same H H' → Q .non H'
@[irreducible] def spRowCosts (K : PySem.W.Frag) : Sp := fun vs H Q _ => ∃ (v u : V) (a L : Addr) (b : Bx) (ws : List Int) (M : Rat) (ps : List (Int × Int)) (d : Bool), vs = [v, .ref a, u, .ref L, .str (sd d)] ∧ BxV K H v b ∧ b.Ok 450 ∧ IntsV K H a ws ∧ WOk ws ∧ PtV K H u M ∧ Sz 3900 M ∧ SpD K H L ps ∧ ∀ D H', H D = none → Same H H' → DCo ws.length (fSh b ws d) M ps H' D → Q (.ref D) H'
@[irreducible] def spNumbers (K : PySem.W.Frag) : Sp := fun vs H Q _ => ∃ (v u : V) (a L : Addr) (b : Bx) (ws : List Int) (M : Rat) (ps : List (Int × Int)) (d : Bool), vs = [v, .ref a, u, .ref L, .str (sd d)] ∧ BxV K H v b ∧ b.Ok 450 ∧ IntsV K H a ws ∧ WOk ws ∧ PtV K H u M ∧ Sz 3900 M ∧ ¬ M < 1 ∧ SpH K H L ps ∧ KOk ws.length ps ∧ ∀ N H', H N = none → Same H H' → H' N = some (.lst ((numL (fSh b ws d) M ps ws.length).map oV)) → Q (.ref N) H'
@[irreducible] def spSpotsH (K : PySem.W.Frag) : Sp := fun vs H Q _ => ∃ (a : Addr) (ss : List Int) (n : Nat), vs = [.ref a] ∧ SqT K H a (ss.map V.int) ∧ SOk ss n ∧ n ≤ 12 ∧ ∀ L us H', H L = none → Same H H' → H' L = some (.lst us) → Al (PiH H') us (spotsM ss) → Q (.ref L) H'
@[irreducible] def spLKept (K : PySem.W.Frag) : Sp := fun vs H Q _ => ∃ (c : Addr) (n : Nat), vs = [.ref c, .int n] ∧ Bag H c ∧ 1 ≤ n ∧ n ≤ 12 ∧ ∀ L us ps H', H L = none → H' L = some (.lst us) → Al (PiH H') us ps → KOk n ps → Bag H' c → Kp c H H' → Q (.ref L) H'
@[irreducible] def spLCosts (K : PySem.W.Frag) : Sp := fun vs H Q _ => ∃ (D L : Addr) (n m : Nat) (u : V) (M : Rat) (f : Nat → Nat → Rat) (ps : List (Int × Int)), vs = [.ref D, .int n, u, .ref L] ∧ DSh K n (AllR n) f m H D ∧ n ≤ 12 ∧ (∀ i j, AllR n i j → Sz 3900 (f i j)) ∧ PtV K H u M ∧ Sz 3900 M ∧ SpD K H L ps ∧ ∀ N H', H N = none → Same H H' → H' N = some (.lst ((numL f M ps n).map oV)) → Q (.ref N) H'
section
variable {K : PySem.W.Frag} {H : Hp} {Q : VK} {E : XK} {vs : List V} {n m : Nat} {M : Rat} {ps : List (Int × Int)} {u v : V} {D L a t : Addr} {f : Nat → Nat → Rat} {ws : List Int} {b : Bx} {d : Bool} {i j k : Nat}
theorem isrow_step {x y : Int} (h : SqT K H t [.int x, .int y]) (h0 : 0 ≤ x) (h1 : 1 ≤ y) (h2 : x + y ≤ n) (q : ∀ H', Same H H' → Q (.bl true) H') (hvs : vs = [.ref t, .int n] := by rfl) : spIsRow K vs H Q E := by
  unfold spIsRow
  exact ⟨t, n, x, y, hvs, h, h0, h1, h2, q⟩
theorem rowcost_step {x y : Int} (h : SpD K H L ps) (q : ∀ H', Same H H' → Q (.int (cst ps x y)) H') (hvs : vs = [.int x, .int y, .ref L] := by rfl) : spRowCost K vs H Q E := by
  unfold spRowCost
  exact ⟨x, y, L, ps, hvs, h, q⟩
theorem checkcalm_step (hv : BxV K H v b) (hb : b.Ok i) (hi : i ≤ 450) (h : IntsV K H a ws) (hw : WOk ws) (hu : PtV K H u M) (hz : Sz j M) (hj : j ≤ 3900) (h1 : ¬ M < 1) (hL : SpH K H L ps) (hk : KOk ws.length ps) (q : ∀ H', Same H H' → Q .non H') (hvs : vs = [v, .ref a, u, .ref L, .str (sd d)] := by rfl) : spCheckCalm K vs H Q E := by
  unfold spCheckCalm
  exact ⟨v, u, a, L, b, ws, M, ps, d, hvs, hv, hb.mono hi, h, hw, hu, hz.mono hj, h1, hL, hk, q⟩
theorem rowcosts_step (hv : BxV K H v b) (hb : b.Ok i) (hi : i ≤ 450) (h : IntsV K H a ws) (hw : WOk ws) (hu : PtV K H u M) (hz : Sz j M) (hj : j ≤ 3900) (hL : SpD K H L ps) (q : ∀ D H', H D = none → Same H H' → DCo ws.length (fSh b ws d) M ps H' D → Q (.ref D) H') (hvs : vs = [v, .ref a, u, .ref L, .str (sd d)] := by rfl) : spRowCosts K vs H Q E := by
  unfold spRowCosts
  exact ⟨v, u, a, L, b, ws, M, ps, d, hvs, hv, hb.mono hi, h, hw, hu, hz.mono hj, hL, q⟩
theorem numbers_step (hv : BxV K H v b) (hb : b.Ok i) (hi : i ≤ 450) (h : IntsV K H a ws) (hw : WOk ws) (hu : PtV K H u M) (hz : Sz j M) (hj : j ≤ 3900) (h1 : ¬ M < 1) (hL : SpH K H L ps) (hk : KOk ws.length ps) (q : ∀ N H', H N = none → Same H H' → H' N = some (.lst ((numL (fSh b ws d) M ps ws.length).map oV)) → Q (.ref N) H') (hvs : vs = [v, .ref a, u, .ref L, .str (sd d)] := by rfl) : spNumbers K vs H Q E := by
  unfold spNumbers
  exact ⟨v, u, a, L, b, ws, M, ps, d, hvs, hv, hb.mono hi, h, hw, hu, hz.mono hj, h1, hL, hk, q⟩
theorem spotsH_step {ss : List Int} (h : SqT K H a (ss.map V.int)) (hs : SOk ss n) (hn : n ≤ 12) (q : ∀ L us H', H L = none → Same H H' → H' L = some (.lst us) → Al (PiH H') us (spotsM ss) → Q (.ref L) H') (hvs : vs = [.ref a] := by rfl) : spSpotsH K vs H Q E := by
  unfold spSpotsH
  exact ⟨a, ss, n, hvs, h, hs, hn, q⟩
theorem lkept_step {c : Addr} (hb : Bag H c) (h0 : 1 ≤ n) (h1 : n ≤ 12) (q : ∀ L us ps H', H L = none → H' L = some (.lst us) → Al (PiH H') us ps → KOk n ps → Bag H' c → Kp c H H' → Q (.ref L) H') (hvs : vs = [.ref c, .int n] := by rfl) : spLKept K vs H Q E := by
  unfold spLKept
  exact ⟨c, n, hvs, hb, h0, h1, q⟩
theorem lcosts_step (h : DSh K n (AllR n) f m H D) (hn : n ≤ 12) (hz : ∀ i j, AllR n i j → Sz 3900 (f i j)) (hu : PtV K H u M) (hM : Sz j M) (hj : j ≤ 3900) (hL : SpD K H L ps) (q : ∀ N H', H N = none → Same H H' → H' N = some (.lst ((numL f M ps n).map oV)) → Q (.ref N) H') (hvs : vs = [.ref D, .int n, u, .ref L] := by rfl) : spLCosts K vs H Q E := by
  unfold spLCosts
  exact ⟨D, L, n, m, u, M, f, ps, hvs, h, hn, hz, hu, hM.mono hj, hL, q⟩
end
theorem KOk.sub {n : Nat} {ps qs : List (Int × Int)} (h : KOk n qs) (s : List.Sublist ps qs) : KOk n ps :=
  ⟨fun p hp => h.r p (s.subset hp), h.u.sublist s, Nat.le_trans s.length_le h.l⟩
theorem take_mono {ss : List Int} {n : Nat} (h : SOk ss n) (i : Nat) : ∀ m, (ss.take i).sum ≤ (ss.take (i + m)).sum
  | 0 => Int.le_refl _
  | m + 1 => by
    have ih := take_mono h i m
    by_cases c : i + m < ss.length
    · have := h.getD c
      rw [show i + (m + 1) = i + m + 1 by omega, take_sum c]
      omega
    · rw [List.take_of_length_le (show ss.length ≤ i + (m + 1) by omega)]
      rw [List.take_of_length_le (show ss.length ≤ i + m by omega)] at ih
      exact ih
theorem spots_kok {ss : List Int} {n : Nat} (h : SOk ss n) (hn : n ≤ 12) : KOk n (spotsM ss) := by
  have hl := h.len
  refine ⟨fun p hp => ?_, ?_, by rw [spots_len]; omega⟩
  · obtain ⟨i, hi⟩ := List.getElem?_of_mem hp
    obtain ⟨lt, rfl⟩ := spots_get hi
    have h1 := h.take i
    have h2 := h.getD lt
    have h3 := h.take (i + 1)
    rw [take_sum lt] at h3
    exact ⟨h1.1, h2, h3.2⟩
  · unfold spotsM
    refine List.pairwise_map.mpr ?_
    refine List.Pairwise.imp_of_mem ?_ List.pairwise_lt_range
    intro i j hi hj lt e
    have hi := List.mem_range.mp hi
    have hj := List.mem_range.mp hj
    have e1 : (ss.take i).sum = (ss.take j).sum := congrArg Prod.fst e
    have g := h.getD hi
    have up := take_mono h (i + 1) (j - (i + 1))
    rw [show i + 1 + (j - (i + 1)) = j by omega] at up
    rw [take_sum hi] at up
    omega
theorem eqv_nilN : ∀ xs : List Int, PyData.eqv (.list (xs.map PyData.int)) (.list (([] : List Int).map PyData.int)) = xs.isEmpty
  | [] => rfl
  | _ :: _ => rfl
theorem valsN_succ {f : Nat → Nat → Rat} {M : Rat} {ps : List (Int × Int)} (L : List (Option Int)) (e k : Nat) : valsN f M ps L e (k + 1) = valsN f M ps L e k ++ (if lead f M L e k = true then [valN ps L e k] else []) := by
  unfold valsN
  rw [leads_succ, List.map_append]
  split <;> rfl
theorem valsN_len {f : Nat → Nat → Rat} {M : Rat} {ps : List (Int × Int)} (L : List (Option Int)) (e k : Nat) : (valsN f M ps L e k).length ≤ k := by
  unfold valsN
  rw [List.length_map]
  exact leads_len L e k
def oD : Option Int → PyData
  | none => .none
  | some k => .int k
theorem dp_oV (K : PySem.W.Frag) (H : Hp) : ∀ xs : List (Option Int), DpAll K H (xs.map oV) (xs.map oD)
  | [] => .nil
  | none :: r => .cons .non (dp_oV K H r)
  | some k :: r => .cons (.int _) (dp_oV K H r)
theorem dle_oV {xs : List (Option Int)} (h : xs.length ≤ 1000) : dle 6 (.list (xs.map oD)) = true := by
  simp only [dle, Bool.and_eq_true, decide_eq_true_eq, List.all_eq_true, List.length_map]
  refine ⟨h, fun x hx => ?_⟩
  obtain ⟨y, _, rfl⟩ := List.mem_map.mp hx
  cases y <;> rfl
/-- kept rows at L -/
def KpL (H : Hp) (L : Addr) (us : List V) (ps : List (Int × Int)) : Prop := H L = some (.lst us) ∧ Al (PiH H) us ps
theorem KpL.same {H H' : Hp} {L : Addr} {us : List V} {ps : List (Int × Int)} (h : KpL H L us ps) (e : Same H H') : KpL H' L us ps := ⟨e _ _ h.1, h.2.mono fun v x h => h.same e⟩
theorem KpL.bag {H H' : Hp} {L b : Addr} {us : List V} {ps : List (Int × Int)} (h : KpL H L us ps) (n : L ≠ b) (e : Kp b H H') (hB : Bag H b) : KpL H' L us ps := by
  obtain ⟨ys, hy⟩ := hB.lst
  exact ⟨e _ _ h.1 n, h.2.mono fun v x h => h.kp e hy⟩
theorem KpL.sp {K : PySem.W.Frag} {H : Hp} {L : Addr} {us : List V} {ps : List (Int × Int)} (h : KpL H L us ps) : SpH K H L ps := ⟨us, SqL.of h.1, h.2⟩
end Cc
/-! XKal: the least cost from each place on, calm sizes. -/
namespace Cc
open PySem PySem.Spec PyProof.Rows L2
/-- B: the least cost of rows within M from a place on -/
structure Bco (f : Nat → Nat → Rat) (M : Rat) (ps : List (Int × Int)) (n i : Nat) (B : Nat → Option Int) : Prop where
  e : B n = some 0
  hit : ∀ b, i ≤ b → b < n → ∀ k, B b = some k → ∃ e k', b < e ∧ e ≤ n ∧ ¬ M < f b e ∧ B e = some k' ∧ k = cst ps b e + k'
  le : ∀ b, i ≤ b → b < n → ∀ e k', b < e → e ≤ n → ¬ M < f b e → B e = some k' → ∃ k, B b = some k ∧ k ≤ cst ps b e + k'
section
variable {f : Nat → Nat → Rat} {M : Rat} {ps : List (Int × Int)} {n : Nat} {B : Nat → Option Int}
/-- a row from b to e can be one of those that cost the least -/
def cheap (f : Nat → Nat → Rat) (M : Rat) (ps : List (Int × Int)) (B : Nat → Option Int) (b e : Nat) : Bool := (B e).isSome && !decide (M < f b e) && decide (B b = some (cst ps b e + (B e).getD 0))
theorem Bco.cheap (h : Bco f M ps n 0 B) {b : Nat} (hb : b < n) {k : Int} (hk : B b = some k) : ∃ e, b + 1 ≤ e ∧ e ≤ n ∧ cheap f M ps B b e = true := by
  obtain ⟨e, k', h1, h2, h3, h4, h5⟩ := h.hit b (Nat.zero_le _) hb k hk
  refine ⟨e, h1, h2, ?_⟩
  unfold Cc.cheap
  rw [h4, hk, decide_eq_false h3, h5]
  simp
theorem cheap_some {b e : Nat} (h : cheap f M ps B b e = true) : ∃ k', B e = some k' ∧ ¬ M < f b e ∧ B b = some (cst ps b e + k') := by
  unfold cheap at h
  rw [Bool.and_eq_true, Bool.and_eq_true] at h
  obtain ⟨⟨h1, h2⟩, h3⟩ := h
  cases hB : B e with
  | none =>
    rw [hB] at h1
    cases h1
  | some k' =>
    refine ⟨k', rfl, fun z => ?_, ?_⟩
    · rw [decide_eq_true z] at h2
      cases h2
    · have := of_decide_eq_true h3
      rw [hB] at this
      exact this
theorem cheap_val {b e : Nat} {k w : Int} (h1 : B e = some w) (h2 : B b = some k) (h3 : ¬ M < f b e) : cheap f M ps B b e = decide (V.int (cst ps b e + w) = V.int k) := by
  rw [Bool.eq_iff_iff, decide_eq_true_iff]
  constructor
  · intro h
    obtain ⟨k', e1, _, e3⟩ := cheap_some h
    rw [h1] at e1
    cases e1
    rw [h2] at e3
    rw [Option.some.inj e3]
  · intro h
    injection h with h
    unfold cheap
    simp [h1, h2, h, decide_eq_false h3]
/-- the first end from e on that is so -/
def cEnd (f : Nat → Nat → Rat) (M : Rat) (ps : List (Int × Int)) (B : Nat → Option Int) (n b e : Nat) : Nat := if e < n ∧ cheap f M ps B b e = false then cEnd f M ps B n b (e + 1) else e
termination_by n - e
theorem cEnd_go {b e : Nat} (h : e < n ∧ cheap f M ps B b e = false) : cEnd f M ps B n b e = cEnd f M ps B n b (e + 1) := by rw [cEnd, if_pos h]
theorem cEnd_stop {b e : Nat} (h : ¬ (e < n ∧ cheap f M ps B b e = false)) : cEnd f M ps B n b e = e := by rw [cEnd, if_neg h]
theorem cEnd_ge {b : Nat} : ∀ k e, n - e ≤ k → e ≤ cEnd f M ps B n b e
  | 0, e, h => by
    rw [cEnd_stop (by omega)]
    exact Nat.le_refl _
  | k + 1, e, h => by
    by_cases c : e < n ∧ cheap f M ps B b e = false
    · rw [cEnd_go c]
      have := cEnd_ge (b := b) k (e + 1) (by omega)
      omega
    · rw [cEnd_stop c]
      exact Nat.le_refl _
theorem cEnd_le {b : Nat} : ∀ k e, n - e ≤ k → e ≤ n → cEnd f M ps B n b e ≤ n
  | 0, e, h, h2 => by
    rw [cEnd_stop (by omega)]
    exact h2
  | k + 1, e, h, h2 => by
    by_cases c : e < n ∧ cheap f M ps B b e = false
    · rw [cEnd_go c]
      exact cEnd_le k (e + 1) (by omega) (by omega)
    · rw [cEnd_stop c]
      exact h2
theorem cEnd_hit {b : Nat} : ∀ k e, n - e ≤ k → e ≤ n → (∃ e', e ≤ e' ∧ e' ≤ n ∧ cheap f M ps B b e' = true) → cheap f M ps B b (cEnd f M ps B n b e) = true
  | 0, e, h, h2, ⟨e', h3, h4, h5⟩ => by
    rw [cEnd_stop (by omega), show e = e' by omega]
    exact h5
  | k + 1, e, h, h2, ⟨e', h3, h4, h5⟩ => by
    by_cases c : e < n ∧ cheap f M ps B b e = false
    · rw [cEnd_go c]
      refine cEnd_hit k (e + 1) (by omega) (by omega) ⟨e', ?_, h4, h5⟩
      by_cases z : e' = e
      · rw [z, c.2] at h5
        cases h5
      · omega
    · rw [cEnd_stop c]
      by_cases z : e < n
      · cases hc : cheap f M ps B b e with
        | true => rfl
        | false => exact absurd ⟨z, hc⟩ c
      · rw [show e = e' by omega]
        exact h5
/-- the calm sizes from b on -/
def calmL (f : Nat → Nat → Rat) (M : Rat) (ps : List (Int × Int)) (B : Nat → Option Int) (n b : Nat) : List Int := if b < n then ((cEnd f M ps B n b (b + 1) - b : Nat) : Int) :: calmL f M ps B n (cEnd f M ps B n b (b + 1)) else []
termination_by n - b
decreasing_by
  have := cEnd_ge (f := f) (M := M) (ps := ps) (B := B) (n := n) (b := b) (n - (b + 1)) (b + 1) (Nat.le_refl _)
  omega
theorem calmL_go {b : Nat} (h : b < n) : calmL f M ps B n b = ((cEnd f M ps B n b (b + 1) - b : Nat) : Int) :: calmL f M ps B n (cEnd f M ps B n b (b + 1)) := by rw [calmL, if_pos h]
theorem calmL_stop {b : Nat} (h : ¬ b < n) : calmL f M ps B n b = [] := by rw [calmL, if_neg h]
theorem calmL_ok : ∀ k b, n - b ≤ k → b ≤ n → (∀ x ∈ calmL f M ps B n b, 1 ≤ x) ∧ (calmL f M ps B n b).sum = (n : Int) - b
  | 0, b, h, hb => by
    rw [calmL_stop (by omega)]
    refine ⟨by simp, ?_⟩
    rw [List.sum_nil]
    omega
  | k + 1, b, h, hb => by
    by_cases c : b < n
    · have g1 := cEnd_ge (f := f) (M := M) (ps := ps) (B := B) (n := n) (b := b) (n - (b + 1)) (b + 1) (Nat.le_refl _)
      have g2 := cEnd_le (f := f) (M := M) (ps := ps) (B := B) (n := n) (b := b) (n - (b + 1)) (b + 1) (Nat.le_refl _) (by omega)
      obtain ⟨h1, h2⟩ := calmL_ok k (cEnd f M ps B n b (b + 1)) (by omega) g2
      rw [calmL_go c]
      refine ⟨fun x hx => ?_, ?_⟩
      · rcases List.mem_cons.mp hx with rfl | hx
        · omega
        · exact h1 x hx
      · rw [List.sum_cons, h2]
        omega
    · rw [calmL_stop c]
      refine ⟨by simp, ?_⟩
      rw [List.sum_nil]
      omega
theorem calm_sok : SOk (calmL f M ps B n 0) n := by
  obtain ⟨h1, h2⟩ := calmL_ok (f := f) (M := M) (ps := ps) (B := B) (n := n) n 0 (by omega) (by omega)
  exact ⟨h1, by rw [h2]; omega⟩
end
theorem getD_set {us : List (Option Int)} {b e : Nat} {x : Option Int} (hb : b < us.length) : (us.set b x).getD e none = if e = b then x else us.getD e none := by
  rw [List.getD_eq_getElem?_getD, List.getD_eq_getElem?_getD]
  by_cases z : e = b
  · rw [if_pos z, z, List.getElem?_set_self hb]
    rfl
  · rw [if_neg z, List.getElem?_set_ne (Ne.symm z)]
theorem Bco.step {f : Nat → Nat → Rat} {M : Rat} {ps : List (Int × Int)} {n b : Nat} {us : List (Option Int)} {x : Option Int} (hb : b < n) (hl : us.length = n + 1) (h : Bco f M ps n (b + 1) (fun e => us.getD e none))
    (h1 : ∀ k, x = some k → ∃ e k', b < e ∧ e ≤ n ∧ ¬ M < f b e ∧ us.getD e none = some k' ∧ k = cst ps b e + k') (h2 : ∀ e k', b < e → e ≤ n → ¬ M < f b e → us.getD e none = some k' → ∃ k, x = some k ∧ k ≤ cst ps b e + k') :
    Bco f M ps n b (fun e => (us.set b x).getD e none) := by
  have g : ∀ e, (us.set b x).getD e none = if e = b then x else us.getD e none := fun e => getD_set (by omega)
  refine ⟨?_, fun b' hi lt k hk => ?_, fun b' hi lt e k' q1 q2 q3 q4 => ?_⟩
  · try dsimp only
    rw [g, if_neg (by omega)]
    exact h.e
  · try dsimp only at hk
    rw [g] at hk
    by_cases z : b' = b
    · rw [if_pos z] at hk
      obtain ⟨e, k', r1, r2, r3, r4, r5⟩ := h1 k hk
      rw [z]
      refine ⟨e, k', r1, r2, r3, ?_, r5⟩
      try dsimp only
      rw [g, if_neg (by omega)]
      exact r4
    · rw [if_neg z] at hk
      obtain ⟨e, k', r1, r2, r3, r4, r5⟩ := h.hit b' (by omega) lt k hk
      refine ⟨e, k', r1, r2, r3, ?_, r5⟩
      try dsimp only
      rw [g, if_neg (by omega)]
      exact r4
  · try dsimp only at q4 ⊢
    rw [g, if_neg (by omega)] at q4
    rw [g]
    by_cases z : b' = b
    · rw [if_pos z]
      subst z
      exact h2 e k' q1 q2 q3 q4
    · rw [if_neg z]
      exact h.le b' (by omega) lt e k' q1 q2 q3 q4
section
variable (f : Nat → Nat → Rat) (M : Rat) (ps : List (Int × Int))
def leadE (L : List (Option Int)) (b e : Nat) : Bool := (L.getD e none).isSome && !decide (M < f b e)
def valE (L : List (Option Int)) (b e : Nat) : Int := cst ps b e + (L.getD e none).getD 0
def leadsE (L : List (Option Int)) (b k : Nat) : List Nat := ((List.range k).map fun j => b + 1 + j).filter (leadE f M L b)
end
theorem leadsE_succ {f : Nat → Nat → Rat} {M : Rat} (L : List (Option Int)) (b k : Nat) : leadsE f M L b (k + 1) = leadsE f M L b k ++ (if leadE f M L b (b + 1 + k) = true then [b + 1 + k] else []) := by
  unfold leadsE
  rw [List.range_succ, List.map_append, List.filter_append]
  congr 1
  cases h : leadE f M L b (b + 1 + k) <;> simp [h]
theorem leadsE_len {f : Nat → Nat → Rat} {M : Rat} (L : List (Option Int)) (b k : Nat) : (leadsE f M L b k).length ≤ k := by
  unfold leadsE
  refine Nat.le_trans (List.length_filter_le _ _) ?_
  rw [List.length_map, List.length_range]
  exact Nat.le_refl _
theorem leadsE_mem {f : Nat → Nat → Rat} {M : Rat} {L : List (Option Int)} {b k e : Nat} : e ∈ leadsE f M L b k ↔ (b + 1 ≤ e ∧ e < b + 1 + k) ∧ leadE f M L b e = true := by
  unfold leadsE
  rw [List.mem_filter, List.mem_map]
  constructor
  · rintro ⟨⟨j, hj, rfl⟩, h⟩
    have := List.mem_range.mp hj
    exact ⟨⟨by omega, by omega⟩, h⟩
  · rintro ⟨⟨h1, h2⟩, h⟩
    exact ⟨⟨e - (b + 1), List.mem_range.mpr (by omega), by omega⟩, h⟩
theorem leadE_iff {f : Nat → Nat → Rat} {M : Rat} {L : List (Option Int)} {b e : Nat} : leadE f M L b e = true ↔ ∃ w, L.getD e none = some w ∧ ¬ M < f b e := by
  unfold leadE
  rw [Bool.and_eq_true, Option.isSome_iff_exists]
  constructor
  · rintro ⟨⟨w, h1⟩, h2⟩
    refine ⟨w, h1, fun z => ?_⟩
    rw [decide_eq_true z] at h2
    cases h2
  · rintro ⟨w, h1, h2⟩
    exact ⟨⟨w, h1⟩, by rw [decide_eq_false h2]; rfl⟩
/-! ### promises -/
@[irreducible] def spBehind (K : PySem.W.Frag) : Sp := fun vs H Q _ => ∃ (D : Addr) (n : Nat) (f : Nat → Nat → Rat) (M : Rat) (ps : List (Int × Int)), vs = [.ref D, .int n] ∧ DCo n f M ps H D ∧ n ≤ 12 ∧ ∀ F (us : List (Option Int)) H', H F = none → Same H H' → H' F = some (.lst (us.map oV)) → us.length = n + 1 → Bco f M ps n 0 (fun e => us.getD e none) → Q (.ref F) H'
@[irreducible] def spCheap (K : PySem.W.Frag) : Sp := fun vs H Q _ => ∃ (D F : Addr) (n b e : Nat) (k : Int) (f : Nat → Nat → Rat) (M : Rat) (ps : List (Int × Int)) (us : List (Option Int)), vs = [.ref D, .ref F, .int b, .int e] ∧ DCo n f M ps H D ∧ H F = some (.lst (us.map oV)) ∧ us.length = n + 1 ∧ b < e ∧ e ≤ n ∧ us.getD b none = some k ∧ ∀ H', Same H H' → Q (.bl (cheap f M ps (fun e => us.getD e none) b e)) H'
@[irreducible] def spCalm (K : PySem.W.Frag) : Sp := fun vs H Q _ => ∃ (v u : V) (a L : Addr) (b : Bx) (ws : List Int) (M : Rat) (ps : List (Int × Int)) (d : Bool), vs = [v, .ref a, u, .ref L, .str (sd d)] ∧ BxV K H v b ∧ b.Ok 450 ∧ IntsV K H a ws ∧ WOk ws ∧ PtV K H u M ∧ Sz 3900 M ∧ ¬ M < 1 ∧ SpH K H L ps ∧ KOk ws.length ps ∧ ∀ B : Nat → Option Int, Bco (fSh b ws d) M ps ws.length 0 B → (B 0 = none → ∀ H', Same H H' → Q .non H') ∧ ∀ k, B 0 = some k → ∀ t s H', Same H H' → H' t = some (.tup [.ref s, .int k]) → H' s = some (.tup ((calmL (fSh b ws d) M ps B ws.length 0).map V.int)) → Q (.ref t) H'
section
variable {K : PySem.W.Frag} {H : Hp} {Q : VK} {E : XK} {vs : List V} {n i j : Nat} {M : Rat} {ps : List (Int × Int)} {u v : V} {D F L a : Addr} {f : Nat → Nat → Rat} {ws : List Int} {b : Bx} {d : Bool}
theorem behind_step (h : DCo n f M ps H D) (hn : n ≤ 12) (q : ∀ F (us : List (Option Int)) H', H F = none → Same H H' → H' F = some (.lst (us.map oV)) → us.length = n + 1 → Bco f M ps n 0 (fun e => us.getD e none) → Q (.ref F) H') (hvs : vs = [.ref D, .int n] := by rfl) : spBehind K vs H Q E := by
  unfold spBehind
  exact ⟨D, n, f, M, ps, hvs, h, hn, q⟩
theorem cheap_step {x y : Nat} {k : Int} {us : List (Option Int)} (h : DCo n f M ps H D) (hF : H F = some (.lst (us.map oV))) (hl : us.length = n + 1) (h1 : x < y) (h2 : y ≤ n) (hk : us.getD x none = some k) (q : ∀ H', Same H H' → Q (.bl (cheap f M ps (fun e => us.getD e none) x y)) H') (hvs : vs = [.ref D, .ref F, .int x, .int y] := by rfl) : spCheap K vs H Q E := by
  unfold spCheap
  exact ⟨D, F, n, x, y, k, f, M, ps, us, hvs, h, hF, hl, h1, h2, hk, q⟩
theorem calm_step (hv : BxV K H v b) (hb : b.Ok i) (hi : i ≤ 450) (h : IntsV K H a ws) (hw : WOk ws) (hu : PtV K H u M) (hz : Sz j M) (hj : j ≤ 3900) (h1 : ¬ M < 1) (hL : SpH K H L ps) (hk : KOk ws.length ps) (q : ∀ B : Nat → Option Int, Bco (fSh b ws d) M ps ws.length 0 B → (B 0 = none → ∀ H', Same H H' → Q .non H') ∧ ∀ k, B 0 = some k → ∀ t s H', Same H H' → H' t = some (.tup [.ref s, .int k]) → H' s = some (.tup ((calmL (fSh b ws d) M ps B ws.length 0).map V.int)) → Q (.ref t) H') (hvs : vs = [v, .ref a, u, .ref L, .str (sd d)] := by rfl) : spCalm K vs H Q E := by
  unfold spCalm
  exact ⟨v, u, a, L, b, ws, M, ps, d, hvs, hv, hb.mono hi, h, hw, hu, hz.mono hj, h1, hL, hk, q⟩
end
@[irreducible] def spLCost (K : PySem.W.Frag) : Sp := fun vs H Q _ => ∃ (v : V) (o : Option Int), vs = [v] ∧ (∀ k, o = some k → ∃ t x, v = .ref t ∧ SqT K H t [x, .int k]) ∧ (o = none → v = .non) ∧ Q (.int (o.getD 99)) H
theorem lcost_step {K : PySem.W.Frag} {H : Hp} {Q : VK} {E : XK} {vs : List V} {v : V} (o : Option Int) (h1 : ∀ k, o = some k → ∃ t x, v = .ref t ∧ SqT K H t [x, .int k]) (h2 : o = none → v = .non) (q : Q (.int (o.getD 99)) H) (hvs : vs = [v] := by rfl) : spLCost K vs H Q E := by
  unfold spLCost
  exact ⟨v, o, hvs, h1, h2, q⟩
/-! ### costs against one another -/
section
variable {f : Nat → Nat → Rat} {M M' : Rat} {ps ps' : List (Int × Int)} {n : Nat} {B B' : Nat → Option Int} {g : Nat → Rat}
/-- a cost is no less than nought, no more than the things -/
theorem Bco.range (h : Bco f M ps n 0 B) : ∀ k b, n - b ≤ k → b ≤ n → ∀ c, B b = some c → 0 ≤ c ∧ c ≤ (n : Int) - b
  | 0, b, hk, hb, c, hc => by
    rw [show b = n by omega, h.e] at hc
    cases hc
    omega
  | k + 1, b, hk, hb, c, hc => by
    by_cases z : b = n
    · rw [z, h.e] at hc
      cases hc
      omega
    · obtain ⟨e, c', h1, h2, _, h4, h5⟩ := h.hit b (Nat.zero_le _) (by omega) c hc
      have h6 := Bco.range h k e (by omega) h2 c' h4
      have h7 := cst_01 ps b e
      omega
/-- there are rows within M from b on where the least worst shape is not above it -/
theorem Bco.some_iff (h : Bco f M ps n 0 B) (hG : Bst f n 0 g) (hM : 1 ≤ M) : ∀ k b, n - b ≤ k → b ≤ n → ((∃ c, B b = some c) ↔ g b ≤ M)
  | 0, b, hk, hb => by
    rw [show b = n by omega, h.e, hG.e]
    exact ⟨fun _ => hM, fun _ => ⟨0, rfl⟩⟩
  | k + 1, b, hk, hb => by
    by_cases z : b = n
    · rw [z, h.e, hG.e]
      exact ⟨fun _ => hM, fun _ => ⟨0, rfl⟩⟩
    · constructor
      · rintro ⟨c, hc⟩
        obtain ⟨e, c', h1, h2, h3, h4, h5⟩ := h.hit b (Nat.zero_le _) (by omega) c hc
        have h6 := (Bco.some_iff h hG hM k e (by omega) h2).mp ⟨c', h4⟩
        have h7 := hG.le b (Nat.zero_le _) (by omega) e h1 h2
        have h8 := gr_le' h6 h3
        grind
      · intro hb'
        obtain ⟨e, h1, h2, h3⟩ := hG.on (by omega) hb'
        have h4 := gr_le h3
        obtain ⟨c', h5⟩ := (Bco.some_iff h hG hM k e (by omega) h2).mpr h4.2
        obtain ⟨c, h6, _⟩ := h.le b (Nat.zero_le _) (by omega) e c' (by omega) h2 (Rat.not_lt.mpr h4.1) h5
        exact ⟨c, h6⟩
/-- a greater bound, rows that cost no more: no dearer, but by r -/
theorem Bco.cmp (r : Nat → Int) (h : Bco f M ps n 0 B) (h' : Bco f M' ps' n 0 B') (hr : 0 ≤ r n) (hM : ∀ b e, b < e → e ≤ n → ¬ M < f b e → ¬ M' < f b e ∧ cst ps' b e + r e ≤ cst ps b e + r b) : ∀ k b, n - b ≤ k → b ≤ n → ∀ c, B b = some c → ∃ c', B' b = some c' ∧ c' ≤ c + r b
  | 0, b, hk, hb, c, hc => by
    rw [show b = n by omega, h.e] at hc
    cases hc
    rw [show b = n by omega, h'.e]
    exact ⟨0, rfl, by omega⟩
  | k + 1, b, hk, hb, c, hc => by
    by_cases z : b = n
    · rw [z, h.e] at hc
      cases hc
      rw [z, h'.e]
      exact ⟨0, rfl, by omega⟩
    · obtain ⟨e, c1, h1, h2, h3, h4, h5⟩ := h.hit b (Nat.zero_le _) (by omega) c hc
      obtain ⟨c2, h6, h7⟩ := Bco.cmp r h h' hr hM k e (by omega) h2 c1 h4
      obtain ⟨h8, h9⟩ := hM b e h1 h2 h3
      obtain ⟨c3, h10, h11⟩ := h'.le b (Nat.zero_le _) (by omega) e c2 h1 h2 h8 h6
      exact ⟨c3, h10, by omega⟩
/-- how many pairs of l with q begin at b or behind -/
def cntQ (q : Int × Int → Bool) (b : Nat) (l : List (Int × Int)) : Nat := l.countP fun p => decide ((b : Int) ≤ p.1) && q p
theorem cntQ_step {q : Int × Int → Bool} {b e : Nat} (h : b < e) : ∀ l : List (Int × Int), cntQ q e l + (if ((b : Int), (e : Int) - b) ∈ l ∧ q ((b : Int), (e : Int) - b) = true then 1 else 0) ≤ cntQ q b l
  | [] => by simp [cntQ]
  | x :: l => by
    have ih := cntQ_step (q := q) h l
    unfold cntQ at ih ⊢
    rw [List.countP_cons, List.countP_cons]
    by_cases c : x = ((b : Int), (e : Int) - b)
    · subst c
      have e1 : decide ((e : Int) ≤ (b : Int)) = false := decide_eq_false (by omega)
      have e2 : decide ((b : Int) ≤ (b : Int)) = true := decide_eq_true (Int.le_refl _)
      simp only [e1, e2, Bool.false_and, Bool.true_and, Bool.false_eq_true, if_false, List.mem_cons, true_or, true_and]
      split at ih <;> split <;> omega
    · have c2 : ¬ ((b : Int), (e : Int) - b) = x := fun z => c z.symm
      simp only [List.mem_cons, c2, false_or]
      by_cases d : (e : Int) ≤ x.1
      · have e1 : decide ((e : Int) ≤ x.1) = true := decide_eq_true d
        have e2 : decide ((b : Int) ≤ x.1) = true := decide_eq_true (by omega)
        rw [e1, e2]
        omega
      · have e1 : decide ((e : Int) ≤ x.1) = false := decide_eq_false d
        rw [e1, Bool.false_and, if_neg Bool.false_ne_true]
        omega
theorem cst_few {b e : Nat} (h : b < e) (hs : ∀ p ∈ ps', p ∈ ps) : cst ps' b e + (cntQ (fun p => !decide (p ∈ ps')) e ps : Int) ≤ cst ps b e + (cntQ (fun p => !decide (p ∈ ps')) b ps : Int) := by
  have h1 := cntQ_step (q := fun p => !decide (p ∈ ps')) h ps
  unfold cst
  by_cases c : ((b : Int), (e : Int) - b) ∈ ps
  · rw [if_pos c]
    by_cases c' : ((b : Int), (e : Int) - b) ∈ ps'
    · rw [if_pos c']
      split at h1 <;> omega
    · rw [if_neg c']
      rw [if_pos ⟨c, by rw [decide_eq_false c']; rfl⟩] at h1
      omega
  · rw [if_neg c, if_neg (fun z => c (hs _ z))]
    split at h1 <;> omega
theorem cnt_few (s : List.Sublist ps' ps) : cntQ (fun p => !decide (p ∈ ps')) 0 ps + ps'.length ≤ ps.length := by
  have h1 : cntQ (fun p => !decide (p ∈ ps')) 0 ps ≤ ps.countP fun p => !decide (p ∈ ps') := by
    unfold cntQ
    refine List.countP_mono_left fun x _ hx => ?_
    rw [Bool.and_eq_true] at hx
    exact hx.2
  have h2 : ps'.length ≤ ps.countP fun p => decide (p ∈ ps') := by
    have e : ps'.countP (fun p => decide (p ∈ ps')) = ps'.length := List.countP_eq_length.mpr fun a ha => decide_eq_true ha
    rw [← e]
    exact s.countP_le
  have h3 := List.length_eq_countP_add_countP (fun p => decide (p ∈ ps')) (l := ps)
  have h4 : (ps.countP fun p => !decide (p ∈ ps')) = ps.countP fun p => decide ¬(decide (p ∈ ps') = true) := by
    congr 1
    funext p
    simp
  omega
end
/-! ### sizes whose rows are all kept -/
/-- each row of ss is within M -/
def InM (f : Nat → Nat → Rat) (M : Rat) (ss : List Int) : Prop := ∀ j, j < ss.length → ¬ M < f (off ss j) (off ss (j + 1))
section
variable {f : Nat → Nat → Rat} {M : Rat} {ps : List (Int × Int)} {n : Nat} {B : Nat → Option Int} {ss : List Int}
theorem off_zero (ss : List Int) : off ss 0 = 0 := by simp [off]
theorem spot_mem (h : SOk ss n) {j : Nat} (hj : j < ss.length) : (((off ss j : Nat) : Int), ((off ss (j + 1) : Nat) : Int) - ((off ss j : Nat) : Int)) ∈ spotsM ss := by
  have e1 := h.off_int j
  have e2 := h.off_int (j + 1)
  rw [take_sum hj] at e2
  unfold spotsM
  refine List.mem_map.mpr ⟨j, List.mem_range.mpr hj, ?_⟩
  rw [e1, e2]
  refine Prod.ext rfl ?_
  show ss.getD j 0 = (ss.take j).sum + ss.getD j 0 - (ss.take j).sum
  omega
theorem own_zero (h : Bco f M ps n 0 B) (hS : SOk ss n) (hM : InM f M ss) (hp : ∀ p ∈ spotsM ss, p ∈ ps) : ∀ k, k ≤ ss.length → B (off ss (ss.length - k)) = some 0
  | 0, _ => by
    rw [Nat.sub_zero, hS.off_len]
    exact h.e
  | k + 1, hk => by
    have ih := own_zero h hS hM hp k (by omega)
    have hj : ss.length - (k + 1) < ss.length := by omega
    have e : ss.length - k = ss.length - (k + 1) + 1 := by omega
    have h1 := hS.off_succ hj
    have h2 := hS.getD hj
    have h3 := hS.off_le (ss.length - (k + 1) + 1)
    rw [e] at ih
    obtain ⟨c, h4, h5⟩ := h.le (off ss (ss.length - (k + 1))) (Nat.zero_le _) (by omega) (off ss (ss.length - (k + 1) + 1)) 0 (by omega) h3 (hM _ hj) ih
    have h6 := h.range n (off ss (ss.length - (k + 1))) (by omega) (by omega) c h4
    have h7 : cst ps (off ss (ss.length - (k + 1))) (off ss (ss.length - (k + 1) + 1)) = 0 := by
      unfold cst
      rw [if_pos (hp _ (spot_mem hS hj))]
    rw [h4]
    congr 1
    omega
/-- a kept row from a place of ss's own is ss's own -/
theorem spot_own (h : SOk ss n) {j : Nat} {e : Int} (hj : j < ss.length) (hm : (((off ss j : Nat) : Int), e - ((off ss j : Nat) : Int)) ∈ spotsM ss) : e = ((off ss (j + 1) : Nat) : Int) := by
  obtain ⟨i, hi⟩ := List.getElem?_of_mem hm
  obtain ⟨lt, eq⟩ := spots_get hi
  have e1 : ((off ss j : Nat) : Int) = (ss.take i).sum := congrArg Prod.fst eq
  have e2 : e - ((off ss j : Nat) : Int) = ss.getD i 0 := congrArg Prod.snd eq
  have q1 := h.off_int j
  have q2 := h.off_int (j + 1)
  rw [take_sum hj] at q2
  have ij : i = j := by
    rcases Nat.lt_trichotomy i j with z | z | z
    · have := take_mono h (i + 1) (j - (i + 1))
      rw [show i + 1 + (j - (i + 1)) = j by omega, take_sum lt] at this
      have := h.getD lt
      omega
    · exact z
    · have := take_mono h (j + 1) (i - (j + 1))
      rw [show j + 1 + (i - (j + 1)) = i by omega, take_sum hj] at this
      have := h.getD hj
      omega
  subst ij
  omega
theorem calm_own (h : Bco f M ps n 0 B) (hS : SOk ss n) (hM : InM f M ss) (hp : ∀ p, p ∈ ps ↔ p ∈ spotsM ss) : ∀ k, k ≤ ss.length → calmL f M ps B n (off ss (ss.length - k)) = ss.drop (ss.length - k)
  | 0, _ => by
    rw [Nat.sub_zero, hS.off_len, calmL_stop (by omega), List.drop_length]
  | k + 1, hk => by
    have ih := calm_own h hS hM hp k (by omega)
    have hj : ss.length - (k + 1) < ss.length := by omega
    have e : ss.length - k = ss.length - (k + 1) + 1 := by omega
    have h1 := hS.off_succ hj
    have h2 := hS.getD hj
    have h3 := hS.off_le (ss.length - (k + 1) + 1)
    have z0 := own_zero h hS hM (fun p hp' => (hp p).mpr hp') (k + 1) hk
    have z1 := own_zero h hS hM (fun p hp' => (hp p).mpr hp') k (by omega)
    rw [e] at ih z1
    generalize ss.length - (k + 1) = j at *
    have hhit := cEnd_hit (f := f) (M := M) (ps := ps) (B := B) (n := n) (b := off ss j) (n - (off ss j + 1)) (off ss j + 1) (Nat.le_refl _) (by omega) (h.cheap (by omega) z0)
    obtain ⟨k', q1, q2, q3⟩ := cheap_some hhit
    have hle := cEnd_le (f := f) (M := M) (ps := ps) (B := B) (n := n) (b := off ss j) (n - (off ss j + 1)) (off ss j + 1) (Nat.le_refl _) (by omega)
    have h6 := h.range n _ (by omega) hle k' q1
    have h7 := cst_01 ps (off ss j) (cEnd f M ps B n (off ss j) (off ss j + 1))
    rw [z0] at q3
    have q3 := Option.some.inj q3
    have h8 : cst ps (off ss j) (cEnd f M ps B n (off ss j) (off ss j + 1)) = 0 := by omega
    have h9 : (((off ss j : Nat) : Int), ((cEnd f M ps B n (off ss j) (off ss j + 1) : Nat) : Int) - ((off ss j : Nat) : Int)) ∈ ps := by
      unfold cst at h8
      split at h8
      · assumption
      · omega
    have h10 := spot_own hS hj ((hp _).mp h9)
    have h11 : cEnd f M ps B n (off ss j) (off ss j + 1) = off ss (j + 1) := by omega
    rw [calmL_go (by omega), h11, ih, List.drop_eq_getElem_cons hj]
    congr 1
    have h12 : ss.getD j 0 = ss[j] := by rw [List.getD_eq_getElem?_getD, List.getElem?_eq_getElem hj]; rfl
    rw [← h12]
    omega
theorem calm_own0 (h : Bco f M ps n 0 B) (hS : SOk ss n) (hM : InM f M ss) (hp : ∀ p, p ∈ ps ↔ p ∈ spotsM ss) : B 0 = some 0 ∧ calmL f M ps B n 0 = ss := by
  have h1 := own_zero h hS hM (fun p hp' => (hp p).mpr hp') ss.length (Nat.le_refl _)
  have h2 := calm_own h hS hM hp ss.length (Nat.le_refl _)
  rw [Nat.sub_self, off_zero] at h1 h2
  exact ⟨h1, h2⟩
end
theorem Al.erase {α : Type} {R : V → α → Prop} : ∀ {vs : List V} {xs : List α} (k : Nat), Al R vs xs → Al R (vs.eraseIdx k) (xs.eraseIdx k)
  | _, _, _, .nil => .nil
  | _, _, 0, .cons _ r => r
  | _, _, k + 1, .cons a r => .cons a (Al.erase k r)
theorem erase_perm {α : Type} : ∀ (l : List α) (k : Nat) (x : α), l[k]? = some x → (x :: l.eraseIdx k).Perm l
  | [], k, x, h => by simp at h
  | y :: r, 0, x, h => by
    simp only [List.getElem?_cons_zero, Option.some.injEq] at h
    rw [h]
    exact List.Perm.refl _
  | y :: r, k + 1, x, h => by
    rw [List.getElem?_cons_succ] at h
    exact (List.Perm.swap y x _).trans ((erase_perm r k x h).cons y)
theorem KOk.perm {n : Nat} {ps qs : List (Int × Int)} (h : KOk n qs) (p : ps.Perm qs) : KOk n ps :=
  ⟨fun x hx => h.r x (p.mem_iff.mp hx), p.symm.nodup h.u, by rw [p.length_eq]; exact h.l⟩
theorem KOk.nil {n : Nat} : KOk n [] := ⟨(fun x h => nomatch h), List.nodup_nil, Nat.zero_le _⟩
@[irreducible] def spMixedP (K : PySem.W.Frag) : Sp := fun vs H Q _ => ∃ (c a : Addr) (us : List V) (ps : List (Int × Int)), vs = [.ref c, .ref a] ∧ Bag H c ∧ H a = some (.lst us) ∧ a ≠ c ∧ us.length ≤ 60 ∧ Al (PiH H) us ps ∧ ∀ L ys qs H', H L = none → H' L = some (.lst ys) → Al (PiH H') ys qs → qs.Perm ps → Bag H' c → Kp c H H' → Q (.ref L) H'
theorem mixedP_step {K : PySem.W.Frag} {H : Hp} {Q : VK} {E : XK} {vs : List V} {c a : Addr} {us : List V} {ps : List (Int × Int)} (hb : Bag H c) (h : H a = some (.lst us)) (hne : a ≠ c) (hl : us.length ≤ 60) (hA : Al (PiH H) us ps) (q : ∀ L ys qs H', H L = none → H' L = some (.lst ys) → Al (PiH H') ys qs → qs.Perm ps → Bag H' c → Kp c H H' → Q (.ref L) H') (hvs : vs = [.ref c, .ref a] := by rfl) : spMixedP K vs H Q E := by
  unfold spMixedP
  exact ⟨c, a, us, ps, hvs, hb, h, hne, hl, hA, q⟩
theorem calmL_in {f : Nat → Nat → Rat} {M : Rat} {ps : List (Int × Int)} {n : Nat} {B : Nat → Option Int} (h : Bco f M ps n 0 B) : ∀ k b, n - b ≤ k → b ≤ n → (∃ c, B b = some c) → ∀ j, j < (calmL f M ps B n b).length → ∃ o e : Nat, (o : Int) = b + ((calmL f M ps B n b).take j).sum ∧ o < e ∧ e ≤ n ∧ (calmL f M ps B n b).getD j 0 = ((e - o : Nat) : Int) ∧ ¬ M < f o e
  | 0, b, hk, hb, _, j, hj => by
    rw [calmL_stop (by omega)] at hj
    exact absurd hj (by simp)
  | k + 1, b, hk, hb, ⟨c, hc⟩, j, hj => by
    by_cases z : b < n
    · have g1 := cEnd_ge (f := f) (M := M) (ps := ps) (B := B) (n := n) (b := b) (n - (b + 1)) (b + 1) (Nat.le_refl _)
      have g2 := cEnd_le (f := f) (M := M) (ps := ps) (B := B) (n := n) (b := b) (n - (b + 1)) (b + 1) (Nat.le_refl _) (by omega)
      obtain ⟨k', q1, q2, q3⟩ := cheap_some (cEnd_hit (f := f) (M := M) (ps := ps) (B := B) (n := n) (b := b) (n - (b + 1)) (b + 1) (Nat.le_refl _) (by omega) (h.cheap z hc))
      rw [calmL_go z] at hj ⊢
      rcases j with _ | j
      · exact ⟨b, cEnd f M ps B n b (b + 1), by simp, by omega, g2, by simp, q2⟩
      · obtain ⟨o, e, h1, h2, h3, h4, h5⟩ := calmL_in h k (cEnd f M ps B n b (b + 1)) (by omega) g2 ⟨k', q1⟩ j (by simpa using hj)
        refine ⟨o, e, ?_, h2, h3, by simpa using h4, h5⟩
        rw [h1, List.take_succ_cons, List.sum_cons]
        omega
    · rw [calmL_stop z] at hj
      exact absurd hj (by simp)
/-- the calm sizes are within the bound -/
theorem calm_inM {f : Nat → Nat → Rat} {M : Rat} {ps : List (Int × Int)} {n : Nat} {B : Nat → Option Int} (h : Bco f M ps n 0 B) {c : Int} (hc : B 0 = some c) : InM f M (calmL f M ps B n 0) := by
  intro j hj
  obtain ⟨o, e, h1, h2, h3, h4, h5⟩ := calmL_in h n 0 (by omega) (by omega) ⟨c, hc⟩ j hj
  have hS := calm_sok (f := f) (M := M) (ps := ps) (B := B) (n := n)
  have e1 : off (calmL f M ps B n 0) j = o := by
    unfold off
    omega
  have e2 : off (calmL f M ps B n 0) (j + 1) = e := by
    rw [hS.off_succ hj, e1, h4]
    omega
  rw [e1, e2]
  exact h5
/-- sizes are within each bound from their worst shape on -/
theorem worst_inM {bx : Bx} {ws ss : List Int} {d : Bool} {M : Rat} (hS : SOk ss ws.length) (hM : worstM bx ws ss d ≤ M) : InM (fSh bx ws d) M ss := by
  intro j hj
  have h1 : rowShape bx ws (off ss j) (ss.getD j 0).toNat d ≤ worstM bx ws ss d := by
    unfold worstM shapesM
    exact mostL_ge (List.mem_map.mpr ⟨j, List.mem_range.mpr hj, rfl⟩)
  unfold fSh
  rw [hS.off_succ hj, Nat.add_sub_cancel_left]
  exact Rat.not_lt.mpr (Rat.le_trans h1 hM)
end Cc
/-! XSho: numbers that are shown. -/
namespace Cc
open PySem PySem.Spec PyProof.Rows L2
/-- what a row leads to is as little as asked -/
def ledB : Option Int → Int → Option Int → Bool
  | none, _, _ => true
  | some _, _, none => false
  | some k, c, some k' => decide (k' ≤ k + c)
/-- L shows that no sizes cost less than its last one -/
def ShP (f : Nat → Nat → Rat) (M : Rat) (ps : List (Int × Int)) (n : Nat) (L : List (Option Int)) : Prop := L.length = n + 1 ∧ L.getD 0 none = some 0 ∧ ∀ i j, AllR n i j → ¬ M < f i j → ledB (L.getD i none) (cst ps i j) (L.getD j none) = true
@[irreducible] def spLed : Sp := fun vs H Q _ => ∃ (x y : Option Int) (c : Int), vs = [oV x, .int c, oV y] ∧ Q (.bl (ledB x c y)) H
@[irreducible] def spShown (K : PySem.W.Frag) : Sp := fun vs H Q _ => ∃ (v u : V) (a L T : Addr) (b : Bx) (ws : List Int) (M : Rat) (ps : List (Int × Int)) (xs : List (Option Int)) (d : Bool), vs = [v, .ref a, u, .ref L, .ref T, .str (sd d)] ∧ BxV K H v b ∧ b.Ok 450 ∧ IntsV K H a ws ∧ WOk ws ∧ PtV K H u M ∧ Sz 3900 M ∧ ¬ M < 1 ∧ SpH K H L ps ∧ KOk ws.length ps ∧ H T = some (.lst (xs.map oV)) ∧ xs.length ≤ 60 ∧ ∀ (k : Bool) H', Same H H' → (k = true ↔ ShP (fSh b ws d) M ps ws.length xs) → Q (.bl k) H'
@[irreducible] def spLShown (K : PySem.W.Frag) : Sp := fun vs H Q _ => ∃ (D L T : Addr) (n m : Nat) (u : V) (M : Rat) (f : Nat → Nat → Rat) (ps : List (Int × Int)) (xs : List (Option Int)), vs = [.ref D, .int n, u, .ref L, .ref T] ∧ DSh K n (AllR n) f m H D ∧ 1 ≤ n ∧ n ≤ 12 ∧ (∀ i j, AllR n i j → Sz 3900 (f i j)) ∧ PtV K H u M ∧ Sz 3900 M ∧ SpD K H L ps ∧ H T = some (.lst (xs.map oV)) ∧ ∀ (k : Bool) H', Same H H' → (k = true ↔ ShP f M ps n xs) → Q (.bl k) H'
section
variable {K : PySem.W.Frag} {H : Hp} {Q : VK} {E : XK} {vs : List V} {n m i j : Nat} {M : Rat} {ps : List (Int × Int)} {u v : V} {D T L a : Addr} {f : Nat → Nat → Rat} {ws : List Int} {b : Bx} {d : Bool} {xs : List (Option Int)}
theorem led_step (x y : Option Int) {c : Int} (q : Q (.bl (ledB x c y)) H) (hvs : vs = [oV x, .int c, oV y] := by rfl) : spLed vs H Q E := by
  unfold spLed
  exact ⟨x, y, c, hvs, q⟩
theorem shown_step (hv : BxV K H v b) (hb : b.Ok i) (hi : i ≤ 450) (h : IntsV K H a ws) (hw : WOk ws) (hu : PtV K H u M) (hz : Sz j M) (hj : j ≤ 3900) (h1 : ¬ M < 1) (hL : SpH K H L ps) (hk : KOk ws.length ps) (hT : H T = some (.lst (xs.map oV))) (hx : xs.length ≤ 60) (q : ∀ (k : Bool) H', Same H H' → (k = true ↔ ShP (fSh b ws d) M ps ws.length xs) → Q (.bl k) H') (hvs : vs = [v, .ref a, u, .ref L, .ref T, .str (sd d)] := by rfl) : spShown K vs H Q E := by
  unfold spShown
  exact ⟨v, u, a, L, T, b, ws, M, ps, xs, d, hvs, hv, hb.mono hi, h, hw, hu, hz.mono hj, h1, hL, hk, hT, hx, q⟩
theorem lshown_step (h : DSh K n (AllR n) f m H D) (h0 : 1 ≤ n) (hn : n ≤ 12) (hz : ∀ i j, AllR n i j → Sz 3900 (f i j)) (hu : PtV K H u M) (hM : Sz j M) (hj : j ≤ 3900) (hL : SpD K H L ps) (hT : H T = some (.lst (xs.map oV))) (q : ∀ (k : Bool) H', Same H H' → (k = true ↔ ShP f M ps n xs) → Q (.bl k) H') (hvs : vs = [.ref D, .int n, u, .ref L, .ref T] := by rfl) : spLShown K vs H Q E := by
  unfold spLShown
  exact ⟨D, L, T, n, m, u, M, f, ps, xs, hvs, h, h0, hn, hz, hu, hM.mono hj, hL, hT, q⟩
end
/-- what is asked of a row by its key -/
def ledK (xs : List (Option Int)) (ps : List (Int × Int)) : List Key → Bool
  | [.inl i, .inl j] => ledB (xs.getD i.toNat none) (cst ps i j) (xs.getD j.toNat none)
  | _ => true
theorem ledK_ky (xs : List (Option Int)) (ps : List (Int × Int)) (i j : Nat) : ledK xs ps (ky i j) = ledB (xs.getD i none) (cst ps i j) (xs.getD j none) := rfl
theorem valV_has {kvs : List (List Key × V)} {k : List Key} (h : valV kvs k = none) : ∀ kv ∈ kvs, kv.1 ≠ k := fun kv hm e => by
  have h1 := valV_any k kvs
  rw [h] at h1
  have h2 : (kvs.any fun kv => decide (kv.1 = k)) = true := List.any_eq_true.mpr ⟨kv, hm, decide_eq_true e⟩
  rw [h2] at h1
  cases h1
theorem all_ledK {n : Nat} {f : Nat → Nat → Rat} {M : Rat} {ps : List (Int × Int)} {xs : List (Option Int)} {kvs : List (List Key × V)} (h3 : ∀ kv ∈ kvs, ∃ i j, kv.1 = ky i j ∧ AllR n i j) (h4 : ∀ i j, AllR n i j → valV kvs (ky i j) = if M < f i j then none else some (.int (cst ps i j))) : (kvs.map fun kv => ledK xs ps kv.1).all id = true ↔ ∀ i j, AllR n i j → ¬ M < f i j → ledB (xs.getD i none) (cst ps i j) (xs.getD j none) = true := by
  rw [List.all_eq_true]
  constructor
  · intro h i j hij hM
    have h5 := h4 i j hij
    rw [if_neg hM] at h5
    obtain ⟨kv, h6, h7⟩ := valV_mem h5
    have h8 := h _ (List.mem_map.mpr ⟨kv, h6, rfl⟩)
    rw [h7, ledK_ky] at h8
    exact h8
  · intro h x hx
    obtain ⟨kv, h6, rfl⟩ := List.mem_map.mp hx
    obtain ⟨i, j, h7, h8⟩ := h3 kv h6
    show ledK xs ps kv.1 = true
    rw [h7, ledK_ky]
    refine h i j h8 fun hM => ?_
    have h5 := h4 i j h8
    rw [if_pos hM] at h5
    exact valV_has h5 kv h6 h7
@[irreducible] def spPickG : Sp := fun vs H Q _ => ∃ (c L : Addr) (xs : List V), vs = [.ref c, .ref L] ∧ Bag H c ∧ H L = some (.lst xs) ∧ L ≠ c ∧ 0 < xs.length ∧ xs.length ≤ 1000 ∧ ∀ v H', v ∈ xs → Bag H' c → KpG c H H' → Q v H'
theorem pickG_step {H : Hp} {Q : VK} {vs : List V} {E : XK} {c L : Addr} {xs : List V} (hb : Bag H c) (hL : H L = some (.lst xs)) (hne : L ≠ c) (h0 : 0 < xs.length) (h1 : xs.length ≤ 1000) (h : ∀ v H', v ∈ xs → Bag H' c → KpG c H H' → Q v H') (hvs : vs = [.ref c, .ref L] := by rfl) : spPickG vs H Q E := by
  unfold spPickG
  exact ⟨c, L, xs, hvs, hb, hL, hne, h0, h1, h⟩
theorem oD_lay : ∀ xs : List (Option Int), PyData.canLayAll0 (xs.map oD) = true ∧ PyData.depthAll (xs.map oD) = 0
  | [] => by simp [PyData.canLayAll0, PyData.depthAll]
  | none :: r => by simp [oD, PyData.canLayAll0, PyData.canLay0, PyData.depthAll, PyData.depth, oD_lay r]
  | some k :: r => by simp [oD, PyData.canLayAll0, PyData.canLay0, PyData.depthAll, PyData.depth, oD_lay r]
theorem oD_shaped (xs : List (Option Int)) : SeqAt.shaped (.list (xs.map oD)) = true := by
  have h := oD_lay xs
  show (PyData.canLay0 (.list (xs.map oD)) && decide (PyData.depth (.list (xs.map oD)) ≤ 64)) = true
  rw [Bool.and_eq_true]
  exact ⟨by simp only [PyData.canLay0]; exact h.1, decide_eq_true (by simp only [PyData.depth]; omega)⟩
theorem eqv_oD (xs : List (Option Int)) : PyData.eqv (.list (xs.map oD)) (.list (xs.map oD)) = true :=
  PySem.SeqAt.eqv_refl _ (by simp only [PyData.canLay0]; exact (oD_lay xs).1)
/-- a part of a list of numbers and Nones -/
theorem cutV_oV (xs : List (Option Int)) (lo hi : Option Int) : ∃ ys : List (Option Int), cutV (xs.map oV) lo hi = ys.map oV ∧ ys.length ≤ xs.length := by
  refine ⟨(xs.drop (HT.sIx (xs.map oV).length 0 lo)).take (HT.sIx (xs.map oV).length (xs.map oV).length hi - HT.sIx (xs.map oV).length 0 lo), ?_, ?_⟩
  · unfold cutV
    rw [List.map_take, List.map_drop]
  · rw [List.length_take, List.length_drop]
    omega
theorem oV_get {xs : List (Option Int)} {i : Nat} (h : i < xs.length) : (xs.map oV)[i]? = some (oV (xs.getD i none)) := by
  rw [List.getElem?_map, List.getD_eq_getElem?_getD, List.getElem?_eq_getElem h]
  rfl
theorem oV_inj {x y : Option Int} (h : oV x = oV y) : x = y := by
  cases x with
  | none => cases y with
    | none => rfl
    | some _ => cases h
  | some a => cases y with
    | none => cases h
    | some c =>
      injection h with h
      rw [h]
theorem oV_set (xs : List (Option Int)) (j : Nat) (y : Option Int) : (xs.map oV).set j (oV y) = (xs.set j y).map oV := by
  rw [List.map_set]
/-- the law's some: a list of numbers and Nones, the bag, and what is as it was -/
def SmK (m : Nat) (b : Addr) (G H : Hp) (S : Addr) : Prop := Bag H b ∧ Kp b G H ∧ S ≠ b ∧ ∃ xs : List (Option Int), xs.length ≤ m ∧ H S = some (.lst (xs.map oV))
/-- the least costs forwards: L for all places to n -/
structure Fco (f : Nat → Nat → Rat) (M : Rat) (ps : List (Int × Int)) (n : Nat) (L : List (Option Int)) : Prop where
  l : L.length = n + 1
  o : L.getD 0 none = some 0
  hit : ∀ e, 0 < e → e ≤ n → ∀ k, L.getD e none = some k → ∃ b k', b < e ∧ ¬ M < f b e ∧ L.getD b none = some k' ∧ k = k' + cst ps b e
  le : ∀ b e, b < e → e ≤ n → ¬ M < f b e → ∀ k', L.getD b none = some k' → ∃ k, L.getD e none = some k ∧ k ≤ k' + cst ps b e
section
variable {f : Nat → Nat → Rat} {M : Rat} {ps : List (Int × Int)} {n : Nat} {L : List (Option Int)}
theorem minO_mem : ∀ {ns : List Int} {m : Int}, minO ns = some m → m ∈ ns ∧ ∀ y ∈ ns, m ≤ y
  | [], m, h => nomatch h
  | a :: r, m, h => by
    have h : some (r.foldl min a) = some m := h
    injection h with h
    subst h
    have e1 := foldl_min_le r a
    have e2 := foldl_min_mem r a
    refine ⟨?_, fun y hy => ?_⟩
    · rcases e2 with z | z
      · rw [z]
        exact List.mem_cons_self
      · exact List.mem_cons_of_mem _ z
    · rcases List.mem_cons.mp hy with rfl | z
      · exact e1.1
      · exact e1.2 y z
theorem getD_app_l {α : Type} {L : List α} {x d : α} {i : Nat} (h : i < L.length) : (L ++ [x]).getD i d = L.getD i d := by
  rw [List.getD_eq_getElem?_getD, List.getD_eq_getElem?_getD, List.getElem?_append_left h]
theorem getD_app_r {α : Type} {L : List α} {x d : α} : (L ++ [x]).getD L.length d = x := by
  rw [List.getD_eq_getElem?_getD, List.getElem?_append_right (Nat.le_refl _), Nat.sub_self]
  rfl
theorem lead_mem {e k b : Nat} (h : b < k) (hl : lead f M L e b = true) : b ∈ leads f M L e k := by
  unfold leads
  exact List.mem_filter.mpr ⟨List.mem_range.mpr h, hl⟩
theorem numL_fco : ∀ n, Fco f M ps n (numL f M ps n)
  | 0 => ⟨rfl, rfl, fun e h1 h2 => absurd h1 (by omega), fun b e h1 h2 => absurd h1 (by omega)⟩
  | n + 1 => by
    have ih := numL_fco n
    obtain ⟨L, hL⟩ : ∃ L, L = numL f M ps n := ⟨_, rfl⟩
    have e : numL f M ps (n + 1) = L ++ [minO (valsN f M ps L (n + 1) (n + 1))] := by rw [hL]; rfl
    rw [e]
    rw [← hL] at ih
    have ll := ih.l
    have lft : ∀ i, i ≤ n → (L ++ [minO (valsN f M ps L (n + 1) (n + 1))]).getD i none = L.getD i none := fun i hi => getD_app_l (by omega)
    have rgt : (L ++ [minO (valsN f M ps L (n + 1) (n + 1))]).getD (n + 1) none = minO (valsN f M ps L (n + 1) (n + 1)) := by
      rw [← ll]
      exact getD_app_r
    refine ⟨by rw [List.length_append, ll]; rfl, by rw [lft 0 (by omega)]; exact ih.o, fun e h1 h2 k hk => ?_, fun b e h1 h2 hM k' hk' => ?_⟩
    · by_cases z : e = n + 1
      · subst z
        rw [rgt] at hk
        obtain ⟨h3, _⟩ := minO_mem hk
        unfold valsN at h3
        obtain ⟨b, h4, h5⟩ := List.mem_map.mp h3
        obtain ⟨h6, h7⟩ := leads_mem h4
        unfold lead at h7
        rw [Bool.and_eq_true] at h7
        cases hb : L.getD b none with
        | none =>
          rw [hb] at h7
          cases h7.1
        | some x =>
          refine ⟨b, x, h6, fun z => ?_, by rw [lft b (by omega)]; exact hb, ?_⟩
          · have := h7.2
            rw [decide_eq_true z] at this
            cases this
          · rw [← h5]
            unfold valN
            rw [hb]
            rfl
      · rw [lft e (by omega)] at hk
        obtain ⟨b, k', g1, g2, g3, g4⟩ := ih.hit e h1 (by omega) k hk
        exact ⟨b, k', g1, g2, by rw [lft b (by omega)]; exact g3, g4⟩
    · rw [lft b (by omega)] at hk'
      by_cases z : e = n + 1
      · subst z
        rw [rgt]
        have hl : lead f M L (n + 1) b = true := by
          unfold lead
          rw [hk', decide_eq_false hM]
          rfl
        have hm : valN ps L (n + 1) b ∈ valsN f M ps L (n + 1) (n + 1) := List.mem_map.mpr ⟨b, lead_mem h1 hl, rfl⟩
        have hv : valN ps L (n + 1) b = k' + cst ps b ((n + 1 : Nat) : Int) := by
          unfold valN
          rw [hk']
          rfl
        cases hmn : minO (valsN f M ps L (n + 1) (n + 1)) with
        | none =>
          cases hv2 : valsN f M ps L (n + 1) (n + 1) with
          | nil =>
            rw [hv2] at hm
            cases hm
          | cons a r =>
            rw [hv2] at hmn
            cases hmn
        | some x =>
          obtain ⟨_, h4⟩ := minO_mem hmn
          have h5 := h4 _ hm
          rw [hv] at h5
          exact ⟨x, rfl, h5⟩
      · obtain ⟨k, g1, g2⟩ := ih.le b e h1 (by omega) hM k' hk'
        exact ⟨k, by rw [lft e (by omega)]; exact g1, g2⟩
theorem Fco.led (h : Fco f M ps n L) {i j : Nat} (hij : AllR n i j) (hM : ¬ M < f i j) : ledB (L.getD i none) (cst ps i j) (L.getD j none) = true := by
  cases hk : L.getD i none with
  | none => rfl
  | some k' =>
    obtain ⟨k, g1, g2⟩ := h.le i j hij.1 hij.2 hM k' hk
    rw [g1]
    exact decide_eq_true g2
theorem Fco.shp (h : Fco f M ps n L) : ShP f M ps n L := ⟨h.l, h.o, fun i j hij hM => h.led hij hM⟩
end
theorem iteND {c A B : Prop} [Decidable c] (hc : ¬ c) (h : A) : if (!decide c) = true then A else B := by
  rw [decide_eq_false hc]
  exact iteT h
theorem isKeys_at {H : Hp} : ∀ {kvs : List (List Key × V)} {bs : List Addr} {i : Nat} {b : Addr}, IsKeys H kvs bs → bs[i]? = some b → ∃ kv, kvs[i]? = some kv ∧ H b = some (.tup (kv.1.map kV)) := by
  intro kvs bs i b hp
  unfold IsKeys at hp
  induction hp generalizing i with
  | nil => intro h; simp at h
  | cons h t ih =>
    cases i with
    | zero =>
      intro e
      simp only [List.getElem?_cons_zero, Option.some.injEq] at e
      subst e
      exact ⟨_, rfl, h⟩
    | succ i =>
      intro e
      rw [List.getElem?_cons_succ] at e ⊢
      exact ih e
end Cc
/-! XObe: numbers forwards and backwards; obeyed; calm by the law's own way, with any kept rows. -/
namespace Cc
open PySem PySem.Spec PyProof.Rows L2
section
variable {f : Nat → Nat → Rat} {M : Rat} {ps : List (Int × Int)} {n : Nat} {L : List (Option Int)} {B : Nat → Option Int}
theorem Fco.to (hF : Fco f M ps n L) (hB : Bco f M ps n 0 B) : ∀ k b, n - b ≤ k → b ≤ n → ∀ x y, L.getD b none = some x → B b = some y → ∃ z, L.getD n none = some z ∧ z ≤ x + y := by
  intro k
  induction k with
  | zero =>
    intro b hk hb x y h1 h2
    obtain rfl : b = n := by omega
    rw [hB.e] at h2
    injection h2 with h2
    exact ⟨x, h1, by omega⟩
  | succ k ih =>
    intro b hk hb x y h1 h2
    by_cases z : b = n
    · subst z
      rw [hB.e] at h2
      injection h2 with h2
      exact ⟨x, h1, by omega⟩
    · obtain ⟨e, k', g1, g2, g3, g4, g5⟩ := hB.hit b (Nat.zero_le _) (by omega) y h2
      obtain ⟨w, g6, g7⟩ := hF.le b e g1 g2 g3 x h1
      obtain ⟨u, g8, g9⟩ := ih e (by omega) g2 w k' g6 g4
      exact ⟨u, g8, by omega⟩
theorem Fco.back (hF : Fco f M ps n L) (hB : Bco f M ps n 0 B) : ∀ k b, b ≤ k → b ≤ n → ∀ x y, L.getD b none = some x → B b = some y → ∃ w, B 0 = some w ∧ w ≤ x + y := by
  intro k
  induction k with
  | zero =>
    intro b hk hb x y h1 h2
    obtain rfl : b = 0 := by omega
    rw [hF.o] at h1
    injection h1 with h1
    exact ⟨y, h2, by omega⟩
  | succ k ih =>
    intro b hk hb x y h1 h2
    by_cases z : b = 0
    · subst z
      rw [hF.o] at h1
      injection h1 with h1
      exact ⟨y, h2, by omega⟩
    · obtain ⟨b', k', g1, g2, g3, g4⟩ := hF.hit b (by omega) hb x h1
      obtain ⟨w, g6, g7⟩ := hB.le b' (Nat.zero_le _) (by omega) b y g1 hb g2 h2
      obtain ⟨u, g8, g9⟩ := ih b' (by omega) (by omega) k' w g3 g6
      exact ⟨u, g8, by omega⟩
/-- the last number is what calm sizes cost -/
theorem Fco.last (hF : Fco f M ps n L) (hB : Bco f M ps n 0 B) : L.getD n none = B 0 := by
  cases h0 : B 0 with
  | some k =>
    obtain ⟨z, h1, h2⟩ := hF.to hB n 0 (by omega) (by omega) 0 k hF.o h0
    obtain ⟨w, h3, h4⟩ := hF.back hB n n (by omega) (by omega) z 0 h1 hB.e
    rw [h0] at h3
    injection h3 with h3
    rw [h1]
    congr 1
    omega
  | none =>
    cases hn : L.getD n none with
    | none => rfl
    | some z =>
      obtain ⟨w, h3, h4⟩ := hF.back hB n n (by omega) (by omega) z 0 hn hB.e
      rw [h0] at h3
      cases h3
/-! ### how many rows of sizes are none of the kept ones -/
def outs (ps : List (Int × Int)) (ss : List Int) : List (Int × Int) := (spotsM ss).filter fun p => !decide (p ∈ ps)
theorem spots_cons_from (ss : List Int) : spotsM ss = (List.range ss.length).map fun j => (((ss.take j).sum), ss.getD j 0) := rfl
/-- what sizes cost from their row j on -/
def costFrom (ps : List (Int × Int)) (ss : List Int) : Nat → Nat → Int
  | 0, _ => 0
  | k + 1, j => cst ps (off ss j : Nat) (off ss (j + 1) : Nat) + costFrom ps ss k (j + 1)
theorem off_cast {ss : List Int} {n j : Nat} (h : SOk ss n) (hj : j < ss.length) : ((off ss j : Nat) : Int) = (ss.take j).sum ∧ ((off ss (j + 1) : Nat) : Int) - (off ss j : Nat) = ss.getD j 0 := by
  have h1 := h.off_int j
  have h2 := h.off_int (j + 1)
  have h4 : (ss.take (j + 1)).sum = (ss.take j).sum + ss.getD j 0 := take_sum hj
  exact ⟨h1, by omega⟩
theorem outs_cost {ss : List Int} {n : Nat} (h : SOk ss n) : ∀ k, k ≤ ss.length → (((spotsM ss).drop (ss.length - k)).filter fun p => !decide (p ∈ ps)).length = costFrom ps ss k (ss.length - k) := by
  intro k
  induction k with
  | zero =>
    intro hk
    have : (spotsM ss).drop (ss.length - 0) = [] := List.drop_of_length_le (by rw [spots_len]; omega)
    rw [this]
    rfl
  | succ k ih =>
    intro hk
    have hlt : ss.length - (k + 1) < ss.length := by omega
    have e1 : ss.length - (k + 1) + 1 = ss.length - k := by omega
    have hg : (spotsM ss)[ss.length - (k + 1)]? = some ((ss.take (ss.length - (k + 1))).sum, ss.getD (ss.length - (k + 1)) 0) := by
      unfold spotsM
      rw [List.getElem?_map, List.getElem?_range hlt]
      rfl
    obtain ⟨o1, o2⟩ := off_cast h hlt
    have hd : (spotsM ss).drop (ss.length - (k + 1)) = ((ss.take (ss.length - (k + 1))).sum, ss.getD (ss.length - (k + 1)) 0) :: (spotsM ss).drop (ss.length - k) := by
      have hl : ss.length - (k + 1) < (spotsM ss).length := by rw [spots_len]; exact hlt
      rw [List.drop_eq_getElem_cons hl, e1]
      congr 1
      have := List.getElem?_eq_some_iff.mp hg
      exact this.2
    rw [hd, List.filter_cons]
    have ih := ih (by omega)
    show _ = cst ps _ _ + costFrom ps ss k _
    rw [e1, ← ih]
    have ec : cst ps ((off ss (ss.length - (k + 1)) : Nat) : Int) ((off ss (ss.length - k) : Nat) : Int) = if ((ss.take (ss.length - (k + 1))).sum, ss.getD (ss.length - (k + 1)) 0) ∈ ps then 0 else 1 := by
      rw [e1] at o2
      unfold cst
      rw [o2, o1]
    rw [ec]
    by_cases c : ((ss.take (ss.length - (k + 1))).sum, ss.getD (ss.length - (k + 1)) 0) ∈ ps
    · rw [if_pos c, decide_eq_true c]
      simp
    · rw [if_neg c, decide_eq_false c]
      simp
      omega
theorem outs_all {ss : List Int} (h : SOk ss n) : ((outs ps ss).length : Int) = costFrom ps ss ss.length 0 := by
  have := outs_cost (ps := ps) h ss.length (Nat.le_refl _)
  rw [Nat.sub_self, List.drop_zero] at this
  exact this
/-- no sizes within M cost less -/
theorem Bco.low (hB : Bco f M ps n 0 B) {ss : List Int} (hS : SOk ss n) (hM : InM f M ss) : ∀ k, k ≤ ss.length → ∃ c, B (off ss (ss.length - k)) = some c ∧ c ≤ costFrom ps ss k (ss.length - k) := by
  intro k
  induction k with
  | zero =>
    intro hk
    exact ⟨0, by rw [Nat.sub_zero, hS.off_len]; exact hB.e, Int.le_refl _⟩
  | succ k ih =>
    intro hk
    obtain ⟨c, h1, h2⟩ := ih (by omega)
    have hlt : ss.length - (k + 1) < ss.length := by omega
    have e1 : ss.length - (k + 1) + 1 = ss.length - k := by omega
    have hm := hM _ hlt
    rw [e1] at hm
    have hle := hS.off_le (ss.length - k)
    have hlt2 : off ss (ss.length - (k + 1)) < off ss (ss.length - k) := by
      have g1 := hS.off_succ hlt
      rw [e1] at g1
      have g2 := hS.w (ss.getD (ss.length - (k + 1)) 0) (by rw [List.getD_eq_getElem?_getD, List.getElem?_eq_getElem hlt]; exact List.getElem_mem hlt)
      omega
    obtain ⟨c', h3, h4⟩ := hB.le _ (Nat.zero_le _) (by omega) _ c hlt2 hle hm h1
    refine ⟨c', h3, ?_⟩
    show c' ≤ cst ps _ _ + costFrom ps ss k _
    rw [e1]
    omega
theorem Bco.least (hB : Bco f M ps n 0 B) {ss : List Int} (hS : SOk ss n) (hM : InM f M ss) : ∃ c, B 0 = some c ∧ c ≤ ((outs ps ss).length : Int) := by
  obtain ⟨c, h1, h2⟩ := hB.low hS hM ss.length (Nat.le_refl _)
  rw [Nat.sub_self, off_zero] at h1
  rw [Nat.sub_self] at h2
  exact ⟨c, h1, by rw [outs_all hS]; exact h2⟩
def costAt (ps : List (Int × Int)) : Int → List Int → Int
  | _, [] => 0
  | b, x :: r => cst ps b (b + x) + costAt ps (b + x) r
def spotsFrom : Int → List Int → List (Int × Int)
  | _, [] => []
  | b, x :: r => (b, x) :: spotsFrom (b + x) r
theorem spots_from : ∀ (ss : List Int) (b : Int), ((List.range ss.length).map fun i => (b + (ss.take i).sum, ss.getD i 0)) = spotsFrom b ss
  | [], _ => rfl
  | x :: r, b => by
    rw [List.length_cons, List.range_succ_eq_map, List.map_cons, List.map_map, spotsFrom, ← spots_from r (b + x)]
    congr 1
    · simp
    · refine List.map_congr_left fun i _ => ?_
      show (b + ((x :: r).take (i + 1)).sum, (x :: r).getD (i + 1) 0) = _
      rw [List.take_succ_cons, List.sum_cons, List.getD_cons_succ, Int.add_assoc]
theorem outs_at (ps : List (Int × Int)) : ∀ (ss : List Int) (b : Int), (((spotsFrom b ss).filter fun p => !decide (p ∈ ps)).length : Int) = costAt ps b ss
  | [], _ => rfl
  | x :: r, b => by
    have ih := outs_at ps r (b + x)
    rw [spotsFrom, costAt, List.filter_cons, ← ih]
    unfold cst
    rw [show b + x - b = x by omega]
    by_cases c : (b, x) ∈ ps
    · rw [if_pos c, decide_eq_true c]
      simp
    · rw [if_neg c, decide_eq_false c]
      simp
      omega
theorem outs_len (ps : List (Int × Int)) (ss : List Int) : ((outs ps ss).length : Int) = costAt ps 0 ss := by
  have h := spots_from ss 0
  have h2 : spotsM ss = spotsFrom 0 ss := by
    rw [← h]
    unfold spotsM
    refine List.map_congr_left fun i _ => ?_
    rw [Int.zero_add]
  unfold outs
  rw [h2]
  exact outs_at ps ss 0
theorem calm_cost (hB : Bco f M ps n 0 B) : ∀ k b, n - b ≤ k → b ≤ n → ∀ c, B b = some c → costAt ps b (calmL f M ps B n b) = c := by
  intro k
  induction k with
  | zero =>
    intro b hk hb c hc
    obtain rfl : b = n := by omega
    rw [calmL_stop (by omega)]
    rw [hB.e] at hc
    injection hc with hc
  | succ k ih =>
    intro b hk hb c hc
    by_cases z : b = n
    · subst z
      rw [calmL_stop (by omega)]
      rw [hB.e] at hc
      injection hc with hc
    · have hlt : b < n := by omega
      obtain ⟨e, h1, h2, h3⟩ := hB.cheap hlt hc
      have h4 := cEnd_hit (f := f) (M := M) (ps := ps) (B := B) (n := n) (b := b) (n - (b + 1)) (b + 1) (Nat.le_refl _) (by omega) ⟨e, h1, h2, h3⟩
      have h5 := cEnd_ge (f := f) (M := M) (ps := ps) (B := B) (n := n) (b := b) (n - (b + 1)) (b + 1) (Nat.le_refl _)
      have h6 := cEnd_le (f := f) (M := M) (ps := ps) (B := B) (n := n) (b := b) (n - (b + 1)) (b + 1) (Nat.le_refl _) (by omega)
      rw [calmL_go hlt]
      generalize cEnd f M ps B n b (b + 1) = e' at *
      obtain ⟨k', g1, g2, g3⟩ := cheap_some h4
      rw [hc] at g3
      injection g3 with g3
      rw [costAt, show (b : Int) + ((e' - b : Nat) : Int) = (e' : Int) by omega, ih e' (by omega) h6 k' g1]
      omega
/-- the calm sizes' rows that are none of the kept ones -/
theorem calm_outs (hB : Bco f M ps n 0 B) {c : Int} (hc : B 0 = some c) : ((outs ps (calmL f M ps B n 0)).length : Int) = c := by
  rw [outs_len]
  exact calm_cost hB n 0 (by omega) (by omega) c hc
/-! ### what leads on, with any kept rows -/
theorem cEnd_min {b : Nat} : ∀ k e, n - e ≤ k → ∀ e', e ≤ e' → cheap f M ps B b e' = true → cEnd f M ps B n b e ≤ e' := by
  intro k
  induction k with
  | zero =>
    intro e hk e' h1 h2
    rw [cEnd_stop (by omega)]
    exact h1
  | succ k ih =>
    intro e hk e' h1 h2
    by_cases c : e < n ∧ cheap f M ps B b e = false
    · rw [cEnd_go c]
      refine ih (e + 1) (by omega) e' ?_ h2
      by_cases z : e' = e
      · rw [z, c.2] at h2
        cases h2
      · omega
    · rw [cEnd_stop c]
      exact h1
def onB (f : Nat → Nat → Rat) (M : Rat) (B : Nat → Option Int) (b k : Nat) : List Nat := ((List.range k).map fun i => b + 1 + i).filter fun e => (B e).isSome && !decide (M < f b e)
theorem onB_succ (b k : Nat) : onB f M B b (k + 1) = onB f M B b k ++ (if ((B (b + 1 + k)).isSome && !decide (M < f b (b + 1 + k))) = true then [b + 1 + k] else []) := by
  unfold onB
  rw [List.range_succ, List.map_append, List.filter_append]
  congr 1
  cases h : ((B (b + 1 + k)).isSome && !decide (M < f b (b + 1 + k))) <;> simp [h]
theorem onB_mem {b k e : Nat} : e ∈ onB f M B b k ↔ (b + 1 ≤ e ∧ e < b + 1 + k) ∧ ((B e).isSome && !decide (M < f b e)) = true := by
  unfold onB
  rw [List.mem_filter, List.mem_map]
  constructor
  · rintro ⟨⟨i, hi, rfl⟩, h⟩
    have := List.mem_range.mp hi
    exact ⟨⟨by omega, by omega⟩, h⟩
  · rintro ⟨⟨h1, h2⟩, h⟩
    exact ⟨⟨e - (b + 1), List.mem_range.mpr (by omega), by omega⟩, h⟩
theorem onB_len {b k : Nat} : (onB f M B b k).length ≤ k := by
  unfold onB
  refine Nat.le_trans (List.length_filter_le _ _) ?_
  rw [List.length_map, List.length_range]
  exact Nat.le_refl _
theorem lead_iff {b e : Nat} : ((B e).isSome && !decide (M < f b e)) = true ↔ ∃ w, B e = some w ∧ ¬ M < f b e := by
  rw [Bool.and_eq_true]
  constructor
  · rintro ⟨h1, h2⟩
    cases hB : B e with
    | none =>
      rw [hB] at h1
      cases h1
    | some w =>
      refine ⟨w, rfl, fun z => ?_⟩
      rw [decide_eq_true z] at h2
      cases h2
  · rintro ⟨w, h1, h2⟩
    rw [h1, decide_eq_false h2]
    exact ⟨rfl, rfl⟩
theorem onB_nil (hB : Bco f M ps n 0 B) {b : Nat} (hb : b < n) : onB f M B b (n - b) = [] ↔ B b = none := by
  constructor
  · intro h
    cases hc : B b with
    | none => rfl
    | some c =>
      obtain ⟨e, k', g1, g2, g3, g4, g5⟩ := hB.hit b (Nat.zero_le _) hb c hc
      have : e ∈ onB f M B b (n - b) := onB_mem.mpr ⟨⟨g1, by omega⟩, lead_iff.mpr ⟨k', g4, g3⟩⟩
      rw [h] at this
      cases this
  · intro h
    rcases he : onB f M B b (n - b) with _ | ⟨e, r⟩
    · rfl
    · obtain ⟨h1, h2⟩ := onB_mem.mp (show e ∈ onB f M B b (n - b) by rw [he]; exact List.mem_cons_self)
      obtain ⟨w, g1, g2⟩ := lead_iff.mp h2
      obtain ⟨k, g3, _⟩ := hB.le b (Nat.zero_le _) hb e w (by omega) (by omega) g2 g1
      rw [h] at g3
      cases g3
end
theorem sD_ltI {c c' : Int} {ss ts : List Int} (h : c ≠ c') : PySem.W.dataLt (sD c ss) (sD c' ts) = decide (c < c') := by
  unfold sD
  rw [PySem.W.dataLt_tuple, PySem.W.dataLt_all_no (by simp [PySem.W.alike]) (by simp [PyData.eqv]; omega), PySem.W.dataLt_int]
theorem sD_ltS {c : Int} {i j : Int} {ss ts : List Int} (h : i < j) : PySem.W.dataLt (sD c (i :: ss)) (sD c (j :: ts)) = true := by
  unfold sD
  rw [PySem.W.dataLt_tuple, PySem.W.dataLt_all_yes (by simp [PySem.W.alike]) (by simp [PyData.eqv]), PySem.W.dataLt_all_no (by simp only [PySem.W.alike]; exact alikeI) (by simp only [List.map_cons, PyData.eqv, PyData.eqvAll, Bool.and_eq_false_iff]; left; simp; omega), PySem.W.dataLt_tuple, List.map_cons, List.map_cons, PySem.W.dataLt_all_no (by simp [PySem.W.alike]) (by simp [PyData.eqv]; omega), PySem.W.dataLt_int]
  simp
  omega
theorem minD_least {x0 : PyData} : ∀ {xs : List PyData} {x : PyData}, x0 ∈ x :: xs → (∀ y ∈ x :: xs, y ≠ x0 → PySem.W.dataLt y x0 = false ∧ PySem.W.dataLt x0 y = true) → PySem.W.dataLt x0 x0 = false → PySem.W.minD x xs = x0 := by
  intro xs
  induction xs with
  | nil =>
    intro x h _ _
    rw [List.mem_singleton.mp h]
    rfl
  | cons y r ih =>
    intro x h hl hs
    show PySem.W.minD (if PySem.W.dataLt y x = true then y else x) r = x0
    have key : ∀ z, z = x ∨ z = y → x0 ∈ z :: r → PySem.W.minD z r = x0 := fun z hz hm => ih hm (fun w hw hne => hl w (by
      rcases List.mem_cons.mp hw with rfl | hw
      · rcases hz with rfl | rfl
        · exact List.mem_cons_self
        · exact List.mem_cons_of_mem _ List.mem_cons_self
      · exact List.mem_cons_of_mem _ (List.mem_cons_of_mem _ hw)) hne) hs
    by_cases hr : x0 ∈ r
    · by_cases c : PySem.W.dataLt y x = true
      · rw [if_pos c]
        exact key y (.inr rfl) (List.mem_cons_of_mem _ hr)
      · rw [if_neg c]
        exact key x (.inl rfl) (List.mem_cons_of_mem _ hr)
    · by_cases hx : x = x0
      · subst hx
        have c : ¬ PySem.W.dataLt y x = true := fun c => by
          by_cases e : y = x
          · rw [e, hs] at c
            cases c
          · rw [(hl y (List.mem_cons_of_mem _ List.mem_cons_self) e).1] at c
            cases c
        rw [if_neg c]
        exact key x (.inl rfl) List.mem_cons_self
      · have hy : y = x0 := by
          rcases List.mem_cons.mp h with h | h
          · exact absurd h.symm hx
          · rcases List.mem_cons.mp h with h | h
            · exact h.symm
            · exact absurd h hr
        subst hy
        rw [if_pos (hl x List.mem_cons_self hx).2]
        exact key y (.inr rfl) List.mem_cons_self
section
variable {K : PySem.W.Frag} {H : Hp} {C : Nat → Int} {F : Nat → List Int}
theorem cdAllC : ∀ {cs : List V} {es : List Nat}, Al (fun v e => CD K H v (C e) (F e)) cs es → DpAll K H cs (es.map fun e => sD (C e) (F e))
  | _, _, .nil => .nil
  | _, _, .cons a r => .cons a.dp (cdAllC r)
theorem sDsC_ok : ∀ es : List Nat, PyData.canLayAll0 (es.map fun e => sD (C e) (F e)) = true ∧ PyData.depthAll (es.map fun e => sD (C e) (F e)) ≤ 3
  | [] => by simp [PyData.canLayAll0, PyData.depthAll]
  | z :: zs => by
    have h := sDsC_ok zs
    have h2 := sD_depth (c := C z) (ss := F z)
    refine ⟨by simp [PyData.canLayAll0, sD_lay, h.1], ?_⟩
    simp only [List.map_cons, PyData.depthAll]
    have := h.2
    omega
theorem sDsC_shaped (es : List Nat) : SeqAt.shaped (.list (es.map fun e => sD (C e) (F e))) = true := by
  have h := sDsC_ok (C := C) (F := F) es
  show (PyData.canLay0 (.list (es.map fun e => sD (C e) (F e))) && decide (PyData.depth (.list (es.map fun e => sD (C e) (F e))) ≤ 64)) = true
  rw [Bool.and_eq_true]
  exact ⟨by simp only [PyData.canLay0]; exact h.1, decide_eq_true (by simp only [PyData.depth]; omega)⟩
theorem sDsC_alike (es : List Nat) : PySem.W.AlikeAll (es.map fun e => sD (C e) (F e)) := by
  refine ⟨fun x hx y hy => ?_, fun x hx => ?_⟩
  · obtain ⟨a, _, rfl⟩ := List.mem_map.mp hx
    obtain ⟨b, _, rfl⟩ := List.mem_map.mp hy
    exact sD_alike
  · obtain ⟨a, _, rfl⟩ := List.mem_map.mp hx
    simp [sD]
end
section
variable {f : Nat → Nat → Rat} {M : Rat} {ps : List (Int × Int)} {n : Nat} {B : Nat → Option Int}
/-- the least of what leads on from b -/
theorem onB_min (hB : Bco f M ps n 0 B) {b : Nat} (hb : b < n) {k : Int} (hk : B b = some k) {e0 : Nat} {r : List Nat} (he : onB f M B b (n - b) = e0 :: r) :
    PySem.W.minD (sD (cst ps b e0 + (B e0).getD 0) (((e0 - b : Nat) : Int) :: calmL f M ps B n e0)) (r.map fun e : Nat => sD (cst ps b e + (B e).getD 0) (((e - b : Nat) : Int) :: calmL f M ps B n e)) = sD k (calmL f M ps B n b) := by
  obtain ⟨e1, h1, h2, h3⟩ := hB.cheap hb hk
  have h4 := cEnd_hit (f := f) (M := M) (ps := ps) (B := B) (n := n) (b := b) (n - (b + 1)) (b + 1) (Nat.le_refl _) (by omega) ⟨e1, h1, h2, h3⟩
  have h5 := cEnd_ge (f := f) (M := M) (ps := ps) (B := B) (n := n) (b := b) (n - (b + 1)) (b + 1) (Nat.le_refl _)
  have h6 := cEnd_le (f := f) (M := M) (ps := ps) (B := B) (n := n) (b := b) (n - (b + 1)) (b + 1) (Nat.le_refl _) (by omega)
  have h7 := fun e' => cEnd_min (f := f) (M := M) (ps := ps) (B := B) (n := n) (b := b) (n - (b + 1)) (b + 1) (Nat.le_refl _) e'
  rw [calmL_go hb]
  generalize cEnd f M ps B n b (b + 1) = e at *
  obtain ⟨k', g1, g2, g3⟩ := cheap_some h4
  rw [hk] at g3
  injection g3 with g3
  have hv : k = cst ps b e + (B e).getD 0 := by rw [g1]; exact g3
  have hm : e ∈ e0 :: r := by
    rw [← he]
    exact onB_mem.mpr ⟨⟨h5, by omega⟩, lead_iff.mpr ⟨k', g1, g2⟩⟩
  refine minD_least (x0 := sD k (((e - b : Nat) : Int) :: calmL f M ps B n e)) ?_ ?_ ?_
  · rw [← List.map_cons (f := fun e : Nat => sD (cst ps b e + (B e).getD 0) (((e - b : Nat) : Int) :: calmL f M ps B n e))]
    refine List.mem_map.mpr ⟨e, hm, ?_⟩
    rw [hv]
  · rw [← List.map_cons (f := fun e : Nat => sD (cst ps b e + (B e).getD 0) (((e - b : Nat) : Int) :: calmL f M ps B n e))]
    intro y hy hne
    obtain ⟨e', hm', rfl⟩ := List.mem_map.mp hy
    rw [← he] at hm'
    obtain ⟨q1, q2⟩ := onB_mem.mp hm'
    obtain ⟨w, q3, q4⟩ := lead_iff.mp q2
    obtain ⟨kk, q5, q6⟩ := hB.le b (Nat.zero_le _) hb e' w (by omega) (by omega) q4 q3
    rw [hk] at q5
    injection q5 with q5
    subst q5
    have hw : cst ps b e' + (B e').getD 0 = cst ps b e' + w := by rw [q3]; rfl
    by_cases c : cst ps b e' + w = k
    · have ch : Cc.cheap f M ps B b e' = true := by
        unfold Cc.cheap
        rw [q3, hk, decide_eq_false q4, c.symm]
        simp
      have hle := h7 e' (by omega) ch
      have hlt : e < e' := by
        rcases Nat.lt_or_ge e e' with z | z
        · exact z
        · exfalso
          refine hne ?_
          rw [show e' = e by omega, hv]
      rw [hw, c]
      exact ⟨sD_lt (by omega), sD_ltS (by omega)⟩
    · rw [hw]
      constructor
      · rw [sD_ltI c]
        exact decide_eq_false (by omega)
      · rw [sD_ltI (fun z => c z.symm)]
        exact decide_eq_true (by omega)
  · exact PySem.W.dataLt_self _
end
/-! ### promises -/
@[irreducible] def spObeyed (K : PySem.W.Frag) : Sp := fun vs H Q _ => ∃ (D L T : Addr) (n m : Nat) (u : V) (M : Rat) (f : Nat → Nat → Rat) (ps : List (Int × Int)) (xs : List (Option Int)), vs = [.ref D, u, .ref L, .ref T] ∧ DSh K n (AllR n) f m H D ∧ (∀ i j, AllR n i j → Sz 3900 (f i j)) ∧ PtV K H u M ∧ Sz 3900 M ∧ SpD K H L ps ∧ H T = some (.lst (xs.map oV)) ∧ ShP f M ps n xs ∧ ∀ H', Same H H' → Q (.bl true) H'
@[irreducible] def spFCalmG (K : PySem.W.Frag) : Sp := fun vs H Q _ => ∃ (D L : Addr) (n m : Nat) (u : V) (M : Rat) (f : Nat → Nat → Rat) (ps : List (Int × Int)) (B : Nat → Option Int), vs = [.ref D, .int n, u, .ref L] ∧ DSh K n (AllR n) f m H D ∧ n ≤ 12 ∧ (∀ i j, AllR n i j → Sz 3900 (f i j)) ∧ PtV K H u M ∧ Sz 3900 M ∧ Bco f M ps n 0 B ∧ SpD K H L ps ∧ (B 0 = none → ∀ H', Same H H' → Q .non H') ∧ ∀ k, B 0 = some k → ∀ t s H', Same H H' → SqT K H' t [.ref s, .int k] → SqT K H' s ((calmL f M ps B n 0).map V.int) → Q (.ref t) H'
section
variable {K : PySem.W.Frag} {H : Hp} {Q : VK} {E : XK} {vs : List V} {n m j : Nat} {M : Rat} {ps : List (Int × Int)} {u : V} {D T L : Addr} {f : Nat → Nat → Rat} {xs : List (Option Int)} {B : Nat → Option Int}
theorem obeyed_step (h : DSh K n (AllR n) f m H D) (hz : ∀ i j, AllR n i j → Sz 3900 (f i j)) (hu : PtV K H u M) (hM : Sz j M) (hj : j ≤ 3900) (hL : SpD K H L ps) (hT : H T = some (.lst (xs.map oV))) (hS : ShP f M ps n xs) (q : ∀ H', Same H H' → Q (.bl true) H') (hvs : vs = [.ref D, u, .ref L, .ref T] := by rfl) : spObeyed K vs H Q E := by
  unfold spObeyed
  exact ⟨D, L, T, n, m, u, M, f, ps, xs, hvs, h, hz, hu, hM.mono hj, hL, hT, hS, q⟩
theorem fcalmG_step (h : DSh K n (AllR n) f m H D) (hn : n ≤ 12) (hz : ∀ i j, AllR n i j → Sz 3900 (f i j)) (hu : PtV K H u M) (hM : Sz j M) (hj : j ≤ 3900) (hB : Bco f M ps n 0 B) (hL : SpD K H L ps) (q : B 0 = none → ∀ H', Same H H' → Q .non H') (q2 : ∀ k, B 0 = some k → ∀ t s H', Same H H' → SqT K H' t [.ref s, .int k] → SqT K H' s ((calmL f M ps B n 0).map V.int) → Q (.ref t) H') (hvs : vs = [.ref D, .int n, u, .ref L] := by rfl) : spFCalmG K vs H Q E := by
  unfold spFCalmG
  exact ⟨D, L, n, m, u, M, f, ps, B, hvs, h, hn, hz, hu, hM.mono hj, hB, hL, q, q2⟩
end
theorem worst_at {b : Bx} {ws ss : List Int} {d : Bool} (hS : SOk ss ws.length) (h0 : 1 ≤ ws.length) : ∃ k, k < ss.length ∧ rowShape b ws (off ss k) (ss.getD k 0).toNat d = worstM b ws ss d := by
  have hm : worstM b ws ss d ∈ shapesM b ws ss d := mostL_mem (fun z => by
    have := congrArg List.length z
    unfold shapesM at this
    rw [List.length_map, List.length_range, List.length_nil] at this
    have := hS.ne h0
    omega)
  unfold shapesM at hm
  obtain ⟨k, hk, e⟩ := List.mem_map.mp hm
  exact ⟨k, List.mem_range.mp hk, e⟩
theorem worst_szS {b : Bx} {ws ss : List Int} {d : Bool} (hb : b.Ok 202) (hW : WOk ws) (hS : SOk ss ws.length) : Sz 670 (worstM b ws ss d) := by
  obtain ⟨k, hk, e⟩ := worst_at (b := b) (d := d) hS hW.l0
  have hl1 := hW.l1
  have hg := hS.getD hk
  rw [← e]
  exact (sz_rowShape hb hW (by omega) (hS.size_le hk) d).mono (by decide)
/-- sizes within M have no worse shape -/
theorem inM_worst {b : Bx} {ws ss : List Int} {d : Bool} {M : Rat} (hS : SOk ss ws.length) (h0 : 1 ≤ ws.length) (h : InM (fSh b ws d) M ss) : ¬ M < worstM b ws ss d := by
  obtain ⟨k, hk, e⟩ := worst_at (b := b) (d := d) hS h0
  have := h k hk
  unfold fSh at this
  rw [hS.off_succ hk, Nat.add_sub_cancel_left] at this
  rw [← e]
  exact this
theorem worst_inM' {b : Bx} {ws ss : List Int} {d : Bool} {M : Rat} (hS : SOk ss ws.length) (h : ¬ M < worstM b ws ss d) : InM (fSh b ws d) M ss := worst_inM hS (Rat.not_lt.mp h)
end Cc
/-! XCst: calm sizes by going through all sizes. -/
namespace Cc
open PySem PySem.Spec PyProof.Rows L2
section
variable {f : Nat → Nat → Rat} {M : Rat} {ps : List (Int × Int)} {n : Nat} {B : Nat → Option Int} {ss : List Int}
theorem wOf_in (hS : SOk ss n) (h0 : 1 ≤ n) : ¬ M < wOf f ss ↔ InM f M ss := by
  constructor
  · intro h j hj
    exact fun z => h (by have := wOf_ge (f := f) hj; grind)
  · intro h z
    obtain ⟨j, hj, e⟩ := wOf_at (f := f) hS h0
    rw [e] at z
    exact h j hj z
/-- rows from b on within M -/
def InF (f : Nat → Nat → Rat) (M : Rat) : Nat → List Int → Prop
  | _, [] => True
  | b, x :: r => ¬ M < f b (b + x.toNat) ∧ InF f M (b + x.toNat) r
theorem inF_of : ∀ (ss : List Int) (b : Nat), (∀ x ∈ ss, 1 ≤ x) → (∀ j, j < ss.length → ¬ M < f (b + off ss j) (b + off ss (j + 1))) → InF f M b ss
  | [], _, _, _ => trivial
  | x :: r, b, hw, h => by
    have hx := hw x List.mem_cons_self
    have hr : ∀ y ∈ r, 1 ≤ y := fun y hy => hw y (List.mem_cons_of_mem _ hy)
    have e : ∀ j, off (x :: r) (j + 1) = x.toNat + off r j := fun j => by
      unfold off
      rw [List.take_succ_cons, List.sum_cons]
      have : 0 ≤ (r.take j).sum := by
        have := sum_nn (ws := r.take j) fun y hy => hr y (List.mem_of_mem_take hy)
        omega
      omega
    refine ⟨?_, inF_of r (b + x.toNat) hr fun j hj => ?_⟩
    · have := h 0 (by simp)
      rw [e 0] at this
      simpa [off] using this
    · have := h (j + 1) (by simpa using hj)
      rw [e j, e (j + 1)] at this
      rw [Nat.add_assoc, Nat.add_assoc]
      exact this
theorem inM_F (hS : SOk ss n) (h : InM f M ss) : InF f M 0 ss := inF_of ss 0 hS.w fun j hj => by
  rw [Nat.zero_add, Nat.zero_add]
  exact h j hj
/-- calm sizes come ahead of all others that cost as little -/
theorem calm_lex (hB : Bco f M ps n 0 B) : ∀ (ss : List Int) (b : Nat), (∀ x ∈ ss, 1 ≤ x) → (b : Int) + ss.sum = n → InF f M b ss → ∃ c, B b = some c ∧ c ≤ costAt ps b ss ∧ (costAt ps b ss = c → ¬ ss < calmL f M ps B n b)
  | [], b, _, hs, _ => by
    rw [List.sum_nil] at hs
    obtain rfl : b = n := by omega
    refine ⟨0, hB.e, Int.le_refl _, fun _ => ?_⟩
    rw [calmL_stop (by omega)]
    exact List.not_lt_nil _
  | x :: r, b, hw, hs, hin => by
    rw [List.sum_cons] at hs
    have hx := hw x List.mem_cons_self
    have hr : ∀ y ∈ r, 1 ≤ y := fun y hy => hw y (List.mem_cons_of_mem _ hy)
    have hrs := sum_nn hr
    obtain ⟨h1, h2⟩ := hin
    obtain ⟨c', g1, g2, g3⟩ := calm_lex hB r (b + x.toNat) hr (by omega) h2
    obtain ⟨c, g4, g5⟩ := hB.le b (Nat.zero_le _) (by omega) (b + x.toNat) c' (by omega) (by omega) h1 g1
    have ec : costAt ps b (x :: r) = cst ps b ((b + x.toNat : Nat) : Int) + costAt ps ((b + x.toNat : Nat) : Int) r := by
      rw [costAt, show (b : Int) + x = ((b + x.toNat : Nat) : Int) by omega]
    obtain ⟨w0, hw0⟩ : ∃ w0, w0 = cst ps (b : Nat) ((b + x.toNat : Nat) : Int) := ⟨_, rfl⟩
    rw [← hw0] at ec g5
    refine ⟨c, g4, by rw [ec]; omega, fun e => ?_⟩
    rw [ec] at e
    have hlt : b < n := by omega
    have ch : Cc.cheap f M ps B b (b + x.toNat) = true := by
      unfold Cc.cheap
      rw [g1, g4, decide_eq_false h1, ← hw0, show c = w0 + c' by omega]
      simp
    have hmin := cEnd_min (f := f) (M := M) (ps := ps) (B := B) (n := n) (b := b) (n - (b + 1)) (b + 1) (Nat.le_refl _) (b + x.toNat) (by omega) ch
    have hge := cEnd_ge (f := f) (M := M) (ps := ps) (B := B) (n := n) (b := b) (n - (b + 1)) (b + 1) (Nat.le_refl _)
    rw [calmL_go hlt, lt_of_cons]
    rintro (z | ⟨z, w⟩)
    · omega
    · have ee : cEnd f M ps B n b (b + 1) = b + x.toNat := by omega
      rw [ee] at w
      exact g3 (by omega) w
theorem Bco.lex (hB : Bco f M ps n 0 B) (hS : SOk ss n) (h : InM f M ss) : ∃ c, B 0 = some c ∧ c ≤ ((outs ps ss).length : Int) ∧ (((outs ps ss).length : Int) = c → ¬ ss < calmL f M ps B n 0) := by
  obtain ⟨c, h1, h2, h3⟩ := calm_lex hB ss 0 hS.w (by rw [hS.s]; omega) (inM_F hS h)
  rw [outs_len]
  exact ⟨c, h1, h2, h3⟩
/-- what going through all sizes has come to -/
structure Chf (f : Nat → Nat → Rat) (M : Rat) (ps : List (Int × Int)) (ls : List (List Int)) (o : Option (List Int)) : Prop where
  no : o = none → ∀ s ∈ ls, ¬ InM f M s
  yes : ∀ s, o = some s → s ∈ ls ∧ InM f M s ∧ ∀ t ∈ ls, InM f M t → (outs ps s).length ≤ (outs ps t).length ∧ ((outs ps s).length = (outs ps t).length → ¬ t < s)
theorem Chf.nil : Chf f M ps [] none := ⟨(fun _ s h => nomatch h), (fun s h => nomatch h)⟩
theorem Chf.skip {ls : List (List Int)} {o : Option (List Int)} {s : List Int} (h : Chf f M ps ls o) (hs : ¬ InM f M s) : Chf f M ps (ls ++ [s]) o := by
  refine ⟨fun e t ht => ?_, fun u e => ?_⟩
  · rcases List.mem_append.mp ht with ht | ht
    · exact h.no e t ht
    · rw [List.mem_singleton.mp ht]
      exact hs
  · obtain ⟨h1, h2, h3⟩ := h.yes u e
    refine ⟨List.mem_append_left _ h1, h2, fun t ht hi => ?_⟩
    rcases List.mem_append.mp ht with ht | ht
    · exact h3 t ht hi
    · rw [List.mem_singleton.mp ht] at hi
      exact absurd hi hs
theorem Chf.keep {ls : List (List Int)} {u s : List Int} (h : Chf f M ps ls (some u)) (hw : (ls ++ [s]).Pairwise (fun a b => ¬ b < a)) (hc : (outs ps u).length ≤ (outs ps s).length) : Chf f M ps (ls ++ [s]) (some u) := by
  refine ⟨fun e => (nomatch e), fun u' e => ?_⟩
  injection e with e
  subst e
  obtain ⟨h1, h2, h3⟩ := h.yes _ rfl
  refine ⟨List.mem_append_left _ h1, h2, fun t ht hi => ?_⟩
  rcases List.mem_append.mp ht with ht | ht
  · exact h3 t ht hi
  · rw [List.mem_singleton.mp ht]
    exact ⟨hc, fun _ => (List.pairwise_append.mp hw).2.2 _ h1 _ (List.mem_singleton.mpr rfl)⟩
theorem Chf.take {ls : List (List Int)} {o : Option (List Int)} {s : List Int} (h : Chf f M ps ls o) (hi : InM f M s) (hc : ∀ u, o = some u → (outs ps s).length < (outs ps u).length) : Chf f M ps (ls ++ [s]) (some s) := by
  refine ⟨fun e => (nomatch e), fun u e => ?_⟩
  injection e with e
  subst e
  refine ⟨List.mem_append_right _ (List.mem_singleton.mpr rfl), hi, fun t ht ht2 => ?_⟩
  rcases List.mem_append.mp ht with ht | ht
  · cases o with
    | none => exact absurd ht2 (h.no rfl t ht)
    | some u =>
      have h1 := hc u rfl
      have h2 := ((h.yes u rfl).2.2 t ht ht2).1
      exact ⟨by omega, fun z => by omega⟩
  · rw [List.mem_singleton.mp ht]
    exact ⟨Nat.le_refl _, fun _ z => (lex_total s s).elim (fun q => q z) (fun q => q z)⟩
/-- and it is the calm ones -/
theorem Chf.calm {ls : List (List Int)} {o : Option (List Int)} (h : Chf f M ps ls o) (hB : Bco f M ps n 0 B) (hl : ∀ s, s ∈ ls ↔ SOk s n) : o = (B 0).map fun _ => calmL f M ps B n 0 := by
  have hcs := calm_sok (f := f) (M := M) (ps := ps) (B := B) (n := n)
  cases o with
  | none =>
    cases hb : B 0 with
    | none => rfl
    | some c => exact absurd (calm_inM hB hb) (h.no rfl _ ((hl _).mpr hcs))
  | some s =>
    obtain ⟨h1, h2, h3⟩ := h.yes s rfl
    have hs := (hl s).mp h1
    obtain ⟨c, g1, g2, g3⟩ := hB.lex hs h2
    have g4 := calm_outs hB g1
    obtain ⟨g5, g6⟩ := h3 _ ((hl _).mpr hcs) (calm_inM hB g1)
    have e1 : ((outs ps s).length : Int) = c := by omega
    rw [g1]
    show some s = some _
    rw [lex_antisymm s _ (g6 (by omega)) (g3 e1)]
end
@[irreducible] def spLCalm (K : PySem.W.Frag) : Sp := fun vs H Q _ => ∃ (v u : V) (a L : Addr) (b : Bx) (ws : List Int) (M : Rat) (ps : List (Int × Int)) (d : Bool) (B : Nat → Option Int), vs = [v, .ref a, .str (sd d), u, .ref L] ∧ BxV K H v b ∧ b.Ok 202 ∧ SqL K H a (ws.map V.int) ∧ WOk ws ∧ ws.length ≤ 7 ∧ PtV K H u M ∧ Sz 3900 M ∧ SpH K H L ps ∧ Bco (fSh b ws d) M ps ws.length 0 B ∧ (B 0 = none → ∀ H', Same H H' → Q .non H') ∧ ∀ k, B 0 = some k → ∀ t s H', Same H H' → SqT K H' t [.ref s, .int k] → SqT K H' s ((calmL (fSh b ws d) M ps B ws.length 0).map V.int) → Q (.ref t) H'
theorem lcalm_step {K : PySem.W.Frag} {H : Hp} {Q : VK} {E : XK} {vs : List V} {v u : V} {a L : Addr} {b : Bx} {ws : List Int} {M : Rat} {ps : List (Int × Int)} {d : Bool} {B : Nat → Option Int} {i j : Nat} (hv : BxV K H v b) (hb : b.Ok i) (hi : i ≤ 202) (h : SqL K H a (ws.map V.int)) (hw : WOk ws) (hn : ws.length ≤ 7) (hu : PtV K H u M) (hz : Sz j M) (hj : j ≤ 3900) (hL : SpH K H L ps) (hB : Bco (fSh b ws d) M ps ws.length 0 B) (q : B 0 = none → ∀ H', Same H H' → Q .non H') (q2 : ∀ k, B 0 = some k → ∀ t s H', Same H H' → SqT K H' t [.ref s, .int k] → SqT K H' s ((calmL (fSh b ws d) M ps B ws.length 0).map V.int) → Q (.ref t) H') (hvs : vs = [v, .ref a, .str (sd d), u, .ref L] := by rfl) : spLCalm K vs H Q E := by
  unfold spLCalm
  exact ⟨v, u, a, L, b, ws, M, ps, d, B, hvs, hv, hb.mono hi, h, hw, hn, hu, hz.mono hj, hL, hB, q, q2⟩
theorem Bco.exL (f : Nat → Nat → Rat) (M : Rat) (ps : List (Int × Int)) (n : Nat) : ∀ k, k ≤ n → ∃ us : List (Option Int), us.length = n + 1 ∧ Bco f M ps n (n - k) (fun e => us.getD e none) := by
  intro k
  induction k with
  | zero =>
    intro _
    refine ⟨List.replicate n none ++ [some 0], by simp, ?_, fun b h1 h2 => absurd h2 (by omega), fun b h1 h2 => absurd h2 (by omega)⟩
    have := getD_app_r (L := List.replicate n (none : Option Int)) (x := some 0) (d := none)
    rw [List.length_replicate] at this
    exact this
  | succ k ih =>
    intro hk
    obtain ⟨us, hl, h⟩ := ih (by omega)
    obtain ⟨b, hb⟩ : ∃ b, b = n - (k + 1) := ⟨_, rfl⟩
    rw [show n - k = b + 1 by omega] at h
    rw [← hb]
    obtain ⟨vals, hv⟩ : ∃ vals : List Int, ∀ y, y ∈ vals ↔ ∃ e k', b < e ∧ e ≤ n ∧ ¬ M < f b e ∧ us.getD e none = some k' ∧ y = cst ps b e + k' := by
      refine ⟨((List.range (n + 1)).filter fun e => decide (b < e) && !decide (M < f b e) && (us.getD e none).isSome).map fun e => cst ps b (e : Nat) + (us.getD e none).getD 0, fun y => ?_⟩
      rw [List.mem_map]
      constructor
      · rintro ⟨e, he, rfl⟩
        obtain ⟨g1, g2⟩ := List.mem_filter.mp he
        rw [Bool.and_eq_true, Bool.and_eq_true, decide_eq_true_iff] at g2
        obtain ⟨⟨g3, g4⟩, g5⟩ := g2
        obtain ⟨k', hk'⟩ := Option.isSome_iff_exists.mp g5
        refine ⟨e, k', g3, by have := List.mem_range.mp g1; omega, fun z => ?_, hk', by rw [hk']; rfl⟩
        rw [decide_eq_true z] at g4
        cases g4
      · rintro ⟨e, k', g1, g2, g3, g4, rfl⟩
        refine ⟨e, List.mem_filter.mpr ⟨List.mem_range.mpr (by omega), ?_⟩, by rw [g4]; rfl⟩
        rw [g4, decide_eq_true g1, decide_eq_false g3]
        rfl
    refine ⟨us.set b (minO vals), by rw [List.length_set]; exact hl, Bco.step (by omega) hl h (fun y hy => (hv y).mp (minO_mem hy).1) fun e k' g1 g2 g3 g4 => ?_⟩
    have hm := (hv (cst ps b e + k')).mpr ⟨e, k', g1, g2, g3, g4, rfl⟩
    cases hmn : minO vals with
    | none =>
      cases vals with
      | nil => cases hm
      | cons a r => cases hmn
    | some y => exact ⟨y, rfl, (minO_mem hmn).2 _ hm⟩
theorem Bco.exists_ (f : Nat → Nat → Rat) (M : Rat) (ps : List (Int × Int)) (n : Nat) : ∃ B, Bco f M ps n 0 B := by
  obtain ⟨us, _, h⟩ := Bco.exL f M ps n n (Nat.le_refl _)
  rw [Nat.sub_self] at h
  exact ⟨_, h⟩
/-- there is but one -/
theorem Bco.uniq {f : Nat → Nat → Rat} {M : Rat} {ps : List (Int × Int)} {n : Nat} {B B' : Nat → Option Int} (h : Bco f M ps n 0 B) (h' : Bco f M ps n 0 B') : ∀ k b, n - b ≤ k → b ≤ n → B b = B' b := by
  intro k b hk hb
  have low : ∀ {C C' : Nat → Option Int}, Bco f M ps n 0 C → Bco f M ps n 0 C' → ∀ c, C b = some c → ∃ c', C' b = some c' ∧ c' ≤ c := fun h1 h2 c hc => by
    obtain ⟨c', g1, g2⟩ := Bco.cmp (fun _ => 0) h1 h2 (by decide) (fun b e _ _ h3 => ⟨h3, by omega⟩) k b hk hb c hc
    exact ⟨c', g1, by omega⟩
  cases e1 : B b with
  | none =>
    cases e2 : B' b with
    | none => rfl
    | some c =>
      obtain ⟨c', g1, _⟩ := low h' h c e2
      rw [e1] at g1
      cases g1
  | some c =>
    obtain ⟨c', g1, g2⟩ := low h h' c e1
    obtain ⟨c2, g3, g4⟩ := low h' h c' g1
    rw [e1] at g3
    injection g3 with g3
    rw [g1]
    congr 1
    omega
theorem calmL_congr {f : Nat → Nat → Rat} {M : Rat} {ps : List (Int × Int)} {n : Nat} {B B' : Nat → Option Int} (h : ∀ b, b ≤ n → B b = B' b) : ∀ k b, n - b ≤ k → b ≤ n → calmL f M ps B n b = calmL f M ps B' n b := by
  intro k
  induction k with
  | zero =>
    intro b hk hb
    rw [calmL_stop (by omega), calmL_stop (by omega)]
  | succ k ih =>
    intro b hk hb
    by_cases z : b < n
    · have e : ∀ j e, n - e ≤ j → e ≤ n → cEnd f M ps B n b e = cEnd f M ps B' n b e := by
        intro j
        induction j with
        | zero =>
          intro e h1 h2
          rw [cEnd_stop (by omega), cEnd_stop (by omega)]
        | succ j ih2 =>
          intro e h1 h2
          have ec : cheap f M ps B b e = cheap f M ps B' b e := by
            unfold Cc.cheap
            rw [h e h2, h b hb]
          by_cases c : e < n ∧ cheap f M ps B b e = false
          · rw [cEnd_go (B := B) c, cEnd_go (B := B') (by rw [← ec]; exact c)]
            exact ih2 (e + 1) (by omega) (by omega)
          · rw [cEnd_stop (B := B) c, cEnd_stop (B := B') (by rw [← ec]; exact c)]
      have g1 := cEnd_ge (f := f) (M := M) (ps := ps) (B := B) (n := n) (b := b) (n - (b + 1)) (b + 1) (Nat.le_refl _)
      have g2 := cEnd_le (f := f) (M := M) (ps := ps) (B := B) (n := n) (b := b) (n - (b + 1)) (b + 1) (Nat.le_refl _) (by omega)
      rw [calmL_go z, calmL_go z, ← e (n - (b + 1)) (b + 1) (Nat.le_refl _) (by omega), ih _ (by omega) g2]
    · rw [calmL_stop z, calmL_stop z]
end Cc
/-! XInv: what does not hang on how a box is turned, how great it is, how great all weights are. -/
namespace Cc
open PySem PySem.Spec PyProof.Rows L2
/-! ### turned about -/
def tnB (b : Bx) : Bx := ⟨b.t, b.l, b.h, b.w⟩
theorem tnB_tnB (b : Bx) : tnB (tnB b) = b := rfl
theorem Bx.Ok.tn {b : Bx} {n : Nat} (h : b.Ok n) : (tnB b).Ok n := ⟨h.h0, h.w0, h.st, h.sl, h.sh, h.sw⟩
theorem fSh_turn (b : Bx) (ws : List Int) (d : Bool) : fSh (tnB b) ws (!d) = fSh b ws d := by cases d <;> rfl
theorem slab_turn (b : Bx) (x y : Rat) (d : Bool) : slab (tnB b) x y (!d) = tnB (slab b x y d) := by cases d <;> rfl
theorem cutM_tn (b : Bx) (ws : List Int) (d : Bool) : cutM (tnB b) ws (!d) = (cutM b ws d).map tnB := by
  unfold cutM
  rw [List.map_map]
  refine List.map_congr_left fun i _ => ?_
  exact slab_turn b _ _ d
theorem laidM_tn (b : Bx) (ws ss : List Int) (d : Bool) : laidM (tnB b) ws ss (!d) = (laidM b ws ss d).map tnB := by
  unfold laidM laidTo
  rw [List.map_flatten, List.map_map]
  congr 1
  refine List.map_congr_left fun i _ => ?_
  show cutM (cutAt (tnB b) (sumsM ws ss) (!d) i) (rowAt ws ss i) (!!d) = (cutM (cutAt b (sumsM ws ss) d i) (rowAt ws ss i) (!d)).map tnB
  rw [show cutAt (tnB b) (sumsM ws ss) (!d) i = tnB (cutAt b (sumsM ws ss) d i) from slab_turn b _ _ d]
  exact cutM_tn _ _ _
/-! ### made greater -/
theorem fSh_great {b c : Bx} {k : Rat} (hk : 0 < k) (hw : c.w = b.w * k) (hh : c.h = b.h * k) (b0 : 0 < b.w) (b1 : 0 < b.h) (ws : List Int) (d : Bool) : fSh c ws d = fSh b ws d := by
  have div : ∀ {x y : Rat}, 0 < y → x * k / (y * k) = x / y := fun {x y} hy => by
    have z : y * k ≠ 0 := by have := Rat.mul_pos hy hk; grind
    refine div_of ?_ z
    rw [← Rat.mul_assoc, Rat.div_def, Rat.mul_assoc x, Rat.inv_mul_cancel y (by grind), Rat.mul_one]
  funext i j
  have e : ∀ T row, gform c T row d = gform b T row d := fun T row => by
    unfold gform
    rw [hw, hh, div b1, div b0]
  unfold fSh rowShape
  rw [e]
/-! ### weights made greater -/
theorem sum_mul (k : Int) : ∀ ws : List Int, (ws.map (· * k)).sum = ws.sum * k
  | [] => by simp
  | x :: r => by
    rw [List.map_cons, List.sum_cons, List.sum_cons, sum_mul k r, Int.add_mul]
theorem rowM_mul (ws : List Int) (k : Int) (i n : Nat) : rowM (ws.map (· * k)) i n = (rowM ws i n).map (· * k) := by
  unfold rowM
  rw [List.map_take, List.map_drop]
theorem divInt_k {a b k : Int} (hk : k ≠ 0) : Rat.divInt (a * k) (b * k) = Rat.divInt a b := Rat.divInt_mul_right hk
theorem fSh_scale (b : Bx) (ws : List Int) (d : Bool) {k : Int} (hk : 0 < k) : fSh b (ws.map (· * k)) d = fSh b ws d := by
  have k0 : k ≠ 0 := by omega
  have kq : (k : Rat) ≠ 0 := by have := int_pos hk; grind
  funext i j
  unfold fSh rowShape
  rw [rowM_mul, List.map_map]
  congr 1
  refine List.map_congr_left fun x _ => ?_
  show shpX _ (x * k) = shpX _ x
  have e : gform b (ws.map (· * k)).sum ((rowM ws i (j - i)).map (· * k)) d * ((x * k : Int) : Rat) = gform b ws.sum (rowM ws i (j - i)) d * (x : Rat) := by
    unfold gform
    rw [sum_mul, sum_mul, show (rowM ws i (j - i)).sum * k * ((rowM ws i (j - i)).sum * k) = ((rowM ws i (j - i)).sum * (rowM ws i (j - i)).sum * k) * k by grind, divInt_k k0, Rat.intCast_mul, Rat.mul_assoc, Rat.mul_assoc]
    congr 1
    rw [Rat.mul_comm (x : Rat), ← Rat.mul_assoc]
    congr 1
    generalize (rowM ws i (j - i)).sum * (rowM ws i (j - i)).sum = s
    rw [Rat.divInt_eq_div, Rat.divInt_eq_div, Rat.intCast_mul]
    by_cases z : (s : Rat) = 0
    · rw [z]
      simp [Rat.div_def, Rat.zero_mul, Rat.inv_zero, Rat.mul_zero]
    · refine (div_of ?_ z).symm
      have z2 : (s : Rat) * (k : Rat) ≠ 0 := fun w => by
        rcases Rat.mul_eq_zero.mp w with w | w
        · exact z w
        · exact kq w
      rw [Rat.div_def, Rat.mul_assoc, Rat.mul_comm (k : Rat), Rat.mul_assoc, Rat.inv_mul_cancel _ z2, Rat.mul_one]
  unfold shpX
  rw [e]
theorem cutM_mul (b : Bx) (ws : List Int) (d : Bool) {k : Int} (hk : 0 < k) : cutM b (ws.map (· * k)) d = cutM b ws d := by
  have k0 : k ≠ 0 := by omega
  unfold cutM
  rw [List.length_map]
  refine List.map_congr_left fun i _ => ?_
  unfold cutAt
  rw [← List.map_take, sum_mul, sum_mul, divInt_k k0, show (ws.map (· * k)).getD i 0 = ws.getD i 0 * k by
    rw [List.getD_eq_getElem?_getD, List.getD_eq_getElem?_getD, List.getElem?_map]
    cases ws[i]? with
    | none => simp
    | some x => rfl, divInt_k k0]
theorem laidM_mul (b : Bx) (ws ss : List Int) (d : Bool) {k : Int} (hk : 0 < k) : laidM b (ws.map (· * k)) ss d = laidM b ws ss d := by
  have er : ∀ i, rowAt (ws.map (· * k)) ss i = (rowAt ws ss i).map (· * k) := fun i => by
    unfold rowAt
    rw [List.map_take, List.map_drop]
  have es : sumsM (ws.map (· * k)) ss = (sumsM ws ss).map (· * k) := by
    unfold sumsM rowsM
    rw [List.map_map, List.map_map, List.map_map]
    refine List.map_congr_left fun i _ => ?_
    show (rowAt (ws.map (· * k)) ss i).sum = (rowAt ws ss i).sum * k
    rw [er, sum_mul]
  have ec : ∀ (us : List Int) (i : Nat), cutAt b (us.map (· * k)) d i = cutAt b us d i := fun us i => by
    have k0 : k ≠ 0 := by omega
    unfold cutAt
    rw [← List.map_take, sum_mul, sum_mul, divInt_k k0, show (us.map (· * k)).getD i 0 = us.getD i 0 * k by
      rw [List.getD_eq_getElem?_getD, List.getD_eq_getElem?_getD, List.getElem?_map]
      cases us[i]? with
      | none => simp
      | some x => rfl, divInt_k k0]
  unfold laidM laidTo
  congr 1
  refine List.map_congr_left fun i _ => ?_
  unfold laidAt
  rw [es, ec, er, cutM_mul _ _ _ hk]
/-! ### all that _law_all gives -/
def clD (f : Nat → Nat → Rat) (M : Rat) (ps : List (Int × Int)) (n : Nat) (B : Nat → Option Int) : PyData :=
  match B 0 with
  | none => .none
  | some k => .tuple [.tuple ((calmL f M ps B n 0).map .int), .int k]
def allD (f : Nat → Nat → Rat) (M : Rat) (ps : List (Int × Int)) (n : Nat) (g : Nat → Rat) (B : Nat → Option Int) : PyData :=
  .list [.tuple ((bestL f g (g 0) n 0).map .int), .tuple ((greedyL f n 0).map .int), dPart (g 0), clD f M ps n B, .list ((begL f M n).map fun i : Nat => .int (i : Int))]
theorem allD_same {f : Nat → Nat → Rat} {M : Rat} {ps : List (Int × Int)} {n : Nat} {g g' : Nat → Rat} {B B' : Nat → Option Int} (h1 : Bst f n 0 g) (h2 : Bst f n 0 g') (h3 : Bco f M ps n 0 B) (h4 : Bco f M ps n 0 B') : allD f M ps n g B = allD f M ps n g' B' := by
  have e0 := Bst.uniq0 h1 h2
  have eg : ∀ e, e ≤ n → g e = g' e := fun e he => by
    have := Bst.uniq h1 h2 (n - e) (by omega)
    rw [show n - (n - e) = e by omega] at this
    exact this
  have eB : ∀ b, b ≤ n → B b = B' b := fun b hb => Bco.uniq h3 h4 n b (by omega) hb
  unfold allD clD
  rw [bestL_congr eg n 0 (by omega), e0, eB 0 (by omega), calmL_congr eB n 0 (by omega) (by omega)]
theorem ints_lay : ∀ xs : List Int, PyData.canLayAll0 (xs.map .int) = true ∧ PyData.depthAll (xs.map .int) ≤ 1
  | [] => ⟨rfl, by decide⟩
  | x :: r => by
    have h := ints_lay r
    simp only [List.map_cons, PyData.canLayAll0, PyData.canLay0, PyData.depthAll, PyData.depth, Bool.true_and]
    exact ⟨h.1, by omega⟩
theorem clD_lay (f : Nat → Nat → Rat) (M : Rat) (ps : List (Int × Int)) (n : Nat) (B : Nat → Option Int) : PyData.canLay0 (clD f M ps n B) = true ∧ PyData.depth (clD f M ps n B) ≤ 3 := by
  unfold clD
  cases B 0 with
  | none => exact ⟨rfl, (show PyData.depth PyData.none ≤ 3 by decide)⟩
  | some k =>
    have h := ints_lay (calmL f M ps B n 0)
    simp only [PyData.canLayAll0, PyData.canLay0, PyData.depthAll, PyData.depth, Bool.true_and, Bool.and_true]
    exact ⟨h.1, by omega⟩
theorem allD_lay (f : Nat → Nat → Rat) (M : Rat) (ps : List (Int × Int)) (n : Nat) (g : Nat → Rat) (B : Nat → Option Int) : PyData.canLay0 (allD f M ps n g B) = true ∧ PyData.depth (allD f M ps n g B) ≤ 5 := by
  have h1 := ints_lay (bestL f g (g 0) n 0)
  have h2 := ints_lay (greedyL f n 0)
  have h3 := clD_lay f M ps n B
  have h4 := ints_lay ((begL f M n).map fun i : Nat => (i : Int))
  rw [List.map_map] at h4
  unfold allD dPart
  simp only [PyData.canLayAll0, PyData.canLay0, PyData.depthAll, PyData.depth, Bool.true_and, Bool.and_true, Bool.and_eq_true]
  exact ⟨⟨h1.1, h2.1, h3.1, h4.1⟩, by
    have e4 : PyData.depthAll ((begL f M n).map fun i : Nat => PyData.int (i : Int)) ≤ 1 := h4.2
    omega⟩
theorem allD_shaped (f : Nat → Nat → Rat) (M : Rat) (ps : List (Int × Int)) (n : Nat) (g : Nat → Rat) (B : Nat → Option Int) : SeqAt.shaped (allD f M ps n g B) = true := by
  have h := allD_lay f M ps n g B
  show (PyData.canLay0 _ && decide (PyData.depth _ ≤ 64)) = true
  rw [Bool.and_eq_true]
  exact ⟨h.1, decide_eq_true (by omega)⟩
theorem allD_eqv (f : Nat → Nat → Rat) (M : Rat) (ps : List (Int × Int)) (n : Nat) (g : Nat → Rat) (B : Nat → Option Int) : PyData.eqv (allD f M ps n g B) (allD f M ps n g B) = true :=
  PySem.SeqAt.eqv_refl _ (allD_lay f M ps n g B).1
theorem boxes_lay : ∀ bs : List Bx, PyData.canLayAll0 (bs.map dBox) = true ∧ PyData.depthAll (bs.map dBox) ≤ 3
  | [] => ⟨rfl, by decide⟩
  | x :: r => by
    have h := boxes_lay r
    simp only [List.map_cons, dBox, dPart, PyData.canLayAll0, PyData.canLay0, PyData.depthAll, PyData.depth, Bool.true_and, Bool.and_true]
    exact ⟨h.1, by omega⟩
theorem boxes_shaped (bs : List Bx) : SeqAt.shaped (.list (bs.map dBox)) = true := by
  have h := boxes_lay bs
  show (PyData.canLay0 (.list (bs.map dBox)) && decide (PyData.depth (.list (bs.map dBox)) ≤ 64)) = true
  rw [Bool.and_eq_true]
  exact ⟨by simp only [PyData.canLay0]; exact h.1, decide_eq_true (by simp only [PyData.depth]; omega)⟩
theorem boxes_eqv (bs : List Bx) : PyData.eqv (.list (bs.map dBox)) (.list (bs.map dBox)) = true :=
  PySem.SeqAt.eqv_refl _ (by simp only [PyData.canLay0]; exact (boxes_lay bs).1)
theorem Bxs.bag {K : PySem.W.Frag} {H H' : Hp} {c : Addr} (e : Kp c H H') (hb : Bag H c) : ∀ {vs : List V} {bs : List Bx}, Bxs K H vs bs → Bxs K H' vs bs
  | _, _, .nil => .nil
  | _, _, .cons h r => .cons (h.bag e hb) (r.bag e hb)
theorem Bxs.get {K : PySem.W.Frag} {H : Hp} : ∀ {vs : List V} {bs : List Bx}, Bxs K H vs bs → ∀ {i : Nat} {v : V}, vs[i]? = some v → ∃ b, bs[i]? = some b ∧ BxV K H v b
  | _, _, .nil, i, v, e => by simp at e
  | _, _, .cons (b := b) h r, 0, v, e => by
    cases e
    exact ⟨b, rfl, h⟩
  | _, _, .cons h r, i + 1, v, e => by
    rw [List.getElem?_cons_succ] at e
    obtain ⟨b, h1, h2⟩ := r.get e
    exact ⟨b, by rw [List.getElem?_cons_succ]; exact h1, h2⟩
section
variable {K : PySem.W.Frag} {H H' : Hp}
/-- what calm gives, as it stands -/
def ClV (K : PySem.W.Frag) (H : Hp) (v : V) (f : Nat → Nat → Rat) (M : Rat) (ps : List (Int × Int)) (n : Nat) (B : Nat → Option Int) : Prop :=
  (B 0 = none ∧ v = .non) ∨ ∃ k t s, B 0 = some k ∧ v = .ref t ∧ SqT K H t [.ref s, .int k] ∧ SqT K H s ((calmL f M ps B n 0).map V.int)
theorem ClV.same {v : V} {f : Nat → Nat → Rat} {M : Rat} {ps : List (Int × Int)} {n : Nat} {B : Nat → Option Int} (h : ClV K H v f M ps n B) (e : Same H H') : ClV K H' v f M ps n B := by
  rcases h with h | ⟨k, t, s, h1, h2, h3, h4⟩
  · exact .inl h
  · exact .inr ⟨k, t, s, h1, h2, seqT_same e h3, seqT_same e h4⟩
theorem ClV.bag {v : V} {f : Nat → Nat → Rat} {M : Rat} {ps : List (Int × Int)} {n : Nat} {B : Nat → Option Int} {b : Addr} (h : ClV K H v f M ps n B) (e : Kp b H H') (hb : Bag H b) : ClV K H' v f M ps n B := by
  rcases h with h | ⟨k, t, s, h1, h2, h3, h4⟩
  · exact .inl h
  · obtain ⟨ys, hy⟩ := hb.lst
    exact .inr ⟨k, t, s, h1, h2, seqT_kp e hy h3, seqT_kp e hy h4⟩
theorem ClV.dp {v : V} {f : Nat → Nat → Rat} {M : Rat} {ps : List (Int × Int)} {n : Nat} {B : Nat → Option Int} (h : ClV K H v f M ps n B) : Dp K H v (clD f M ps n B) := by
  unfold clD
  rcases h with ⟨h, rfl⟩ | ⟨k, t, s, h1, rfl, h3, h4⟩
  · rw [h]
    exact .non
  · rw [h1]
    exact .tup h3 (.cons (.tup h4 dpI) (.cons (.int _) .nil))
/-- what _law_all gives, as it stands -/
structure AllV (K : PySem.W.Frag) (H : Hp) (p l5 : Addr) (f : Nat → Nat → Rat) (M : Rat) (ps : List (Int × Int)) (n : Nat) (g : Nat → Rat) (B : Nat → Option Int) : Prop where
  at' : ∃ t1 t2 w vc, H p = some (.lst [.ref t1, .ref t2, w, vc, .ref l5]) ∧ SqT K H t1 ((bestL f g (g 0) n 0).map V.int) ∧ SqT K H t2 ((greedyL f n 0).map V.int) ∧ PtV K H w (g 0) ∧ ClV K H vc f M ps n B
  l : H l5 = some (.lst (natV (begL f M n)))
theorem AllV.same {p l5 : Addr} {f : Nat → Nat → Rat} {M : Rat} {ps : List (Int × Int)} {n : Nat} {g : Nat → Rat} {B : Nat → Option Int} (h : AllV K H p l5 f M ps n g B) (e : Same H H') : AllV K H' p l5 f M ps n g B := by
  obtain ⟨⟨t1, t2, w, vc, h1, h2, h3, h4, h5⟩, h6⟩ := h
  exact ⟨⟨t1, t2, w, vc, e _ _ h1, seqT_same e h2, seqT_same e h3, h4.same e, h5.same e⟩, e _ _ h6⟩
theorem AllV.bag {p l5 b : Addr} {f : Nat → Nat → Rat} {M : Rat} {ps : List (Int × Int)} {n : Nat} {g : Nat → Rat} {B : Nat → Option Int} (h : AllV K H p l5 f M ps n g B) (n1 : p ≠ b) (n2 : l5 ≠ b) (e : Kp b H H') (hb : Bag H b) : AllV K H' p l5 f M ps n g B := by
  obtain ⟨⟨t1, t2, w, vc, h1, h2, h3, h4, h5⟩, h6⟩ := h
  obtain ⟨ys, hy⟩ := hb.lst
  exact ⟨⟨t1, t2, w, vc, e _ _ h1 n1, seqT_kp e hy h2, seqT_kp e hy h3, h4.bag e hb, h5.bag e hb⟩, e _ _ h6 n2⟩
theorem dpNat {K : PySem.W.Frag} {H : Hp} : ∀ xs : List Nat, DpAll K H (natV xs) (xs.map fun i : Nat => PyData.int (i : Int))
  | [] => .nil
  | x :: r => .cons (.int _) (dpNat r)
theorem AllV.dp {p l5 : Addr} {f : Nat → Nat → Rat} {M : Rat} {ps : List (Int × Int)} {n : Nat} {g : Nat → Rat} {B : Nat → Option Int} (h : AllV K H p l5 f M ps n g B) : Dp K H (.ref p) (allD f M ps n g B) := by
  obtain ⟨⟨t1, t2, w, vc, h1, h2, h3, h4, h5⟩, h6⟩ := h
  exact .lst (SqL.of h1) (.cons (.tup h2 dpI) (.cons (.tup h3 dpI) (.cons h4.dp (.cons h5.dp (.cons (.lst (SqL.of h6) (dpNat _)) .nil)))))
end
/-! ### promises -/
@[irreducible] def spAbout (K : PySem.W.Frag) : Sp := fun vs H Q _ => ∃ (v : V) (b : Bx), vs = [v] ∧ BxV K H v b ∧ ∀ u H', Same H H' → BxV K H' u (tnB b) → Q u H'
theorem about_step {K : PySem.W.Frag} {H : Hp} {Q : VK} {E : XK} {vs : List V} {v : V} {b : Bx} (hv : BxV K H v b) (q : ∀ u H', Same H H' → BxV K H' u (tnB b) → Q u H') (hvs : vs = [v] := by rfl) : spAbout K vs H Q E := by
  unfold spAbout
  exact ⟨v, b, hvs, hv, q⟩
@[irreducible] def spLAll (K : PySem.W.Frag) : Sp := fun vs H Q _ => ∃ (v u : V) (a L : Addr) (b : Bx) (ws : List Int) (M : Rat) (ps : List (Int × Int)) (d : Bool), vs = [v, .ref a, .str (sd d), u, .ref L] ∧ BxV K H v b ∧ b.Ok 450 ∧ SqL K H a (ws.map V.int) ∧ WOk ws ∧ PtV K H u M ∧ Sz 3900 M ∧ ¬ M < 1 ∧ SpH K H L ps ∧ KOk ws.length ps ∧ ∀ p l5 g B H', H p = none → H l5 = none → Same H H' → Bst (fSh b ws d) ws.length 0 g → Bco (fSh b ws d) M ps ws.length 0 B → AllV K H' p l5 (fSh b ws d) M ps ws.length g B → Q (.ref p) H'
theorem lall_step {K : PySem.W.Frag} {H : Hp} {Q : VK} {E : XK} {vs : List V} {v u : V} {a L : Addr} {b : Bx} {ws : List Int} {M : Rat} {ps : List (Int × Int)} {d : Bool} {i j : Nat} (hv : BxV K H v b) (hb : b.Ok i) (hi : i ≤ 450) (h : SqL K H a (ws.map V.int)) (hw : WOk ws) (hu : PtV K H u M) (hz : Sz j M) (hj : j ≤ 3900) (h1 : ¬ M < 1) (hL : SpH K H L ps) (hk : KOk ws.length ps) (q : ∀ p l5 g B H', H p = none → H l5 = none → Same H H' → Bst (fSh b ws d) ws.length 0 g → Bco (fSh b ws d) M ps ws.length 0 B → AllV K H' p l5 (fSh b ws d) M ps ws.length g B → Q (.ref p) H') (hvs : vs = [v, .ref a, .str (sd d), u, .ref L] := by rfl) : spLAll K vs H Q E := by
  unfold spLAll
  exact ⟨v, u, a, L, b, ws, M, ps, d, hvs, hv, hb.mono hi, h, hw, hu, hz.mono hj, h1, hL, hk, q⟩
end Cc
/-! XWay: walks over neighbours; how far each is; the way that is told. -/
namespace Cc
open PySem PySem.Spec PyProof.Rows L2
/-! ### walks -/
inductive Wk (G : Str → List Str) (t : Str) : Nat → Str → Prop
  | zero : Wk G t 0 t
  | step {n : Nat} {x y : Str} : Wk G t n x → y ∈ G x → Wk G t (n + 1) y
/-- y is n steps from t, and no fewer -/
def Ds (G : Str → List Str) (t : Str) (n : Nat) (y : Str) : Prop := Wk G t n y ∧ ∀ m, m < n → ¬ Wk G t m y
section
variable {G : Str → List Str} {t : Str}
theorem Ds.uniq {m n : Nat} {y : Str} (h1 : Ds G t m y) (h2 : Ds G t n y) : m = n := by
  rcases Nat.lt_trichotomy m n with h | h | h
  · exact absurd h1.1 (h2.2 m h)
  · exact h
  · exact absurd h2.1 (h1.2 n h)
theorem Wk.ds : ∀ {n : Nat} {y : Str}, Wk G t n y → ∃ m, m ≤ n ∧ Ds G t m y := by
  intro n
  induction n using Nat.strongRecOn with
  | ind n ih =>
    intro y h
    by_cases c : ∃ m, m < n ∧ Wk G t m y
    · obtain ⟨m, hm, hw⟩ := c
      obtain ⟨k, hk, hd⟩ := ih m hm hw
      exact ⟨k, by omega, hd⟩
    · exact ⟨n, Nat.le_refl _, h, fun m hm hw => c ⟨m, hm, hw⟩⟩
theorem Ds.zero : Ds G t 0 t := ⟨.zero, fun m h => absurd h (Nat.not_lt_zero m)⟩
theorem Ds.of_zero {y : Str} (h : Ds G t 0 y) : y = t := by cases h.1; rfl
theorem Ds.back {n : Nat} {y : Str} (h : Ds G t (n + 1) y) : ∃ x, Ds G t n x ∧ y ∈ G x := by
  obtain ⟨hw, hn⟩ := h
  cases hw with
  | step hx hy =>
    rename_i x
    obtain ⟨m, hm, hd⟩ := hx.ds
    by_cases e : m = n
    · exact ⟨x, by rw [← e]; exact hd, hy⟩
    · exact absurd (Wk.step hd.1 hy) (hn _ (by omega))
theorem Ds.on {n : Nat} {x y : Str} (h : Ds G t n x) (hy : y ∈ G x) : ∃ m, m ≤ n + 1 ∧ Ds G t m y := (Wk.step h.1 hy).ds
theorem Ds.less {n : Nat} {y : Str} (h : Ds G t n y) : ∀ m, m ≤ n → ∃ x, Ds G t m x := by
  induction n generalizing y with
  | zero =>
    intro m hm
    exact ⟨y, by rw [show m = 0 by omega]; exact h⟩
  | succ n ih =>
    intro m hm
    by_cases e : m = n + 1
    · exact ⟨y, by rw [e]; exact h⟩
    · obtain ⟨x, hx, _⟩ := h.back
      exact ih hx m (by omega)
/-! ### the same both ways -/
def Sym (G : Str → List Str) : Prop := ∀ x y, y ∈ G x → x ∈ G y
theorem Wk.trans' {s : Str} {m : Nat} {y : Str} (h1 : Wk G t m s) : ∀ {n : Nat}, Wk G s n y → Wk G t (m + n) y := by
  intro n h
  induction h with
  | zero => exact h1
  | step _ hy ih => exact Wk.step ih hy
theorem Wk.one {x y : Str} (h : y ∈ G x) : Wk G x 1 y := Wk.step .zero h
theorem Wk.rev (hs : Sym G) : ∀ {n : Nat} {y : Str}, Wk G t n y → Wk G y n t := by
  intro n y h
  induction h with
  | zero => exact .zero
  | step _ hy ih =>
    rename_i n x y _
    have := (Wk.one (hs _ _ hy)).trans' ih
    rw [Nat.add_comm] at this
    exact this
theorem Ds.rev (hs : Sym G) {n : Nat} {y : Str} (h : Ds G t n y) : Ds G y n t := ⟨h.1.rev hs, fun m hm hw => h.2 m hm (hw.rev hs)⟩
/-! ### the way -/
noncomputable def nearer (G : Str → List Str) (t : Str) (n : Nat) (x : Str) : Bool := @decide (∃ m, m < n ∧ Ds G t m x) (Classical.propDecidable _)
theorem nearer_iff {G : Str → List Str} {t : Str} {n : Nat} {x : Str} : nearer G t n x = true ↔ ∃ m, m < n ∧ Ds G t m x := by
  unfold nearer
  exact ⟨fun h => @of_decide_eq_true _ (Classical.propDecidable _) h, fun h => @decide_eq_true _ (Classical.propDecidable _) h⟩
theorem nearer_of {G : Str → List Str} {t : Str} {n m : Nat} {x : Str} (h : Ds G t m x) : nearer G t n x = decide (m < n) := by
  by_cases c : m < n
  · rw [decide_eq_true c]
    exact nearer_iff.mpr ⟨m, c, h⟩
  · rw [decide_eq_false c]
    cases e : nearer G t n x with
    | false => rfl
    | true =>
      obtain ⟨k, hk, hd⟩ := nearer_iff.mp e
      have := hd.uniq h
      omega
noncomputable def nxW (G : Str → List Str) (t y : Str) (n : Nat) : Str := ((G y).filter (nearer G t n)).headD y
noncomputable def wayL (G : Str → List Str) (t : Str) : Str → Nat → List Str
  | y, 0 => [y]
  | y, n + 1 => y :: wayL G t (nxW G t y (n + 1)) n
theorem nx_ok (hs : Sym G) {n : Nat} {y : Str} (h : Ds G t (n + 1) y) : nxW G t y (n + 1) ∈ G y ∧ Ds G t n (nxW G t y (n + 1)) := by
  obtain ⟨x, hx, hy⟩ := h.back
  have hm : x ∈ (G y).filter (nearer G t (n + 1)) := List.mem_filter.mpr ⟨hs _ _ hy, nearer_iff.mpr ⟨n, Nat.lt_succ_self n, hx⟩⟩
  have hh : nxW G t y (n + 1) ∈ (G y).filter (nearer G t (n + 1)) := by
    unfold nxW
    cases e : (G y).filter (nearer G t (n + 1)) with
    | nil => rw [e] at hm; cases hm
    | cons a r => exact List.mem_cons_self
  obtain ⟨h1, h2⟩ := List.mem_filter.mp hh
  obtain ⟨m, hm, hd⟩ := nearer_iff.mp h2
  obtain ⟨k, hk, hd2⟩ := hd.on (hs _ _ h1)
  have := hd2.uniq h
  refine ⟨h1, ?_⟩
  rw [show n = m by omega]
  rw [show n = m by omega] at hd
  exact hd
theorem way_len : ∀ (n : Nat) (y : Str), (wayL G t y n).length = n + 1
  | 0, _ => rfl
  | n + 1, y => by
    show (wayL G t _ n).length + 1 = _
    rw [way_len n]
theorem way_head (n : Nat) (y : Str) : (wayL G t y n)[0]? = some y := by cases n <;> rfl
theorem way_last (hs : Sym G) : ∀ {n : Nat} {y : Str}, Ds G t n y → (wayL G t y n)[n]? = some t
  | 0, y, h => by
    rw [h.of_zero]
    rfl
  | n + 1, y, h => by
    show (wayL G t _ n)[n]? = _
    exact way_last hs (nx_ok hs h).2
theorem way_ds (hs : Sym G) : ∀ {n : Nat} {y : Str}, Ds G t n y → ∀ {i : Nat} {x : Str}, (wayL G t y n)[i]? = some x → i ≤ n ∧ Ds G t (n - i) x
  | 0, y, h, i, x, e => by
    cases i with
    | zero => cases e; exact ⟨Nat.le_refl _, h⟩
    | succ i => simp [wayL] at e
  | n + 1, y, h, 0, x, e => by
    cases e
    exact ⟨Nat.zero_le _, h⟩
  | n + 1, y, h, i + 1, x, e => by
    obtain ⟨h1, h2⟩ := way_ds hs (nx_ok hs h).2 (show (wayL G t _ n)[i]? = some x from e)
    exact ⟨by omega, by rw [Nat.add_sub_add_right]; exact h2⟩
theorem way_steps (hs : Sym G) : ∀ {n : Nat} {y : Str}, Ds G t n y → ∀ {i : Nat} {x z : Str}, (wayL G t y n)[i]? = some x → (wayL G t y n)[i + 1]? = some z → z ∈ G x
  | 0, y, h, i, x, z, _, e => by simp [wayL] at e
  | n + 1, y, h, 0, x, z, e1, e2 => by
    cases e1
    have e2 : (wayL G t (nxW G t y (n + 1)) n)[0]? = some z := e2
    rw [way_head] at e2
    cases e2
    exact (nx_ok hs h).1
  | n + 1, y, h, i + 1, x, z, e1, e2 => way_steps hs (nx_ok hs h).2 (show (wayL G t _ n)[i]? = some x from e1) (show (wayL G t _ n)[i + 1]? = some z from e2)
theorem way_nodup (hs : Sym G) {n : Nat} {y : Str} (h : Ds G t n y) : (wayL G t y n).Nodup := by
  refine List.pairwise_iff_getElem.mpr fun i j hi hj hij e => ?_
  obtain ⟨a1, a2⟩ := way_ds hs h (List.getElem?_eq_getElem hi)
  obtain ⟨b1, b2⟩ := way_ds hs h (List.getElem?_eq_getElem hj)
  rw [e] at a2
  have := a2.uniq b2
  omega
end
/-! ### neighbours' names -/
def nbM (ns : List (Str × Bx)) (y : Str) : List Str :=
  match bxOf ns y with
  | some b => (nearM ns b).map (·.1)
  | none => []
theorem nb_mem {ns : List (Str × Bx)} {x y : Str} : y ∈ nbM ns x ↔ ∃ b c, bxOf ns x = some b ∧ bxOf ns y = some c ∧ touchM b c ≠ 0 := by
  unfold nbM
  cases h : bxOf ns x with
  | none => exact ⟨fun z => (by cases z), fun ⟨_, _, z, _⟩ => (by cases z)⟩
  | some b =>
    dsimp only
    rw [List.mem_map]
    constructor
    · rintro ⟨p, hp, rfl⟩
      obtain ⟨c, h1, h2, h3⟩ := near_mem.mp (show (p.1, p.2) ∈ nearM ns b from hp)
      exact ⟨b, c, rfl, h1, by rw [h2]; exact h3⟩
    · rintro ⟨b', c, e, h1, h2⟩
      cases e
      exact ⟨(y, touchM b c), near_mem.mpr ⟨c, h1, rfl, h2⟩, rfl⟩
theorem nb_sym (ns : List (Str × Bx)) : Sym (nbM ns) := fun x y h => by
  obtain ⟨b, c, h1, h2, h3⟩ := nb_mem.mp h
  exact nb_mem.mpr ⟨c, b, h2, h1, by rw [touch_comm]; exact h3⟩
theorem nb_name {ns : List (Str × Bx)} {x y : Str} (h : y ∈ nbM ns x) : y ∈ ns.map (·.1) := by
  obtain ⟨b, c, _, h2, _⟩ := nb_mem.mp h
  exact List.mem_map.mpr ⟨_, bxOf_some h2, rfl⟩
theorem wk_name {ns : List (Str × Bx)} {t : Str} (ht : t ∈ ns.map (·.1)) {n : Nat} {y : Str} (h : Wk (nbM ns) t n y) : y ∈ ns.map (·.1) := by
  cases h with
  | zero => exact ht
  | step _ hy => exact nb_name hy
theorem sub_len {α : Type} [DecidableEq α] : ∀ {xs ys : List α}, xs.Nodup → (∀ x ∈ xs, x ∈ ys) → xs.length ≤ ys.length
  | [], _, _, _ => Nat.zero_le _
  | x :: r, ys, nd, h => by
    rw [List.nodup_cons] at nd
    have hx := h x List.mem_cons_self
    have ih := sub_len (ys := ys.erase x) nd.2 fun y hy => (List.mem_erase_of_ne (fun e => nd.1 (by rw [← e]; exact hy))).mpr (h y (List.mem_cons_of_mem _ hy))
    rw [List.length_erase_of_mem hx] at ih
    have := List.length_pos_of_mem hx
    rw [List.length_cons]
    omega
/-! ### the widening -/
/-- all that is k steps far or nearer is in fs; what is just k steps far is in rs -/
structure Bfs (G : Str → List Str) (t : Str) (k : Nat) (fs : List (Str × Nat)) (rs : List Str) : Prop where
  nd : (fs.map (·.1)).Nodup
  mem : ∀ y n, (y, n) ∈ fs ↔ Ds G t n y ∧ n ≤ k
  rs : ∀ y, y ∈ rs ↔ Ds G t k y
/-- amid a round: the names in fur are new -/
structure BfsM (G : Str → List Str) (t : Str) (k : Nat) (fs : List (Str × Nat)) (P : Str → Prop) (fur : List Str) : Prop where
  nd : fur.Nodup
  mem : ∀ y, y ∈ fur ↔ Ds G t (k + 1) y ∧ P y
section
variable {G : Str → List Str} {t : Str} {k : Nat} {fs : List (Str × Nat)} {rs fur : List Str} {P P' : Str → Prop}
theorem Bfs.start : Bfs G t 0 [(t, 0)] [t] where
  nd := by simp
  mem := fun y n => by
    rw [List.mem_singleton]
    constructor
    · intro e
      cases e
      exact ⟨.zero, Nat.le_refl _⟩
    · rintro ⟨h, hn⟩
      have : n = 0 := by omega
      subst this
      rw [h.of_zero]
  rs := fun y => by
    rw [List.mem_singleton]
    exact ⟨fun e => by rw [e]; exact .zero, fun h => h.of_zero⟩
/-- what is in the dict amid a round -/
theorem BfsM.all (b : Bfs G t k fs rs) (m : BfsM G t k fs P fur) : ((fs ++ fur.map fun y => (y, k + 1)).map (·.1)).Nodup := by
  rw [List.map_append, List.map_map, show ((fun x : Str × Nat => x.1) ∘ fun y => (y, k + 1)) = id from rfl, List.map_id, List.nodup_append]
  refine ⟨b.nd, m.nd, fun x hx y hy e => ?_⟩
  subst e
  obtain ⟨⟨x', n⟩, hp, rfl⟩ := List.mem_map.mp hx
  have h1 := (b.mem _ _).mp hp
  have h2 := (m.mem _).mp hy
  have := h1.1.uniq h2.1
  omega
theorem BfsM.add (b : Bfs G t k fs rs) (m : BfsM G t k fs P fur) {y x : Str} (hx : Ds G t k x) (hy : y ∈ G x) (hn : y ∉ (fs ++ fur.map fun y => (y, k + 1)).map (·.1)) (hP : ∀ z, P' z ↔ P z ∨ z = y) : BfsM G t k fs P' (fur ++ [y]) := by
  rw [List.map_append, List.map_map, show ((fun x : Str × Nat => x.1) ∘ fun y => (y, k + 1)) = id from rfl, List.map_id] at hn
  have n1 : y ∉ fs.map (·.1) := fun h => hn (List.mem_append_left _ h)
  have n2 : y ∉ fur := fun h => hn (List.mem_append_right _ h)
  have hd : Ds G t (k + 1) y := by
    obtain ⟨i, hi, hd⟩ := hx.on hy
    by_cases e : i = k + 1
    · rw [← e]; exact hd
    · exact absurd (List.mem_map.mpr ⟨(y, i), (b.mem y i).mpr ⟨hd, by omega⟩, rfl⟩) n1
  refine ⟨?_, fun z => ?_⟩
  · rw [List.nodup_append]
    exact ⟨m.nd, by simp, fun a ha c hc e => n2 (by rw [← List.mem_singleton.mp hc, ← e]; exact ha)⟩
  · rw [List.mem_append, List.mem_singleton, m.mem, hP]
    constructor
    · rintro (⟨h1, h2⟩ | rfl)
      · exact ⟨h1, .inl h2⟩
      · exact ⟨hd, .inr rfl⟩
    · rintro ⟨h1, h2 | rfl⟩
      · exact .inl ⟨h1, h2⟩
      · exact .inr rfl
theorem BfsM.skip (b : Bfs G t k fs rs) (m : BfsM G t k fs P fur) {y : Str} (hn : y ∈ (fs ++ fur.map fun y => (y, k + 1)).map (·.1)) (hP : ∀ z, P' z ↔ P z ∨ z = y) : BfsM G t k fs P' fur := by
  rw [List.map_append, List.map_map, show ((fun x : Str × Nat => x.1) ∘ fun y => (y, k + 1)) = id from rfl, List.map_id] at hn
  refine ⟨m.nd, fun z => ?_⟩
  rw [m.mem, hP]
  constructor
  · rintro ⟨h1, h2⟩
    exact ⟨h1, .inl h2⟩
  · rintro ⟨h1, h2 | rfl⟩
    · exact ⟨h1, h2⟩
    · rcases List.mem_append.mp hn with hn | hn
      · obtain ⟨⟨z', n⟩, hp, rfl⟩ := List.mem_map.mp hn
        have h3 := (b.mem _ _).mp hp
        have := h3.1.uniq h1
        omega
      · exact ⟨h1, ((m.mem _).mp hn).2⟩
theorem Bfs.next (b : Bfs G t k fs rs) (m : BfsM G t k fs P fur) (hP : ∀ y, Ds G t (k + 1) y → P y) : Bfs G t (k + 1) (fs ++ fur.map fun y => (y, k + 1)) fur where
  nd := m.all b
  mem := fun y n => by
    rw [List.mem_append, List.mem_map, b.mem]
    constructor
    · rintro (⟨h1, h2⟩ | ⟨z, hz, e⟩)
      · exact ⟨h1, by omega⟩
      · cases e
        exact ⟨((m.mem _).mp hz).1, Nat.le_refl _⟩
    · rintro ⟨h1, h2⟩
      by_cases e : n = k + 1
      · subst e
        exact .inr ⟨y, (m.mem _).mpr ⟨h1, hP _ h1⟩, rfl⟩
      · exact .inl ⟨h1, by omega⟩
  rs := fun y => by
    rw [m.mem]
    exact ⟨fun h => h.1, fun h => ⟨h, hP _ h⟩⟩
theorem Bfs.done (b : Bfs G t k fs []) (y : Str) (n : Nat) : (y, n) ∈ fs ↔ Ds G t n y := by
  rw [b.mem]
  refine ⟨fun h => h.1, fun h => ⟨h, ?_⟩⟩
  rcases Nat.lt_or_ge n k with c | c
  · omega
  · obtain ⟨x, hx⟩ := h.less k c
    exact absurd ((b.rs x).mpr hx) (by simp)
end
/-! ### promises -/
section
variable {K : PySem.W.Frag} {H H' : Hp}
def StR (kv : Key × V) (x : Str × Nat) : Prop := kv.1 = Sum.inr x.1 ∧ kv.2 = .int (x.2 : Int)
/-- the dict of steps, as it stands -/
structure StD (H : Hp) (F : Addr) (ns : List (Str × Bx)) (t : Str) : Prop where
  at_ : ∃ sd fs, H F = some (.dK sd) ∧ Paired StR sd fs ∧ (fs.map (·.1)).Nodup ∧ ∀ y n, (y, n) ∈ fs ↔ Ds (nbM ns) t n y
theorem StD.same {F : Addr} {ns : List (Str × Bx)} {t : Str} (h : StD H F ns t) (e : Same H H') : StD H' F ns t := by
  obtain ⟨sd, fs, h1, h2⟩ := h.at_
  exact ⟨sd, fs, e _ _ h1, h2⟩
/-- what it holds of a name -/
theorem StD.get {F : Addr} {ns : List (Str × Bx)} {t : Str} (h : StD H F ns t) {y : Str} {n : Nat} (hd : Ds (nbM ns) t n y) : DGet H F (.str y) (some (.int (n : Int))) := by
  obtain ⟨sd, fs, h1, h2, h3, h4⟩ := h.at_
  obtain ⟨kv, h5, h6⟩ := pr_val (fun _ _ h => h.1) h2 h3 ((h4 y n).mpr hd)
  have e : kv.2 = .int (n : Int) := h6.2
  rw [e] at h5
  exact .inl ⟨sd, Sum.inr y, .inl h1, rfl, h5.symm⟩
theorem StD.none {F : Addr} {ns : List (Str × Bx)} {t : Str} (h : StD H F ns t) {y : Str} (hd : ∀ n, ¬ Ds (nbM ns) t n y) : DGet H F (.str y) none := by
  obtain ⟨sd, fs, h1, h2, h3, h4⟩ := h.at_
  have h5 := pr_none (fun _ _ h => h.1) h2 (z := y) fun h => by
    obtain ⟨⟨y', n⟩, hp, rfl⟩ := List.mem_map.mp h
    exact hd n ((h4 _ _).mp hp)
  exact .inl ⟨sd, Sum.inr y, .inl h1, rfl, h5.symm⟩
end
@[irreducible] def spSteps (K : PySem.W.Frag) : Sp := fun vs H Q _ => ∃ (D : Addr) (z : Str) (kvs : List (Key × V)) (ns : List (Str × Bx)) (b : Bx), vs = [.ref D, .str z] ∧ NmD K H D kvs ns ∧ NOk ns ∧ bxOf ns z = some b ∧ ∀ F H', H F = none → Same H H' → StD H' F ns z → Q (.ref F) H'
theorem steps_step {K : PySem.W.Frag} {H : Hp} {Q : VK} {E : XK} {vs : List V} {D : Addr} {z : Str} {kvs : List (Key × V)} {ns : List (Str × Bx)} {b : Bx} (h : NmD K H D kvs ns) (ho : NOk ns) (hb : bxOf ns z = some b) (q : ∀ F H', H F = none → Same H H' → StD H' F ns z → Q (.ref F) H') (hvs : vs = [.ref D, .str z] := by rfl) : spSteps K vs H Q E := by
  unfold spSteps
  exact ⟨D, z, kvs, ns, b, hvs, h, ho, hb, q⟩
@[irreducible] def spNext (K : PySem.W.Frag) : Sp := fun vs H Q _ => ∃ (D F : Addr) (y t : Str) (kvs : List (Key × V)) (ns : List (Str × Bx)) (n : Nat), vs = [.ref D, .str y, .ref F] ∧ NmD K H D kvs ns ∧ NOk ns ∧ y ∈ ns.map (·.1) ∧ StD H F ns t ∧ Ds (nbM ns) t (n + 1) y ∧ ∀ H', Same H H' → Q (.str (nxW (nbM ns) t y (n + 1))) H'
theorem next_step {K : PySem.W.Frag} {H : Hp} {Q : VK} {E : XK} {vs : List V} {D F : Addr} {y t : Str} {kvs : List (Key × V)} {ns : List (Str × Bx)} {n : Nat} (h : NmD K H D kvs ns) (ho : NOk ns) (hb : y ∈ ns.map (·.1)) (hF : StD H F ns t) (hd : Ds (nbM ns) t (n + 1) y) (q : ∀ H', Same H H' → Q (.str (nxW (nbM ns) t y (n + 1))) H') (hvs : vs = [.ref D, .str y, .ref F] := by rfl) : spNext K vs H Q E := by
  unfold spNext
  exact ⟨D, F, y, t, kvs, ns, n, hvs, h, ho, hb, hF, hd, q⟩
@[irreducible] def spWay (K : PySem.W.Frag) : Sp := fun vs H Q _ => ∃ (D : Addr) (y t : Str) (kvs : List (Key × V)) (ns : List (Str × Bx)), vs = [.ref D, .str y, .str t] ∧ NmD K H D kvs ns ∧ NOk ns ∧ y ∈ ns.map (·.1) ∧ t ∈ ns.map (·.1) ∧ ((∀ n, ¬ Ds (nbM ns) t n y) → ∀ H', Same H H' → Q .non H') ∧ ∀ n, Ds (nbM ns) t n y → ∀ L H', H L = none → Same H H' → H' L = some (.lst ((wayL (nbM ns) t y n).map V.str)) → Q (.ref L) H'
theorem way_step {K : PySem.W.Frag} {H : Hp} {Q : VK} {E : XK} {vs : List V} {D : Addr} {y t : Str} {kvs : List (Key × V)} {ns : List (Str × Bx)} (h : NmD K H D kvs ns) (ho : NOk ns) (hy : y ∈ ns.map (·.1)) (ht : t ∈ ns.map (·.1)) (q0 : (∀ n, ¬ Ds (nbM ns) t n y) → ∀ H', Same H H' → Q .non H')
    (q : ∀ n, Ds (nbM ns) t n y → ∀ L H', H L = none → Same H H' → H' L = some (.lst ((wayL (nbM ns) t y n).map V.str)) → Q (.ref L) H') (hvs : vs = [.ref D, .str y, .str t] := by rfl) : spWay K vs H Q E := by
  unfold spWay
  exact ⟨D, y, t, kvs, ns, hvs, h, ho, hy, ht, q0, q⟩
end Cc
set_option maxHeartbeats 4000000
/-! XTry: several clauses «except C as e», e's class told only when it comes; e.f there. -/
namespace L2
open PySem PySem.Spec PyProof.Rows
/-- the ends of a suite: the clause's name goes at each -/
def goEnds (i : Nat) (D : Ends) : Ends where
  nx := fun τ G => D.nx (τ.set i none) G
  rt := D.rt
  bk := fun τ G => D.bk (τ.set i none) G
  ct := fun τ G => D.ct (τ.set i none) G
abbrev Clause := Value × (Addr → Value → Option Addr → TS)
/-- what the clauses, all by the name in slot i, wish of an exception of the body -/
def wNamed (K : PySem.W.Frag) (i : Nat) (Wout : WX) (D : Ends) : List Clause → WX
  | [] => Wout
  | q :: r => fun cls d τ G => ∃ b, PySem.W.exmOne K cls q.1 = some b ∧ (b = true → ∀ x, G x = none → q.2 x cls d (goEnds i D) (τ.set i (some (.ref x))) G) ∧ (b = false → wNamed K i Wout D r cls d τ G)
inductive Clauses (X : Cx) (n : Str) : List ExceptHandler → List Clause → Prop
  | nil : Clauses X n [] []
  | cons {x : Str} {c : Value} {ts : Addr → Value → Option Addr → TS} {st₀ : Stmt} {su : List Stmt} {np hp : Pos} {hs : List ExceptHandler} {l : List Clause} (nm : Names X x c)
      (ok : ∀ (e : Addr) (oe : Obj) (cls : Value) (d : Option Addr) (pn : List (Addr × Obj)), Zc cls d oe → (∃ vs, oe.data = .fields vs) → PSs (X.suite e ((e, oe) :: pn)) (st₀ :: su) (ts e cls d)) (more : Clauses X n hs l) :
      Clauses X n (.ExceptHandler (some (.Name x np)) (some n) (st₀ :: su) hp :: hs) ((c, ts) :: l)
section
variable {X : Cx} {pins : List (Addr × Obj)} {τ : St} {G : Hp} {cls : Value} {d : Option Addr} {x : Addr} {B : Heap} {z : Shared}
/-- an exception on its way over X's frame, its flight noted by none -/
structure Air (X : Cx) (pins : List (Addr × Obj)) (τ : St) (G : Hp) (cls : Value) (d : Option Addr) (x : Addr) (B : Heap) (z0 z : Shared) : Prop where
  inv : Inv X pins τ G z0
  gnd : ∀ b o, z0.heap.get? b = some o → b ∉ frs X.stack → B.get? b = some o
  ups : z0.heap.UpToSlots z.heap
  fly : HandSPX.FlyingZ B (X.env :: X.outer) x (Zc cls d) z.heap
  new : G x = none
  os : z.os = z0.os
  bare : AllBare z.gens
theorem Air.at_ {z0 : Shared} (w : Air X pins τ G cls d x B z0 z) : Inv X pins τ G z := w.inv.landed w.gnd w.fly.1 w.ups w.os w.bare
theorem Air.no_frame {z0 : Shared} (w : Air X pins τ G cls d x B z0 z) {o : Obj} {vs : Array Value} (e : z.heap.get? x = some o) (f : o.data = .fields vs) : x ∉ frs (X.env :: X.outer) := fun hm => by
  obtain ⟨_, o2, e2, no⟩ := w.fly.2.2.1.mem hm
  rw [e] at e2
  cases e2
  exact no _ f
theorem Air.suite {z0 : Shared} (w : Air X pins τ G cls d x B z0 z) (hf : X.env.frame = some X.env.locals) : ∃ oe, Zc cls d oe ∧ (∃ vs, oe.data = .fields vs) ∧ Inv (X.suite x ((x, oe) :: (X.pn ++ pins))) [] τ G z ∧ z.heap.get? x = some oe := by
  obtain ⟨oe, vs, e, hz, dt⟩ := w.fly.there
  have nf := w.no_frame e dt
  refine ⟨oe, hz, ⟨vs, dt⟩, w.at_.suite e dt w.new (fun q => nf (List.mem_filterMap.mpr ⟨X.env, List.mem_cons_self, by rw [hf, q]⟩)) (fun hm => ?_), e⟩
  obtain ⟨v, hv, q⟩ := List.mem_filterMap.mp hm
  exact nf (List.mem_filterMap.mpr ⟨v, List.mem_cons_of_mem _ hv, q⟩)
/-- the class that a clause names is looked up -/
theorem Air.named {z0 : Shared} (w : Air X pins τ G cls d x B z0 z) (hf : X.env.frame = some X.env.locals) {y : Str} {c : Value} {np : Pos} (nm : Names X y c) {R : Value → Shared → Prop} {F : Value → Shared → Prop} (r : R c z) :
    wpAny (model X.prog X.w) (X.A.mark (some (.ref x))) (eval (.Name y np) X.env) R F z := by
  obtain ⟨oe, _, _, S, _⟩ := w.suite hf
  obtain ⟨g, db, h | ⟨h, v, nn⟩⟩ := nm
  · exact ld_glob (X := X.suite x ((x, oe) :: (X.pn ++ pins))) S g h r db
  · exact ld_blt (X := X.suite x ((x, oe) :: (X.pn ++ pins))) S g h v r nn db
/-- no clause is its own: it goes on -/
theorem Air.on {z0 : Shared} {Wout : WX} {D : Ends} (w : Air X pins τ G cls d x B z0 z) (hs : X.stack = X.env :: X.outer) (hf : X.env.frame = some X.env.locals) (tk : Takes X Wout) (q : Wout cls d τ G) :
    wpAny (model X.prog X.w) X.A (handleBy (.ref x) X.env []) (SP X pins D) X.xe z := by
  refine wpAny_handleBy_nil ?_
  obtain ⟨_, _, _, oe, vs, T, oT, ts, e, _, dt, h1, _⟩ := id w.fly
  have go : wpAny (model X.prog X.w) X.A (setFlight (.ref x) X.env.frame) (fun _ y => wpAny (model X.prog X.w) X.A (throw (.ref x) : Sem Flow) (SP X pins D) X.xe y) X.xe z := by
    rw [hf]
    refine HandSPX.setFlight_upZ w.fly fun g hg ug => wpAny_throw (tk _ _ ?_)
    exact ⟨x, B, z0, pins, τ, G, cls, d, rfl, w.inv, w.gnd, w.ups.trans ug, .inr (.inr (by rw [hs]; exact hg)), w.new, w.os, w.bare, q⟩
  unfold PySem.passOn
  refine wpAny_bind (wpAny_field e dt h1 ?_)
  rw [if_neg (show ¬ ((Value.ref T == Value.none) = true) by simp)]
  first
    | exact wpAny_bind (wpAny_pure (wpAny_bind go))
    | exact wpAny_bind go
/-- the clauses one by one -/
theorem Air.by_ {z0 : Shared} {Wout : WX} {D : Ends} {n : Str} {i : Nat} (hs : X.stack = X.env :: X.outer) (hf : X.env.frame = some X.env.locals) (hN : X.N.Nodup) (hi : X.N[i]? = some n) (hl : X.env.kindOf n = some .local) (tk : Takes X Wout)
    (w : Air X pins τ G cls d x B z0 z) {hds : List ExceptHandler} {l : List Clause} (hk : Clauses X n hds l) (q : wNamed X.K i Wout D l cls d τ G) : wpAny (model X.prog X.w) X.A (handleBy (.ref x) X.env hds) (SP X pins D) X.xe z := by
  induction hk with
  | nil => exact w.on hs hf tk q
  | @cons y c ts st₀ su np hp hds' l' nm ok more ih =>
    obtain ⟨b, hb, yes, no⟩ := q
    obtain ⟨oe, hz, hd, _, e⟩ := w.suite hf
    have lk : PySem.W.Looks (model X.prog X.w) z.heap (typeOf (.ref x)) cls := fun _ _ _ _ k r => wpAny_typeOf_ref (k _ _ e) (by rw [hz.1]; exact r)
    have lm := PySem.W.exm_one (M := model X.prog X.w) w.at_.kIn lk hb
    refine wpAny_handleBy_cons (codeAny_handlers_test (w.named hf nm (lm.here ?_))) (by intro r; cases r)
    cases b with
    | false => exact ih (no rfl)
    | true =>
      refine codeAny_handlers_suite_as (HandSPX.lands_againZ w.fly fun g fl ug => ?_)
      have w2 : Air X pins τ G cls d x B z0 { z with heap := g } := ⟨w.inv, w.gnd, w.ups.trans ug, fl, w.new, w.os, w.bare⟩
      obtain ⟨o2, hz2, hd2, S2, _⟩ := w2.suite hf
      refine store_ok (X := X.suite x ((x, o2) :: (X.pn ++ pins))) (v := .ref x) S2 hN hi (.inl hl) rfl (fun y5 S5 => ?_) (.inr hl)
      have shut : ∀ {τ6 : St} {G6 : Hp} {R : Shared → Prop} {y6 : Shared}, Inv (X.suite x ((x, o2) :: (X.pn ++ pins))) [] τ6 G6 y6 → (∀ y7, Inv X pins (τ6.set i none) G6 y7 → R y7) →
          wpAny (model X.prog X.w) X.A (do bindName X.env n .none; unbindBehindTheSuite X.env n hp) (fun _ y7 => R y7) X.xe y6 := fun {τ6 G6 R y6} S6 r => gone_ok (S6.unsuite w.inv.ok) hN hi hl r
      refine wpAny_mono ((ok x o2 cls d (X.pn ++ pins) hz2 hd2).run [] y5 _ G _ S5 (yes rfl x w.new)) (fun f y6 fin => ?_) (fun _ _ r => False.elim r)
      cases f with
      | next =>
        obtain ⟨τ6, G6, S6, r⟩ := fin
        exact shut S6 fun _ J => ⟨_, _, J, r⟩
      | brk =>
        obtain ⟨τ6, G6, S6, r⟩ := fin
        exact shut S6 fun _ J => ⟨_, _, J, r⟩
      | cont =>
        obtain ⟨τ6, G6, S6, r⟩ := fin
        exact shut S6 fun _ J => ⟨_, _, J, r⟩
      | ret u =>
        obtain ⟨v6, τ6, G6, S6, ru, r⟩ := fin
        exact shut S6 fun _ J => ⟨_, _, _, J, ru, r⟩
/-- try: body; except C as e: ..; except C2 as e: .. -/
theorem ps_try_named {body : List Stmt} {h₀ : ExceptHandler} {hds : List ExceptHandler} {l : List Clause} {pos : Pos} {tb : WX → TS} {Wout : WX} {n : Str} {i : Nat} (hs : X.stack = X.env :: X.outer) (hf : X.env.frame = some X.env.locals) (hN : X.N.Nodup) (hi : X.N[i]? = some n) (hl : X.env.kindOf n = some .local) (tk : Takes X Wout)
    (hb : ∀ (W : WX) (pn : List (Addr × Obj)) (xe : Value → Shared → Prop), Takes (X.tr pn xe) W → PassesOwn (model X.prog X.w) X.A X.env xe → PSs (X.tr pn xe) body (tb W)) (hk : Clauses X n (h₀ :: hds) l) :
    PS X (.Try body (h₀ :: hds) [] [] pos) (fun D τ G => tb (wNamed X.K i Wout D l) D τ G) := by
  refine ⟨fun pins z τ G D I h => wpAny_Try_except ?_⟩
  have ok := I.ok
  have hfr : X.A.frames = some (X.env :: X.outer) := by rw [ok.frames, hs]
  refine wpAny_mono ((hb (wNamed X.K i Wout D l) (X.pn ++ pins) (fun e y1 => wpAny (model X.prog X.w) X.A (noteFrame e X.env) (fun _ y2 => wpAny (model X.prog X.w) X.A (setFlight e none)
    (fun _ y3 => wpAny (model X.prog X.w) X.A (handleBy e X.env (h₀ :: hds)) (SP X pins D) X.xe y3) X.xe y2) X.xe y1) (fun u y xx => ?_) PassesOwn.looking).run [] z τ G D (I.toTry _) h) (fun f y fin => ?_) (fun _ _ r => r)
  · obtain ⟨x, B, z0, pins', τ', G', cls, d, rfl, J, nb, up, sky, na, os, ag, q⟩ := xx
    show wpAny (model X.prog X.w) X.A (noteFrame (.ref x) X.env) _ _ _
    refine Sky.land Zc.steady hfr hf (show Sky B (X.env :: X.outer) x (Zc cls d) X.env.locals y.heap by rw [← hs]; exact sky) fun g fl ug => ?_
    exact Air.by_ (z := { y with heap := g }) hs hf hN hi hl tk ⟨J.ofTry ok, nb, up.trans ug, fl, na, os, ag⟩ hk q
  · cases f with
    | next =>
      obtain ⟨τ', G', J, r⟩ := fin
      exact wpAny_execs_nil ⟨τ', G', J.ofTry ok, r⟩
    | brk =>
      obtain ⟨τ', G', J, r⟩ := fin
      exact ⟨τ', G', J.ofTry ok, r⟩
    | cont =>
      obtain ⟨τ', G', J, r⟩ := fin
      exact ⟨τ', G', J.ofTry ok, r⟩
    | ret u =>
      obtain ⟨v, τ', G', J, ru, r⟩ := fin
      exact ⟨v, τ', G', J.ofTry ok, ru, r⟩
/-- e.f in a suite, of whatever class of the program's e is -/
def tFldX (K : PySem.W.Frag) (x : Addr) (cls : Value) (d : Option Addr) (f : Str) (te : TE) : TE := fun τ G Q => te τ G fun v G1 => v = .ref x ∧ ∃ (C dd : Addr) (fs : List (Str × V)) (y : V), cls = .ref C ∧ XfC K C ∧ PySem.W.findIn K (.ref C) f = some none ∧ d = some dd ∧ G1 dd = some (.xd fs) ∧ fs.lookup f = some y ∧ Q y G1
theorem pe_fldx {oe : Obj} {pn : List (Addr × Obj)} {e : Expr} {te : TE} {pos : Pos} {f : Str} (hz : Zc cls d oe) (hd : ∃ vs, oe.data = .fields vs) (he : PE (X.suite x ((x, oe) :: pn)) e te) (hb : attributeBase e f X.env (eval e X.env) = eval e X.env := by rfl) :
    PE (X.suite x ((x, oe) :: pn)) (.Attribute e f pos) (tFldX X.K x cls d f te) := by
  refine ⟨fun pins z τ G Q I h => attr_of hb (thn (he.run pins z τ G _ I h) fun u z1 hh => ?_)⟩
  obtain ⟨v, G1, I1, rv, rfl, C, dd, fs, y, rfl, T, no, rfl, ed, l, q⟩ := hh
  obtain rfl : u = Value.ref x := rv
  obtain ⟨ha, _⟩ := I1.pin (x, oe) (List.mem_append_left _ List.mem_cons_self)
  obtain ⟨vs, hd⟩ := hd
  have hx : ObjOk X.prog X.w G1 z1.heap dd (.xd fs) := I1.hok dd _ ed
  obtain ⟨mA, ns, r⟩ := hx
  obtain ⟨od, ho, hl⟩ := lookIn_ns ns
  obtain ⟨y2, e2, r2⟩ := RelO.some_of (v := y) (o := mA f) (by rw [← l]; exact r f)
  have J : PySem.W.InstAt z1.heap x oe C (some od) := ⟨ha, hz.1, by unfold PySem.W.notCls; rw [hd] <;> rfl, by rw [hz.2]; exact ho⟩
  exact HandSPX.exc_get I1.kIn J T.ga T.gg T.exC (PySem.W.findObj_own T.hdC no rfl (by rw [hl, e2])) (handed_of r2) ⟨y, G1, I1.tok _, r2, q⟩
end
end L2
set_option maxHeartbeats 4000000
/-! XLam: a lambda without parameters handed to a def that asks it, or hands it on to another that does. -/
namespace LamX
open PySem PySem.Spec PyProof.Rows L2
theorem un_comp {fs fs' : List Addr} {H H1 H2 : Hp} {h h1 h2 : Heap} (a : Un fs [] H H1 h h1) (b : Un fs' [] H1 H2 h1 h2) (hs : ∀ c ∈ fs', c ∈ fs ∨ h.get? c = none) : Un fs [] H H2 h h2 where
  keep := fun c ob q n hc hx => b.keep c ob (a.keep c ob q n hc hx) (a.free c ob q n hx) (fun z => (hs c z).elim hc fun e => by rw [q] at e; cases e) hx
  slot := fun c ob q n hc hx => by
    obtain ⟨sl, e⟩ := a.slot c ob q n hc hx
    obtain ⟨sl2, e2⟩ := b.any e (a.free c ob q n hx) hx
    exact ⟨sl2, e2⟩
  free := fun c ob q n hx => by
    obtain ⟨o', e⟩ := a.there c ob q hx
    exact b.free c o' e (a.free c ob q n hx) hx
  there := fun c ob q hx => by
    obtain ⟨o', e⟩ := a.there c ob q hx
    exact b.there c o' e hx
  tups := fun c xs e => b.tups c xs (a.tups c xs e)
  frzs := fun c o u e => b.frzs c o u (a.frzs c o u e)
  tbls := fun c ps e => by
    obtain ⟨m1, e1⟩ := a.tbls c ps e
    obtain ⟨m2, e2⟩ := b.tbls c _ e1
    exact ⟨m1 ++ m2, by rw [e2, Array.append_assoc]⟩
/-- what f is worth when it is called from any frames above fs, the heap s (told by H) being theirs -/
structure Acts (P : Program) (w : World) (K : PySem.W.Frag) (mg : Str → Option Value) (base : Heap) (fs : List Addr) (s : Shared) (H : Hp) (f c' : Addr) (q : Str) (j : Nat) (tl : XK → Hp → VK → Prop) : Prop where
  no : H f = none
  nf : f ∉ fs
  fn : PySem.W.FnAt f s.heap
  run : ∀ (A : Around) (outer : List Env) (s1 : Shared) (G : Hp) (Q : VK) (E : XK), Room j A → Env0 P w K mg base A outer s1 G → Un fs [] H G s.heap s1.heap → G c' = some (CodeO c' q) → tl E G Q →
    codeAny (model P w) A (.call (.ref f) ⟨[], []⟩) (CR (L2.CX P w) outer P w G s1 Q E) s1
section
variable {P : Program} {w : World} {K : PySem.W.Frag} {mg : Str → Option Value} {base : Heap} {fs fs' : List Addr} {s s1 : Shared} {H H1 : Hp} {f c' : Addr} {q : Str} {j : Nat} {tl : XK → Hp → VK → Prop}
theorem fnAt_un (a : Acts P w K mg base fs s H f c' q j tl) (u : Un fs [] H H1 s.heap s1.heap) : PySem.W.FnAt f s1.heap := by
  obtain ⟨oc, od, fd, sl, e⟩ := a.fn
  exact ⟨oc, od, fd, sl, u.keep f _ e a.no a.nf (by simp)⟩
theorem Acts.later (a : Acts P w K mg base fs s H f c' q j tl) (u : Un fs [] H H1 s.heap s1.heap) (hs : ∀ c ∈ fs', c ∈ fs ∨ s.heap.get? c = none) : Acts P w K mg base fs' s1 H1 f c' q j tl := by
  obtain ⟨oc, od, fd, sl, e⟩ := a.fn
  exact ⟨u.free f _ e a.no (by simp), fun z => (hs f z).elim a.nf (fun n => by rw [e] at n; cases n), fnAt_un a u, fun A outer s2 G Q E hr e0 u2 hc ht => a.run A outer s2 G Q E hr e0 (un_comp u u2 hs) hc ht⟩
theorem Acts.mono {k : Nat} (a : Acts P w K mg base fs s H f c' q j tl) (h : j ≤ k) : Acts P w K mg base fs s H f c' q k tl := ⟨a.no, a.nf, a.fn, fun A outer s1 G Q E hr => a.run A outer s1 G Q E (hr.mono h)⟩
end
/-- a lambda that was made in X -/
theorem acts_lam {X : Cx} {pins : List (Addr × Obj)} {σ : L2.St} {H : Hp} {s : Shared} {f c' : Addr} {pm ctv : Value} {params : Arguments} {body : Expr} {scope : Scope} {k : Nat} {t : XK → TE} (I : Inv X pins σ H s) (L : LamS X.env.scope scope)
    (hf : s.heap.get? f = some (PySem.W.kla_obj "<lambda>" (X.env.qual ++ "<lambda>") params body scope (cloFrom X.env.cells scope.names []) pm c' ctv)) (hfn : H f = none) (hfr : f ∉ frs X.stack)
    (hbind : bindArgs (PySem.W.kla_fn "<lambda>" (X.env.qual ++ "<lambda>") params body scope (cloFrom X.env.cells scope.names []) pm (.ref c') ctv) ⟨[], []⟩ = pure [])
    (hbody : ∀ (A : Around) (outer : List Env) (s : Shared) (H : Hp) (E : XK), Room k (A.deeper (lamEnv X scope s.heap.objs.size f c')) → PE (lamCx X A outer s H E scope f c') body (t E)) :
    Acts X.prog X.w X.K X.mg X.base (frs X.stack) s H f c' (X.env.qual ++ "<lambda>") (k + 1) (fun E G Q => t E σ G Q) := by
  refine ⟨hfn, hfr, ⟨_, _, _, _, hf⟩, fun A outer s1 G Q E hr e0 un hc ht => ?_⟩
  have of1 := un.keep f _ hf hfn hfr (by simp)
  have lim : s1.heap.NoLimit := e0.mod.nolimit.keeps fun b o e => (e0.bs b o e).1
  obtain ⟨⟨oc, vs, tk, hoc, hdc, hvc⟩, _, _⟩ := e0.hok c' _ hc
  refine PySem.W.kla_callFunE hr.depth of1 rfl L.co L.gen rfl ⟨c', oc, vs, tk, rfl, hoc, hdc, hvc⟩ ?_
  rw [hbind]
  refine wpAny_pure (wpAny_newFunctionEnv (fun y hy => (L.own y hy).2) (fun y hy => absurd hy (by simp)) (fun g hns hsb => ⟨lim.fresh _ hsb, ?_⟩) L.kind)
  show codeAny _ _ (.expr body (lamEnv X scope s1.heap.objs.size f c')) _ _
  have kp : ∀ b o, s1.heap.get? b = some o → g.get? b = some o := fun b o e => hsb.extBut b o (Nat.ne_of_lt (Heap.lt_size e)) (Heap.get?_push_of_some _ e)
  have J := lam_start2 (tk := s1.toks + ([] : List (Str × Value)).length) (E := E) (f := f) (c' := c') I L e0 hr.hd un hns kp
  refine PySem.W.kla_codeExpr (wpAny_mono ((hbody A outer s1 G E (hr.deeper _)).run [] _ _ G Q J ht) (fun v s' r => ?_) fun e s' r => r)
  obtain ⟨v', G', J', rv, r⟩ := r
  exact ⟨v', G', J'.os, J'.bare, J'.base, J'.hok, rv, r⟩
/-- x(), x the name that holds the lambda -/
def tAct (i : Nat) (f c' : Addr) (tl : XK → Hp → VK → Prop) (q : Str) (W : WX) : TE := fun σ G Q => σ[i]? = some (some (.ref f)) ∧ G c' = some (CodeO c' q) ∧ ∃ (E : XK) (R : VK), (∀ cls d G', E cls d G' → W cls d σ G') ∧ (∀ v G', R v G' → Q v G') ∧ tl E G R
theorem pe_acts {Y : Cx} {f c' : Addr} {q x : Str} {i j : Nat} {tl : XK → Hp → VK → Prop} {W : WX} {p1 p2 : Pos} (a : Acts Y.prog Y.w Y.K Y.mg Y.base Y.fs Y.s_0 Y.H_0 f c' q j tl) (hex : Y.ex = []) (hr : Room j Y.A) (tk : Takes Y W)
    (hN : Y.N[i]? = some x) (hv : Vis Y.env.scope x) (hd : (x == ("__debug__" : Str)) = false := by decide) (hcd : (x == ("__classdict__" : Str)) = false := by decide) : PE Y (.Call (.Name x p1) [] [] p2) (tAct i f c' tl q W) := by
  refine ⟨fun pins z σ G Q I h => ?_⟩
  obtain ⟨hs, hc, E, R, hE, hR, ht⟩ := h
  refine wpAny_Call_Name_kw (thn ((pe_var (pos := p1) hN hv hd hcd).run pins z σ G (fun v G1 => v = .ref f ∧ G1 = G) I ⟨.ref f, hs, rfl, rfl⟩) fun u z1 ⟨v, G1, I1, r1, ev, eG⟩ => ?_)
  subst ev
  rw [eG] at I1
  obtain rfl : u = Value.ref f := r1
  have un : Un Y.fs [] Y.H_0 G Y.s_0.heap z1.heap := by
    have u := I1.base
    rw [hex] at u
    exact u
  refine PySem.W.callWith_F0 (fnAt_un a un) ?_
  refine wpAny_call (codeAny_mono (a.run Y.A Y.stack z1 G R E hr I1.env0 un hc ht) fun r z2 hq => ?_)
  cases r with
  | error e => exact tk e z2 (XE.of_call I1 hE hq)
  | ok fl =>
    cases fl with
    | ret u =>
      obtain ⟨v2, G2, I2, r2, q2⟩ := I1.after hq
      exact ⟨v2, G2, I2, r2, hR _ _ q2⟩
    | next => exact False.elim hq
    | brk => exact False.elim hq
    | cont => exact False.elim hq
abbrev TAsk := (XK → Hp → VK → Prop) → Hp → VK → Prop
/-- the def at g: what it makes of a lambda that it is handed -/
def AskOk (P : Program) (w : World) (K : PySem.W.Frag) (mg : Str → Option Value) (base : Heap) (k : Nat) (g : Addr) (TT : TAsk) : Prop :=
  ∀ (j : Nat) (A : Around) (outer : List Env) (s : Shared) (H : Hp) (f c' : Addr) (q : Str) (tl : XK → Hp → VK → Prop) (Q : VK), Room (j + k) A → Env0 P w K mg base A outer s H → Acts P w K mg base (frs outer) s H f c' q j tl → H c' = some (CodeO c' q) → TT tl H Q →
    codeAny (model P w) A (.call (.ref g) ⟨[.ref f], []⟩) (CR L2.CX0 outer P w H s Q L2.E0) s
/-- by its body -/
theorem ask_of {P : Program} {w : World} {K : PySem.W.Frag} {mg : Str → Option Value} {base : Heap} {x a : Str} {st : Stmt} {g : Addr} {fd : FuncData} {N : List Str} {k : Nat} {TT : TAsk} (F : Fun K x x st g fd) (S : FnScope N [a] (defScope st)) (hb : Binds K fd [a] [])
    (hbody : ∀ (cdv : Value) (j : Nat) (A : Around) (outer : List Env) (s : Shared) (H : Hp) (f c' : Addr) (q : Str) (tl : XK → Hp → VK → Prop) (Q : VK), Room (j + k) (A.deeper (envOfC x (defScope st) s.heap.objs.size g cdv)) → Acts P w K mg base (frs outer) s H f c' q j tl → H c' = some (CodeO c' q) → TT tl H Q →
      ∃ t, PSs (cxOf L2.CX0 P w K mg base N x (defScope st) g cdv A outer s H L2.E0).nox (defBody st) t ∧ t { nx := fun _ H' => Q .non H', rt := Q } (L2.start N [.ref f]) H) : AskOk P w K mg base (k + 1) g TT := by
  intro j A outer s H f c' q tl Q hr e0 ac hc hT
  obtain ⟨oc, od, kV, doc, pm, an, cdv, ct, osl, rfl, lk, hcd⟩ := F.ex
  have KX : K.In s.heap := e0.mod.kin.keeps fun b o e => (e0.bs b o e).1
  refine run_ofS (N := N) (ps := [a]) (us := [.ref f]) (vs := [.ref f]) (k := j + k) lk hcd S hr e0 (hb s [.ref f] KX rfl) (.cons rfl .nil) rfl fun hr' => ?_
  obtain ⟨t, ht, hq⟩ := hbody cdv j A outer s H f c' q tl Q hr' ac hc hT
  exact ⟨t, ht.nox, hq⟩
/-- g(x), x the name that holds the lambda -/
def tAskV (i : Nat) (f c' : Addr) (q : Str) (tl : XK → Hp → VK → Prop) (TT : TAsk) : TE := fun σ G Q => σ[i]? = some (some (.ref f)) ∧ G c' = some (CodeO c' q) ∧ TT tl G Q
theorem pe_askv {Y : Cx} {g f c' : Addr} {q y x : Str} {i j k : Nat} {tl : XK → Hp → VK → Prop} {TT : TAsk} {p1 p2 p3 : Pos} (D : AskOk Y.prog Y.w Y.K Y.mg Y.base k g TT) (hg : Gl Y y) (hm : Y.mg y = some (.ref g)) (hk : PySem.W.keepIn Y.K (.ref g) = true)
    (a : Acts Y.prog Y.w Y.K Y.mg Y.base Y.fs Y.s_0 Y.H_0 f c' q j tl) (hex : Y.ex = []) (hfs : ∀ c ∈ frs Y.stack, c ∈ Y.fs ∨ Y.s_0.heap.get? c = none) (hr : Room (j + k) Y.A) (hN : Y.N[i]? = some x) (hv : Vis Y.env.scope x)
    (hdb : (y == ("__debug__" : Str)) = false := by decide) (hd : (x == ("__debug__" : Str)) = false := by decide) (hcd : (x == ("__classdict__" : Str)) = false := by decide)
    (he : starEach [Expr.Name x p2] Y.env = (false, eval (Expr.Name x p2) Y.env) :: starEach [] Y.env := by rfl) (hpl : (backTo p3 (starEach [] Y.env)).any (·.1) = false := by rfl) :
    PE Y (.Call (.Name y p1) [.Name x p2] [] p3) (tAskV i f c' q tl TT) := by
  refine ⟨fun pins z σ G Q I h => ?_⟩
  obtain ⟨hs, hc, ht⟩ := h
  refine wpAny_Call_Name_kw (ld_glob I hg hm ?_ hdb)
  refine PySem.W.callWith_K (h₀ := Y.base) I.ok.mod.kin hk (thn ((pa_cons (pe_var (pos := p2) hN hv hd hcd) pa_nil).run p3 pins z σ G (fun vs G1 => vs = [.ref f] ∧ G1 = G) I ⟨.ref f, hs, rfl, rfl⟩) fun us z1 ⟨vs, G1, I1, r1, ev, eG⟩ => ⟨I1.kIn, ?_⟩) he hpl
  subst ev
  rw [eG] at I1
  obtain ⟨u0, rfl, r0⟩ := r1.one
  obtain rfl : u0 = Value.ref f := r0
  have un : Un Y.fs [] Y.H_0 G Y.s_0.heap z1.heap := by
    have u := I1.base
    rw [hex] at u
    exact u
  show wpAny _ _ (call (.ref g) [.ref f]) _ _ _
  refine wpAny_call (codeAny_mono (D j Y.A Y.stack z1 G f c' q tl Q hr I1.env0 (a.later un hfs) hc ht) fun r z2 hq => ?_)
  cases r with
  | error e => exact (show False from hq).elim
  | ok fl =>
    cases fl with
    | ret u => exact I1.after hq
    | next => exact False.elim hq
    | brk => exact False.elim hq
    | cont => exact False.elim hq
/-- the frames of a def's context -/
theorem frs_cx {CXg : CXT} {P : Program} {w : World} {K : PySem.W.Frag} {mg : Str → Option Value} {base : Heap} {N : List Str} {x : Str} {sg : Scope} {g : Addr} {cdv : Value} {A : Around} {outer : List Env} {s : Shared} {H : Hp} {E : XK} :
    ∀ c ∈ frs (cxOf CXg P w K mg base N x sg g cdv A outer s H E).stack, c ∈ (cxOf CXg P w K mg base N x sg g cdv A outer s H E).fs ∨ (cxOf CXg P w K mg base N x sg g cdv A outer s H E).s_0.heap.get? c = none := fun c hc => by
  obtain ⟨v, hv, e⟩ := List.mem_filterMap.mp hc
  rcases List.mem_cons.mp hv with rfl | hv
  · have e' : some s.heap.objs.size = some c := e
    cases e'
    refine .inr ?_
    show s.heap.get? s.heap.objs.size = none
    cases z : s.heap.get? s.heap.objs.size with
    | none => rfl
    | some o => exact absurd (Heap.lt_size z) (Nat.lt_irrefl _)
  · exact .inl (List.mem_filterMap.mpr ⟨v, hv, e⟩)
theorem frs_nox {CXg : CXT} {P : Program} {w : World} {K : PySem.W.Frag} {mg : Str → Option Value} {base : Heap} {N : List Str} {x : Str} {sg : Scope} {g : Addr} {cdv : Value} {A : Around} {outer : List Env} {s : Shared} {H : Hp} {E : XK} :
    ∀ c ∈ frs (cxOf CXg P w K mg base N x sg g cdv A outer s H E).nox.stack, c ∈ (cxOf CXg P w K mg base N x sg g cdv A outer s H E).nox.fs ∨ (cxOf CXg P w K mg base N x sg g cdv A outer s H E).nox.s_0.heap.get? c = none :=
  frs_cx (CXg := CXg) (P := P) (w := w) (K := K) (mg := mg) (base := base) (N := N) (x := x) (sg := sg) (g := g) (cdv := cdv) (A := A) (outer := outer) (s := s) (H := H) (E := E)
/-- g(lambda: body) in the def that has the names -/
theorem pe_asklam {X : Cx} {T : List (Addr × Str)} {TT : TAsk} {y : Str} {g c P : Addr} {k j : Nat} {params : Arguments} {body : Expr} {scope : Scope} {t : XK → TE} {p lpos pos : Pos} (D : AskOk X.prog X.w X.K X.mg X.base k g TT) (hg : Gl X y) (hm : X.mg y = some (.ref g)) (hk : PySem.W.keepIn X.K (.ref g) = true)
    (TB : TabB X.base X.mg c P) (hcode : X.env.code = .ref c) (hmT : (P, X.env.qual ++ "<lambda>") ∈ T) (hu : ∀ p ∈ T, p.1 = P → p.2 = X.env.qual ++ "<lambda>") (hr : Room (j + 1 + k) X.A) (L : LamS X.env.scope scope) (hdef : defaultsOf params X.env = ([], []))
    (hbind : ∀ (q : Str) (cl : List (Str × Addr)) (pm cv ctv : Value), bindArgs (PySem.W.kla_fn "<lambda>" q params body scope cl pm cv ctv) ⟨[], []⟩ = pure [])
    (hbody : ∀ (A : Around) (outer : List Env) (s : Shared) (H : Hp) (E : XK) (f c' : Addr), Room j (A.deeper (lamEnv X scope s.heap.objs.size f c')) → PE (lamCx X A outer s H E scope f c') body (t E)) (hdb : (y == ("__debug__" : Str)) = false := by decide) :
    PE X (.Call (.Name y p) [.Lambda params body scope lpos] [] pos) (tLam T TT t) := by
  refine ⟨fun pins z σ H Q I h => ?_⟩
  obtain ⟨hT, h⟩ := h
  refine wpAny_Call_Name_kw (ld_glob I hg hm ?_ hdb)
  refine PySem.W.callWith_K (h₀ := X.base) I.ok.mod.kin hk ?_ (by rfl) (by rfl)
  show wpAny _ _ (spliced ((false, eval (.Lambda params body scope lpos) X.env) :: backTo pos (starEach [] X.env))) _ _ z
  refine Calls.spliced_cons (lam_make2 I TB hcode hmT hu hT hdef (L.has I.ok) fun f c' pm ctv H1 z1 I1 eN T1 hf hfn hfr hco => ?_)
  refine Calls.spliced_nil ⟨I1.kIn, wpAny_call (codeAny_mono (D (j + 1) X.A X.stack z1 H1 f c' _ _ Q hr I1.env0 (acts_lam I1 L hf hfn hfr (hbind _ _ _ _ _) fun A outer s H E r => hbody A outer s H E f c' r) hco (h H1 eN T1)) fun r z2 hq => ?_)⟩
  cases r with
  | error e => exact (show False from hq).elim
  | ok fl =>
    cases fl with
    | ret u => exact I1.after hq
    | next => exact False.elim hq
    | brk => exact False.elim hq
    | cont => exact False.elim hq
end LamX
set_option maxHeartbeats 4000000
/-! XExc: an exception of the program's own, made with no argument at all. -/
namespace L2
open PySem PySem.Spec PyProof.Rows
section
variable {X : Cx} {p pos : Pos}
/-- C(), C's __init__ (its own or an inherited one) keeping sp -/
theorem pmk_none {CX : CXT} {x : Str} {C fI : Addr} {k : Nat} {fd : FuncData} {ps : List Str} {sp : Sp} {ds : List Value} {dvs : List V} (T : OexC X.K C) (iC : PySem.W.findIn X.K (.ref C) "__init__" = some (some (.ref fI))) (tI : PySem.W.typeIn X.K (.ref fI) = some (.type "function"))
    (F1 : FnOk X.prog X.w X.K X.mg X.base CX k fI fd ps sp) (hr : Room (k + 1) X.A) (hb : Binds X.K fd ps ds) (hd : Vals dvs ds) (hx : Passes CX X (fun _ _ _ => False)) (hg : Gl X x) (hm : X.mg x = some (.ref C))
    (hdb : (x == ("__debug__" : Str)) = false := by decide) :
    PMk X (.Call (.Name x p) [] [] pos) (tMkO C sp dvs tNil) := by
  intro pins s σ H Q I h
  obtain ⟨_, q1⟩ := h
  obtain ⟨nm, _, N, bs, bm, sn, sub, ab, col, dd, k0, k1, k2, k3, k5, hC, hbm⟩ := T.cls
  refine wpAny_Call_Name_kw (ld_glob I hg hm (PySem.W.callWith_K0 I.kIn T.kC ?_) hdb)
  obtain ⟨hp, g, dr, tk, os⟩ := s
  have up := Nat.le_succ hp.objs.size
  have hq := q1 _ (I.hok.fresh up)
  have kk : ∀ b o, hp.get? b = some o → ((hp.push (PySem.W.kdv_tup [])).push (PySem.HandSPX.excO C hp.objs.size)).get? b = some o := fun b o e => Heap.get?_push_of_some _ (Heap.get?_push_of_some _ e)
  have J := I.laid (t' := tk) kk up (exo_ok (C := C) (d := none) (t1 := hp.objs.size) (by heap_get))
  have r2 : Vals (V.ref (hp.objs.size + 1) :: ([] ++ dvs)) (Value.ref (hp.objs.size + 1) :: ([] ++ ds)) := .cons rfl hd
  have hl : (Value.ref (hp.objs.size + 1) :: [] ++ ds).length = ps.length := r2.length.symm.trans (F1.len _ _ _ _ hq)
  refine wpAny_call (PySem.HandSPX.call_own F.excBase_ValueError (fun Y => PySem.HandSPX.refsVE_contains Y bm hbm) (I.kIn _ _ hC) (PySem.W.looks_findIn I.kIn iC) (fun self => PySem.W.bind_fn I.kIn self tI) (Nat.zero_le _)
    (codeAny_mono (F1.run _ X.stack _ _ ⟨[Value.ref (hp.objs.size + 1)], []⟩ _ _ _ (fun _ _ _ => False) (hr.make C [] []) (J.env0.make C [] []) (hb _ _ J.kIn hl) r2 hq) fun r s' w => ?_))
  match r, w with
  | .error er, w => exact hx pins σ _ _ er s' J w
  | .ok (.ret u), ⟨_, H2, ho, hbr, un2, hok2, rv, rfl, d, fs, ea, ed, hd1, q2⟩ =>
    obtain ⟨h2, g2, d2, t2, os'⟩ := s'
    exact ⟨rv, mk_end (raises_own T.exC T.tyC) I up kk un2 hok2 ho hbr ea ed hd1 q2⟩
end
end L2
set_option maxHeartbeats 400000
/-! XName: the name of a class of the program's own. -/
namespace PySem.W
open PySem PySem.Calls PyProof.Rows Builtin Builtin.ObjectAttr Builtin.Getset_descriptor
theorem dga_own (d tp : Value) (C : Addr) : descrGetArgs ⟨[d, .ref C, tp], []⟩ = pure (d, some (.ref C), given tp) := by kernel_rfl
section
variable {prog : Program} {w : World} {A : Around} {E : Value → Shared → Prop} {s : Shared} {K : Frag} {R : Result → Shared → Prop} {C : Addr} {o : Obj} {v : Value}
theorem own_name_get {tp : Value} (X : K.In s.heap) (hc : K.lookup C = some o) (ht : typeIn K (.ref C) = some (.type "type")) (hs : o.slots[2]? = some (some v)) (h : R (.ok (.ret v)) s) :
    codeAny (model prog w) A (.call (.builtin "getset_descriptor.__get__") ⟨[.builtin "type.__name__", .ref C, tp], []⟩) R s := by
  obtain ⟨hp, g, d, t, os⟩ := s
  have T : Looks (model prog w) hp (typeOf (.ref C)) (.type "type") := looks_typeIn X ht
  have T1 : Looks (model prog w) hp (isSubtype (.type "type") (.type "type")) true := .of_pure ((isSubtype_type _ _).trans (by kernel_rfl))
  have at_ := X _ _ hc
  refine codeAny_call_builtin KF.slot_gs.plain KF.entry_gs (KF.slot_gs.check _ _ _ _ _ _ _ _ ktyn_type (KF.args_gs _ _ _) ?_)
  simp only [Builtin.«getset_descriptor.__get__», descrGet, dga_own]
  iterate 3 lk
  simp only [descrGetter, descrCheckInstance, descrNameAndClass, isInstance, ktyn_owner]
  repeat lk
  refine And.intro (Code.quiet_builtin _ (by decide +kernel)) (codeAny_builtin ktyn_entry ?_)
  simp only [Builtin.«type.__name__», keptObject, slotAt]
  refine wpAny_bind (wpAny_bind (wpAny_loadPart at_ (wpAny_pure ?_)))
  rw [hs]
  exact wpAny_pure h
theorem own_name_attr {expr : Bool} {z : Str} {tk : Tok} {Q : Value → Shared → Prop} (X : K.In s.heap) (hn : nsIn K cStatics "thirdparty.any" = some none) (hc : K.lookup C = some o) (ht : typeIn K (.ref C) = some (.type "type")) (hs : o.slots[2]? = some (some (.str z tk)))
    (e : findCls K (.ref C) (.type "type") "__name__" = some (.get (.builtin "getset_descriptor.__get__") (.builtin "type.__name__") (.ref C) (.type "type")))
    (h : ∀ u, Q (.str z tk) { s with toks := u }) : wpAny (model prog w) A (getAttr (.ref C) "__name__" expr) Q E s :=
  cls_open X (looks_opaque X hn) (looks_typeIn X ht) type_tga (looks_hook X (r := none) rfl) (show subIn K _ _ = _ from rfl) e
    (wpAny_bind (wpAny_holding (wpAny_call (own_name_get (s := { s with toks := s.toks + 1 }) X hc ht hs (wpAny_pure (handed_on rfl (h _)))))))
/-- e.__class__ of an exception that has no dict yet -/
theorem exc_class {x D : Addr} {ox : Obj} {expr : Bool} {Q : Value → Shared → Prop} (cx : findIn K (.ref D) "__getattribute__" = some (some (.builtin "BaseException.__getattribute__")) ∧ findIn K (.ref D) "__getattr__" = some none ∧ subIn K (.ref D) (.type "BaseException") = some true ∧ hasDictIn K D = true)
    (cy : findIn K (.ref D) "__class__" = some (some (.builtin "object.__class__")) ∧ specialIn K (.builtin "object.__class__") "__get__" = some (some (.builtin "getset_descriptor.__get__")) ∧ takesIn K (.builtin "object.__class__") = some true ∧ mroIn K D (.type "object") = some true)
    (X : K.In s.heap) (I : InstAt s.heap x ox D none) (h : ∀ u, Q (.ref D) { s with toks := u }) : wpAny (model prog w) A (getAttr (.ref x) "__class__" expr) Q E s := by
  obtain ⟨ga, gt, sub, dct⟩ := cx
  obtain ⟨cls, spec, tak, mro⟩ := cy
  obtain ⟨cd, isC, -⟩ := any_some dct
  have found := findObj_dataN (K := K) (C := D) (by rw [isC]; rfl) cls spec tak
  have other : (Value.builtin "BaseException.__getattribute__" == Value.builtin "object.__getattribute__") = false := by decide +kernel
  have own : (expr && onTheHeap (Value.builtin "BaseException.__getattribute__")) = false := by cases expr <;> rfl
  obtain ⟨hp, g, d, t, os⟩ := s
  have T := I.type (M := model prog w)
  have T1 := looks_findIn (M := model prog w) X ga
  have T2 := looks_findIn (M := model prog w) X gt
  have T3 := looks_find (M := model prog w) X I found
  have T4 : Looks (model prog w) hp (isInstance (.ref x) (.type "BaseException")) true := T.andThen (looks_subIn X sub)
  have heap : onTheHeap (Value.ref D) = true := rfl
  have bound := PySem.F.excAttr_ValueError.ga.bind (.ref x)
  simp only [getAttr, getAttrBy, getAttrByItsOwn, hookBefore, callGetattribute, boundAndCalled]
  repeat lk
  refine wpAny_tryCatch (wpAny_bind (wpAny_holding ?_))
  simp only [own, Bool.false_eq_true, if_false, bound]
  refine wpAny_bind (wpAny_pure (wpAny_call (codeAny_call_builtin PySem.F.excAttr_ValueError.ga.plain PySem.F.entry_bexc_ga ?_)))
  refine check_slot (s := ⟨hp, g, d, t + 1, os⟩) (i := "BaseException.__getattribute__") (owner := "BaseException") (n := "__getattribute__") (self := .ref x) (rest := [.str "__class__" t]) (kw := []) (by decide +kernel) (by decide +kernel) T4 (PySem.F.args_bexc_ga _ _) ?_
  unfold Builtin.«object.__getattribute__»
  iterate 23 lk
  refine wpAny_call (class_get (s := ⟨hp, g, d, t + 1, os⟩) (ox := ox) (od := none) X I mro (wpAny_pure ?_))
  refine wpAny_pure ?_
  show wpAny _ _ (handedOut (.ref D)) Q E _
  rw [handedOut_of (v := .ref D) rfl]
  exact wpAny_pure (h _)
end
end PySem.W
namespace L2
open PySem PySem.Spec PyProof.Rows
/-- what an exception class must say, so that the name of its class can be asked of an exception of it -/
structure NmC (K : PySem.W.Frag) (C : Addr) (z : Str) : Prop where
  c1 : PySem.W.findIn K (.ref C) "__getattribute__" = some (some (.builtin "BaseException.__getattribute__"))
  c2 : PySem.W.findIn K (.ref C) "__getattr__" = some none
  c3 : PySem.W.subIn K (.ref C) (.type "BaseException") = some true
  c4 : PySem.W.hasDictIn K C = true
  c5 : PySem.W.findIn K (.ref C) "__class__" = some (some (.builtin "object.__class__"))
  c6 : PySem.W.specialIn K (.builtin "object.__class__") "__get__" = some (some (.builtin "getset_descriptor.__get__"))
  c7 : PySem.W.takesIn K (.builtin "object.__class__") = some true
  c8 : PySem.W.mroIn K C (.type "object") = some true
  n1 : PySem.W.nsIn K cStatics "thirdparty.any" = some none
  n2 : PySem.W.typeIn K (.ref C) = some (.type "type")
  n3 : PySem.W.findCls K (.ref C) (.type "type") "__name__" = some (.get (.builtin "getset_descriptor.__get__") (.builtin "type.__name__") (.ref C) (.type "type"))
  n4 : ∃ o tk, K.lookup C = some o ∧ o.slots[2]? = some (some (.str z tk))
/-- e.__class__.__name__, e an exception in its __init__ -/
def tClsN (K : PySem.W.Frag) (te : TE) : TE := fun σ H Q => te σ H fun x H1 => ∃ (a C : Addr) (z : Str), x = .ref a ∧ H1 a = some (exo a C none) ∧ NmC K C z ∧ Q (.str z) H1
theorem pe_clsn {X : Cx} {e : Expr} {te : TE} {p pos : Pos} (he : PE X e te) (hb : attributeBase e "__class__" X.env (eval e X.env) = eval e X.env := by rfl)
    (hb' : attributeBase (.Attribute e "__class__" p) "__name__" X.env (eval (.Attribute e "__class__" p) X.env) = eval (.Attribute e "__class__" p) X.env := by rfl) :
    PE X (.Attribute (.Attribute e "__class__" p) "__name__" pos) (tClsN X.K te) := by
  refine ⟨fun pins s σ H Q I h => ?_⟩
  refine attr_of hb' (attr_of hb (thn (he.run pins s σ H _ I h) fun u s1 ⟨x, H1, I1, rx, a, C, z, ex, ea, T, q⟩ => ?_))
  subst ex
  obtain rfl : u = Value.ref a := rx
  obtain ⟨t1, ho⟩ := exo_at I1.hok ea
  obtain ⟨o, tk, hc, hs⟩ := T.n4
  refine PySem.W.exc_class ⟨T.c1, T.c2, T.c3, T.c4⟩ ⟨T.c5, T.c6, T.c7, T.c8⟩ I1.kIn ⟨ho, rfl, rfl, trivial⟩ fun k => ?_
  exact PySem.W.own_name_attr (I1.tok k).kIn T.n1 hc T.n2 hs T.n3 fun k2 => ⟨.str z, H1, (I1.tok k).tok k2, ⟨tk, rfl⟩, q⟩
end L2
set_option maxHeartbeats 4000000
/-! XAsk: what is thrown and caught by the law's asking; classes of refusals; defs that raise. -/
namespace Cc
open PySem PySem.Spec PyProof.Rows L2 LamX
/-! ### what is thrown -/
/-- which of the law's clauses takes a class -/
def Taken (K : PySem.W.Frag) (mg : Str → Option Value) (cls : Value) : Prop :=
  (∃ c, mg "CutError" = some c ∧ PySem.W.exmOne K cls c = some true) ∨ (∃ c c2, mg "CutError" = some c ∧ PySem.W.exmOne K cls c = some false ∧ mg "Missing" = some c2 ∧ PySem.W.exmOne K cls c2 = some true) ∨
    ∃ c c2 c3, mg "CutError" = some c ∧ PySem.W.exmOne K cls c = some false ∧ mg "Missing" = some c2 ∧ PySem.W.exmOne K cls c2 = some false ∧ mg "NothingLeft" = some c3 ∧ PySem.W.exmOne K cls c3 = some true
/-- an exception of the class of that name, in its dict what it says of itself -/
def Thrown (K : PySem.W.Frag) (mg : Str → Option Value) (z : Str) (cls : Value) (d : Option Addr) (H : Hp) : Prop :=
  ∃ (C dd : Addr) (fs : List (Str × V)), cls = .ref C ∧ XfC K C ∧ PySem.W.findIn K (.ref C) "called" = some none ∧ d = some dd ∧ H dd = some (.xd fs) ∧ fs.lookup ("called" : Str) = some (.str z) ∧ Taken K mg cls
/-- E takes what is thrown by that name at H -/
def Thr (K : PySem.W.Frag) (mg : Str → Option Value) (z : Str) (H : Hp) (E : XK) : Prop := ∀ cls d H', Thrown K mg z cls d H' → Same H H' → E cls d H'
theorem Thr.later {K : PySem.W.Frag} {mg : Str → Option Value} {z : Str} {H H1 : Hp} {E : XK} (t : Thr K mg z H E) (s : Same H H1) : Thr K mg z H1 E := fun cls d H' h s' => t cls d H' h (s.trans s')
/-! ### the making of a refusal without fields -/
structure ExcTxt (K : PySem.W.Frag) (mg : Str → Option Value) (x : Str) (C fI : Addr) : Prop where
  ox : OexC K C
  nm : NmC K C x
  no : PySem.W.findIn K (.ref C) "called" = some none
  iC : PySem.W.findIn K (.ref C) "__init__" = some (some (.ref fI))
  tI : PySem.W.typeIn K (.ref fI) = some (.type "function")
  mgC : mg x = some (.ref C)
  tk : Taken K mg (.ref C)
theorem nmC_xf {K : PySem.W.Frag} {C : Addr} {z : Str} (h : NmC K C z) : XfC K C := ⟨h.c1, h.c2, h.c3, h.c4⟩
/-- what __init__ of such a class makes of a new exception -/
def spOwnInit (K : PySem.W.Frag) : Sp := fun vs H Q _ => ∃ (a C : Addr) (z : Str), vs = [.ref a] ∧ H a = some (exo a C none) ∧ NmC K C z ∧ OexC K C ∧ PySem.W.findIn K (.ref C) "called" = some none ∧ ∀ d, H d = none → d ≠ a → Q .non (upd (upd H d (exd d [("called", .str z)])) a (exo a C (some d)))
section
variable {P : Program} {w : World} {K : PySem.W.Frag} {mg : Str → Option Value} {base : Heap}
/-- def __init__(self): self.called = self.__class__.__name__ -/
theorem ok_ownInit {f : Addr} {fd : FuncData} {qual : Str} {st : Stmt} {p1 p2 p3 p4 p5 p6 : Pos} (F : Fun K "__init__" qual st f fd) (S : FnScope ["self"] ["self"] (defScope st)) (hb : defBody st = [.Assign [.Attribute (.Name "self" p1) "called" p2] (.Attribute (.Attribute (.Name "self" p3) "__class__" p4) "__name__" p5) p6]) :
    FnOk P w K mg base CX0 1 f fd ["self"] (spOwnInit K) := by
  refine F.ok S (fun vs H Q E h => ?_) (fun cdv A outer s H vs Q E hr h => ?_)
  · obtain ⟨a, C, z, rfl, _⟩ := h
    rfl
  · obtain ⟨a, C, z, rfl, ha, hn, ho, no, q⟩ := h
    rw [hb]
    have vis : Vis (defScope st) "self" := (S.par "self" List.mem_cons_self).elim .inl fun z => .inr (.inl z)
    refine ⟨_, pss_one (ps_ost (pe_var (i := 0) rfl vis) (pe_clsn (pe_var (i := 0) rfl vis))), ?_⟩
    exact ⟨_, rfl, a, C, z, rfl, ha, hn, _, rfl, a, C, rfl, ho, no, .inl ⟨ha, fun d hd hne => q d hd hne⟩⟩
/-- the class as the top has left it, its __init__ walked -/
def ExcOk (P : Program) (w : World) (K : PySem.W.Frag) (mg : Str → Option Value) (base : Heap) (x : Str) : Prop := ∃ C fI fd, ExcTxt K mg x C fI ∧ FnOk P w K mg base CX0 1 fI fd ["self"] (spOwnInit K) ∧ Binds K fd ["self"] []
/-- raise C(), its reading -/
def tExc (K : PySem.W.Frag) (mg : Str → Option Value) (x : Str) : L2.St → Hp → XK → Prop := fun _ H Q => Thr K mg x H Q
theorem pmk_x {X : Cx} {x : Str} {p pos : Pos} (Z : ExcOk X.prog X.w X.K X.mg X.base x) (hr : Room 2 X.A) (hg : Gl X x) (hdb : (x == ("__debug__" : Str)) = false := by decide) : PMk X (.Call (.Name x p) [] [] pos) (tExc X.K X.mg x) := by
  obtain ⟨C, fI, fd, T, F, hb⟩ := Z
  intro pins s σ H Q I h
  refine pmk_none (CX := CX0) (dvs := []) (ds := []) T.ox T.iC T.tI F hr hb .nil (fun _ _ _ _ _ _ _ z => z.elim) hg T.mgC hdb pins s σ H Q I ⟨(show 0 ≤ 1000 by decide), fun a na => ?_⟩
  refine ⟨a, C, x, rfl, upd_same, T.nm, T.ox, T.no, fun d nd hne => ⟨rfl, d, [("called", .str x)], upd_same, ?_, ?_, ?_⟩⟩
  · rw [upd_ne hne, upd_same]
  · rw [upd_ne hne] at nd
    exact nd
  · rw [upd_ne hne] at nd
    refine h _ _ _ ⟨C, d, [("called", .str x)], rfl, nmC_xf T.nm, T.no, rfl, upd_same, rfl, T.tk⟩ fun b o e => ?_
    have b1 := ne_of_none e na
    have b2 := ne_of_none e nd
    rw [upd_ne b2, del_ne b1, upd_ne b1, upd_ne b2, upd_ne b1]
    exact e
end
/-! ### defs that raise -/
def DefOkX (P : Program) (w : World) (K : PySem.W.Frag) (mg : Str → Option Value) (base : Heap) (k : Nat) (x : Str) (ps : List Str) (sp : Sp) : Prop :=
  ∃ f fd, FnOk P w K mg base (L2.CX P w) k f fd ps sp ∧ mg x = some (.ref f) ∧ PySem.W.keepIn K (.ref f) = true ∧ Binds K fd ps []
theorem DefAt.okX {P : Program} {w : World} {K : PySem.W.Frag} {mg : Str → Option Value} {base : Heap} {x : Str} {st : Stmt} {N ps : List Str} {k : Nat} {sp : Sp} (F : DefAt K mg x st ps) (S : FnScope N ps (defScope st)) (len : ∀ vs H Q E, sp vs H Q E → vs.length = ps.length)
    (hbody : ∀ (f : Addr) (cdv : Value) (A : Around) (outer : List Env) (s : Shared) (H : Hp) (vs : List V) (Q : VK) (E : XK), Room k (A.deeper (envOfC x (defScope st) s.heap.objs.size f cdv)) → sp vs H Q E →
      ∃ t, PSs (cxOf (L2.CX P w) P w K mg base N x (defScope st) f cdv A outer s H E) (defBody st) t ∧ t { nx := fun _ H' => Q .non H', rt := Q } (start N vs) H) : DefOkX P w K mg base (k + 1) x ps sp := by
  obtain ⟨f, fd, F, hm, hb⟩ := F
  exact ⟨f, fd, F.okX S len (hbody f), hm, F.kp, hb⟩
section
variable {X : Cx} {k j : Nat} {x : Str} {ps : List Str} {sp : Sp} {p pos : Pos} {e : Expr} {es : List Expr} {t : TA} {E : XK}
/-- a call of such a def, where what it lets out is taken -/
theorem pe_callX (D : DefOkX X.prog X.w X.K X.mg X.base k x ps sp) (hr : Room j X.A) (hkj : k ≤ j) (tk : Takes X (fun cls d _ H => E cls d H)) (hg : Gl X x) (ha : PA X (e :: es) t) (hdb : (x == ("__debug__" : Str)) = false := by decide)
    (he : starEach (e :: es) X.env = (false, eval e X.env) :: starEach es X.env := by rfl) (hpl : (backTo pos (starEach es X.env)).any (·.1) = false := by rfl) :
    PE X (.Call (.Name x p) (e :: es) [] pos) (tCall sp [] E t) := by
  obtain ⟨f, fd, F, hm, hk, hb⟩ := D
  exact pe_call F (hr.mono hkj) hg hm hk hb .nil (passes_call tk fun _ _ _ _ h => h) ha hdb he hpl
end
/-! ### the law's asking -/
/-- _law_ask -/
def tAsk (K : PySem.W.Frag) (mg : Str → Option Value) : TAsk := fun tl H Q => ∃ (E : XK) (R : VK), (∀ cls d H', E cls d H' → ∃ z, Thrown K mg z cls d H' ∧ ∀ p, H' p = none → Q (.ref p) (upd H' p (.tup [.non, .str z]))) ∧
  (∀ v H', R v H' → ∀ p, H' p = none → Q (.ref p) (upd H' p (.tup [v, .str ""]))) ∧ ∀ G, Same H G → tl E G R
/-- _law_why -/
def tWhy (K : PySem.W.Frag) (mg : Str → Option Value) : TAsk := fun tl H Q => ∃ (E : XK) (R : VK), (∀ cls d H', E cls d H' → ∃ z, Thrown K mg z cls d H' ∧ ∀ G, Same H' G → Q (.str z) G) ∧ (∀ v H', R v H' → ∀ G, Same H' G → Q (.str "") G) ∧ ∀ G, Same H G → tl E G R
theorem ask_step {K : PySem.W.Frag} {mg : Str → Option Value} {tl : XK → Hp → VK → Prop} {H : Hp} {Q : VK} (h : ∀ G, Same H G → tl (fun cls d H' => ∃ z, Thrown K mg z cls d H' ∧ ∀ p, H' p = none → Q (.ref p) (upd H' p (.tup [.non, .str z]))) G fun v H' => ∀ p, H' p = none → Q (.ref p) (upd H' p (.tup [v, .str ""]))) : tAsk K mg tl H Q :=
  ⟨_, _, fun _ _ _ z => z, fun _ _ z => z, h⟩
theorem why_step {K : PySem.W.Frag} {mg : Str → Option Value} {tl : XK → Hp → VK → Prop} {H : Hp} {Q : VK} (h : ∀ G, Same H G → tl (fun cls d H' => ∃ z, Thrown K mg z cls d H' ∧ ∀ G, Same H' G → Q (.str z) G) G fun v H' => ∀ G, Same H' G → Q (.str "") G) : tWhy K mg tl H Q :=
  ⟨_, _, fun _ _ _ z => z, fun _ _ z => z, h⟩
/-- a def that asks, by its name -/
def AskD (P : Program) (w : World) (K : PySem.W.Frag) (mg : Str → Option Value) (base : Heap) (k : Nat) (x : Str) (TT : TAsk) : Prop := ∃ g, AskOk P w K mg base k g TT ∧ mg x = some (.ref g) ∧ PySem.W.keepIn K (.ref g) = true
theorem ask_D {P : Program} {w : World} {K : PySem.W.Frag} {mg : Str → Option Value} {base : Heap} {x a : Str} {st : Stmt} {N : List Str} {k : Nat} {TT : TAsk} (F : DefAt K mg x st [a]) (S : FnScope N [a] (defScope st))
    (hbody : ∀ (g : Addr) (cdv : Value) (j : Nat) (A : Around) (outer : List Env) (s : Shared) (H : Hp) (f c' : Addr) (q : Str) (tl : XK → Hp → VK → Prop) (Q : VK), Room (j + k) (A.deeper (envOfC x (defScope st) s.heap.objs.size g cdv)) → Acts P w K mg base (frs outer) s H f c' q j tl → H c' = some (CodeO c' q) → TT tl H Q →
      ∃ t, PSs (cxOf L2.CX0 P w K mg base N x (defScope st) g cdv A outer s H L2.E0).nox (defBody st) t ∧ t { nx := fun _ H' => Q .non H', rt := Q } (L2.start N [.ref f]) H) : AskD P w K mg base (k + 1) x TT := by
  obtain ⟨g, fd, F, hm, hb⟩ := F
  exact ⟨g, ask_of F S hb (hbody g), hm, F.kp⟩
theorem pe_asklamD {X : Cx} {T : List (Addr × Str)} {TT : TAsk} {y : Str} {c P : Addr} {k j i : Nat} {params : Arguments} {body : Expr} {scope : Scope} {t : XK → TE} {p lpos pos : Pos} (D : AskD X.prog X.w X.K X.mg X.base k y TT) (hg : Gl X y)
    (TB : TabB X.base X.mg c P) (hcode : X.env.code = .ref c) (hmT : (P, X.env.qual ++ "<lambda>") ∈ T) (hu : ∀ p ∈ T, p.1 = P → p.2 = X.env.qual ++ "<lambda>") (hr : Room i X.A) (hi : j + 1 + k ≤ i) (L : LamS X.env.scope scope) (hdef : defaultsOf params X.env = ([], []))
    (hbind : ∀ (q : Str) (cl : List (Str × Addr)) (pm cv ctv : Value), bindArgs (PySem.W.kla_fn "<lambda>" q params body scope cl pm cv ctv) ⟨[], []⟩ = pure [])
    (hbody : ∀ (A : Around) (outer : List Env) (s : Shared) (H : Hp) (E : XK) (f c' : Addr), Room j (A.deeper (lamEnv X scope s.heap.objs.size f c')) → PE (lamCx X A outer s H E scope f c') body (t E)) (hdb : (y == ("__debug__" : Str)) = false := by decide) :
    PE X (.Call (.Name y p) [.Lambda params body scope lpos] [] pos) (tLam T TT t) := by
  obtain ⟨g, G, hm, hk⟩ := D
  exact pe_asklam G hg hm hk TB hcode hmT hu (hr.mono hi) L hdef hbind hbody hdb
theorem pe_askvD {Y : Cx} {f c' : Addr} {q y x : Str} {i j k : Nat} {tl : XK → Hp → VK → Prop} {TT : TAsk} {p1 p2 p3 : Pos} (D : AskD Y.prog Y.w Y.K Y.mg Y.base k y TT) (hg : Gl Y y)
    (a : Acts Y.prog Y.w Y.K Y.mg Y.base Y.fs Y.s_0 Y.H_0 f c' q j tl) (hex : Y.ex = []) (hfs : ∀ c ∈ frs Y.stack, c ∈ Y.fs ∨ Y.s_0.heap.get? c = none) (hr : Room (j + k) Y.A) (hN : Y.N[i]? = some x) (hv : Vis Y.env.scope x)
    (hdb : (y == ("__debug__" : Str)) = false := by decide) (hd : (x == ("__debug__" : Str)) = false := by decide) (hcd : (x == ("__classdict__" : Str)) = false := by decide)
    (he : starEach [Expr.Name x p2] Y.env = (false, eval (Expr.Name x p2) Y.env) :: starEach [] Y.env := by rfl) (hpl : (backTo p3 (starEach [] Y.env)).any (·.1) = false := by rfl) :
    PE Y (.Call (.Name y p1) [.Name x p2] [] p3) (tAskV i f c' q tl TT) := by
  obtain ⟨g, G, hm, hk⟩ := D
  exact pe_askv G hg hm hk a hex hfs hr hN hv hdb hd hcd he hpl
theorem dle_ask {d : PyData} {z : Str} {n : Nat} (hd : dle (n + 1) d = true) (hz : SeqAt.shaped (.str z) = true) : dle (n + 2) (.tuple [d, .str z]) = true := by
  show (decide (2 ≤ 1000) && (dle (n + 1) d && (SeqAt.shaped (.str z) && true))) = true
  rw [hd, hz]
  rfl
theorem dle_part (q : Rat) (n : Nat) : dle (n + 2) (dPart q) = true := rfl
theorem shaped_nil : SeqAt.shaped (.str "") = true := by decide +kernel
/-- what _law_ask gives, v told or None, and a word -/
theorem askTup {K : PySem.W.Frag} {H : Hp} {p : Addr} {v : V} {d : PyData} {z : Str} (np : H p = none) (hv : Dp K H v d) : Dp K (upd H p (.tup [v, .str z])) (.ref p) (.tuple [d, .str z]) :=
  .tup (SqT.of upd_same) (.cons (Dp.mono (same_new np) _ _ hv) (.cons (.str _) .nil))
theorem big_of {r : Int} {n m : Nat} (h : r.natAbs < 2 ^ n) (hn : n ≤ m) : r.natAbs < 2 ^ m := pow_mono_lt h hn
/-- part, which may refuse -/
def spPartX (K : PySem.W.Frag) (mg : Str → Option Value) : Sp := fun vs H Q E => ∃ a c : Int, vs = [.int a, .int c] ∧ a.natAbs < 2 ^ 8000 ∧ c.natAbs < 2 ^ 8000 ∧ (c ≠ 0 → ∀ v H', Same H H' → PtV K H' v (Rat.divInt a c) → Q v H') ∧ (c = 0 → Thr K mg "BadPart" H E)
@[irreducible] def spOverX (K : PySem.W.Frag) (mg : Str → Option Value) : Sp := fun vs H Q E => ∃ (v w : V) (x y : Rat), vs = [v, w] ∧ PtV K H v x ∧ PtV K H w y ∧ Sz 3900 x ∧ Sz 3900 y ∧ (y ≠ 0 → ∀ u H', Same H H' → PtV K H' u (x / y) → Q u H') ∧ (y = 0 → Thr K mg "BadPart" H E)
theorem overx_step {K : PySem.W.Frag} {mg : Str → Option Value} {H : Hp} {v w : V} {x y : Rat} {m n : Nat} {vs : List V} {Q : VK} {E : XK} (hv : PtV K H v x) (hw : PtV K H w y) (sx : Sz m x) (sy : Sz n y) (hm : m ≤ 3900) (hn : n ≤ 3900) (h : y ≠ 0 → ∀ u H', Same H H' → PtV K H' u (x / y) → Q u H') (hE : y = 0 → Thr K mg "BadPart" H E) (hvs : vs = [v, w] := by rfl) : spOverX K mg vs H Q E := by
  unfold spOverX
  exact ⟨v, w, x, y, hvs, hv, hw, sx.mono hm, sy.mono hn, h, hE⟩
/-! ### what stands through the making of a lambda -/
section
variable {K : PySem.W.Frag} {H H' : Hp}
theorem seqL_ext {a : Addr} {xs : List V} (e : ExtN H H') (h : SqL K H a xs) : SqL K H' a xs := by
  rcases h with (h | ⟨o, h⟩) | h
  · exact .inl (.inl (e _ _ h (fun _ z => by cases z)))
  · exact .inl (.inr ⟨o, e _ _ h (fun _ z => by cases z)⟩)
  · exact .inr h
theorem seqT_ext {a : Addr} {xs : List V} (e : ExtN H H') (h : SqT K H a xs) : SqT K H' a xs := by
  rcases h with (h | ⟨o, h⟩) | h
  · exact .inl (.inl (e _ _ h (fun _ z => by cases z)))
  · exact .inl (.inr ⟨o, e _ _ h (fun _ z => by cases z)⟩)
  · exact .inr h
theorem PtV.ext {v : V} {q : Rat} (h : PtV K H v q) (e : ExtN H H') : PtV K H' v q := by
  obtain ⟨a, rfl, h⟩ := h
  exact ⟨a, rfl, seqT_ext e h⟩
theorem Bag.ext {b : Addr} (h : Bag H b) (e : ExtN H H') : Bag H' b := by
  obtain ⟨c, ns, p, r, x, q, h1, h2, h3⟩ := h
  exact ⟨c, ns, p, r, x, q, e _ _ h1 (fun _ z => by cases z), e _ _ h2 (fun _ z => by cases z), h3⟩
mutual
theorem dp_ext (e : ExtN H H') : ∀ {v : V} {d : PyData}, Dp K H v d → Dp K H' v d
  | _, _, .non => .non
  | _, _, .bl b => .bl b
  | _, _, .int i => .int i
  | _, _, .str x => .str x
  | _, _, .lst h k => .lst (seqL_ext e h) (dps_ext e k)
  | _, _, .tup h k => .tup (seqT_ext e h) (dps_ext e k)
theorem dps_ext (e : ExtN H H') : ∀ {vs : List V} {ds : List PyData}, DpAll K H vs ds → DpAll K H' vs ds
  | _, _, .nil => .nil
  | _, _, .cons h k => .cons (dp_ext e h) (dps_ext e k)
end
theorem extN_same {H H' : Hp} (e : Same H H') : ExtN H H' := ExtN.of e
/-- the tables through a draw of the bag -/
theorem tabs_kp {T : List (Addr × Str)} {b : Addr} {ys : List V} (t : Tabs T H) (e : Kp b H H') (hb : H b = some (.lst ys)) : Tabs T H' := fun p hp => by
  obtain ⟨ps, h1, h2, h3⟩ := t p hp
  refine ⟨ps, e _ _ h1 (ne_of h1 hb (by intro z; cases z)), h2, fun pos cv hc => ?_⟩
  obtain ⟨c, e1, e2⟩ := h3 pos cv hc
  exact ⟨c, e1, e _ _ e2 (ne_of e2 hb (by intro z; unfold CodeO at z; cases z))⟩
theorem tabs_bag {T : List (Addr × Str)} {b : Addr} (t : Tabs T H) (e : Kp b H H') (hb : Bag H b) : Tabs T H' := by
  obtain ⟨ys, hb⟩ := hb.lst
  exact tabs_kp t e hb
theorem tabs_same {T : List (Addr × Str)} (t : Tabs T H) (e : Same H H') : Tabs T H' := t.ext e
end
end Cc
set_option maxHeartbeats 4000000
/-! XEnd: the end of a law that hands lambdas on; the classes of refusals as the top has left them. -/
namespace Cc
open PySem PySem.Spec PyProof.Rows L2 LamX
/-- a def whose code object is at cd -/
structure FunC (K : PySem.W.Frag) (x qual : Str) (st : Stmt) (f : Addr) (fd : FuncData) (cd : Addr) : Prop where
  ex : ∃ (oc : Value) (od : Option Addr) (kV doc pm : Value) (an : Option Addr) (ct : Value) (sl : Array (Option Value)), fd = PySem.W.fnOf x qual (defArgs st) (defBody st) (defScope st) .none kV doc pm an (.ref cd) ct ∧ K.lookup f = some ⟨oc, od, .func fd, sl⟩
  cd : PySem.W.codeIn K (.ref cd) qual = true
section
variable {P : Program} {w : World} {K : PySem.W.Frag} {mg : Str → Option Value} {base : Heap}
theorem FunC.ok {x qual : Str} {st : Stmt} {f cd : Addr} {fd : FuncData} {N ps : List Str} {k : Nat} {sp : Sp} (F : FunC K x qual st f fd cd) (S : FnScope N ps (defScope st)) (len : ∀ vs H Q E, sp vs H Q E → vs.length = ps.length)
    (go : ∀ (A : Around) (outer : List Env) (s : Shared) (H : Hp) (vs : List V) (Q : VK) (E : XK), Room k (A.deeper (envOfC qual (defScope st) s.heap.objs.size f (.ref cd))) → sp vs H Q E →
      ∃ t, PSs (cxOf CX0 P w K mg base N qual (defScope st) f (.ref cd) A outer s H E).nox (defBody st) t ∧ t { nx := fun _ G => Q .non G, rt := Q } (start N vs) H) : FnOk P w K mg base CX0 (k + 1) f fd ps sp := by
  obtain ⟨oc, od, kV, doc, pm, an, ct, sl, rfl, lk⟩ := F.ex
  refine fn_of lk F.cd S len fun A outer s H vs Q E hr h => ?_
  obtain ⟨t, ht, q⟩ := go A outer s H vs Q E hr h
  exact ⟨t, ht.nox, q⟩
/-- the name of each lambda of the law -/
def lamName : Str := ("law" : Str) ++ ".<locals>." ++ "<lambda>"
def spLawT (K : PySem.W.Frag) (tab : Addr) : Sp := fun vs H Q _ => ∃ (a : Addr) (ns : List Int), vs = [.ref a] ∧ SqL K H a (ns.map V.int) ∧ ns.length ≤ 63 ∧ Tabs [(tab, lamName)] H ∧ ∀ H', Q (.bl true) H'
theorem tab_one {P : Addr} {q : Str} : ∀ p ∈ [(P, q)], p.1 = P → p.2 = q := fun p hp _ => by
  rcases List.mem_singleton.mp hp with rfl
  rfl
theorem lawAt_one {l : PySem.W.OpenLaw} {k : Nat} {fa : Addr} {h : Heap} {fd : FuncData} {cd tab : Addr} (e : h.get? tab = some { cls := .none, data := .fields #[] }) (no : K.lookup tab = none) (hd : PySem.W.CodeHd h cd tab)
    (hb : ∀ (s : Shared) (u : Value), BindsTo s fd ⟨[u], []⟩ [("_law_script", u)]) (F : ∀ base : Heap, K.In base → base.Ns mainGlobals mg → TabB base mg cd tab → FnOk l.prog w K mg base CX0 k fa fd ["_law_script"] (spLawT K tab)) :
    LawAtS l w K CX0 k 63 "_law_script" mg fa h := by
  refine ⟨fd, [(cd, tab)], spLawT K tab, fun p hp => ?_, fun p hp => ?_, fun p hp => ?_, hb, fun H a ns hl _ hT hS => ⟨a, ns, rfl, hS, hl, fun p hp => ?_, fun _ => rfl⟩, fun base kb nb hT => F base kb nb (hT _ List.mem_cons_self)⟩
  · rcases List.mem_singleton.mp hp with rfl
    exact e
  · rcases List.mem_singleton.mp hp with rfl
    exact no
  · rcases List.mem_singleton.mp hp with rfl
    exact hd
  · rcases List.mem_singleton.mp hp with rfl
    exact TabS.nil (hT (cd, tab) List.mem_cons_self)
/-! ### the classes -/
def ExcAt (K : PySem.W.Frag) (mg : Str → Option Value) (x : Str) (qual : Str) (st : Stmt) : Prop := ∃ C fI fd, ExcTxt K mg x C fI ∧ Fun K "__init__" qual st fI fd ∧ Binds K fd ["self"] []
theorem ExcAt.ok {x qual : Str} {st : Stmt} {p1 p2 p3 p4 p5 p6 : Pos} (Z : ExcAt K mg x qual st) (S : FnScope ["self"] ["self"] (defScope st)) (hb : defBody st = [.Assign [.Attribute (.Name "self" p1) "called" p2] (.Attribute (.Attribute (.Name "self" p3) "__class__" p4) "__name__" p5) p6]) : ExcOk P w K mg base x := by
  obtain ⟨C, fI, fd, T, F, b⟩ := Z
  exact ⟨C, fI, fd, T, ok_ownInit F S hb, b⟩
theorem excAt_mk {h : Heap} {x qual : Str} {st : Stmt} (X : K.In h) (G : h.Ns mainGlobals mg) {C fI N : Addr} {nm q : Str} {bs bm sub : List Value} {sn : List Str} {ab : Bool} {col : Option Bool} {dd : Option Addr} {k0 k1 k3 k5 : Option Value} {tk : Tok} {c : Value}
    {oc : Value} {od an : Option Addr} {sl : Array (Option Value)} {kV doc pm cdv ct : Value}
    (a : PySem.W.nsIn K mainGlobals x = some (some (.ref C))) (l : K.lookup C = some (excClassObj nm q C N bs bm true sn sub ab col dd k0 k1 (some (.str x tk)) k3 k5 "ValueError.__new__")) (b : PySem.HandSPX.refsVE bm = true)
    (sa : PySem.W.findIn K (.ref C) "__setattr__" = some (some (.builtin "object.__setattr__"))) (ex : PySem.W.subIn K (.ref C) (.type "BaseException") = some true) (ty : PySem.W.typeIn K (.ref C) = some (.type "type")) (kc : PySem.W.keepIn K (.ref C) = true)
    (g1 : PySem.W.findIn K (.ref C) "__getattribute__" = some (some (.builtin "BaseException.__getattribute__"))) (g2 : PySem.W.findIn K (.ref C) "__getattr__" = some none) (hd : PySem.W.hasDictIn K C = true)
    (c5 : PySem.W.findIn K (.ref C) "__class__" = some (some (.builtin "object.__class__"))) (c6 : PySem.W.specialIn K (.builtin "object.__class__") "__get__" = some (some (.builtin "getset_descriptor.__get__"))) (c7 : PySem.W.takesIn K (.builtin "object.__class__") = some true) (c8 : PySem.W.mroIn K C (.type "object") = some true)
    (n1 : PySem.W.nsIn K cStatics "thirdparty.any" = some none) (n3 : PySem.W.findCls K (.ref C) (.type "type") "__name__" = some (.get (.builtin "getset_descriptor.__get__") (.builtin "type.__name__") (.ref C) (.type "type")))
    (no : PySem.W.findIn K (.ref C) "called" = some none) (iC : PySem.W.findIn K (.ref C) "__init__" = some (some (.ref fI))) (tI : PySem.W.typeIn K (.ref fI) = some (.type "function"))
    (lI : K.lookup fI = some ⟨oc, od, .func (PySem.W.fnOf "__init__" qual (defArgs st) (defBody st) (defScope st) .none kV doc pm an cdv ct), sl⟩) (cI : PySem.W.codeIn K cdv qual = true) (kI : PySem.W.keepIn K (.ref fI) = true)
    (eC : PySem.W.nsIn K mainGlobals "CutError" = some (some c)) (t : PySem.W.exmOne K (.ref C) c = some true)
    (hb : ∀ (kV doc pm : Value) (an : Option Addr) (cdv ct : Value) (us : List Value), us.length = 1 → bindArgs (PySem.W.fnOf "__init__" qual (defArgs st) (defBody st) (defScope st) .none kV doc pm an cdv ct) ⟨us, []⟩ = pure ((["self"] : List Str).zip us)) : ExcAt K mg x qual st :=
  ⟨C, fI, _, ⟨⟨⟨nm, q, N, bs, bm, sn, sub, ab, col, dd, k0, k1, _, k3, k5, l, b⟩, sa, ex, ty, kc⟩, ⟨g1, g2, ex, hd, c5, c6, c7, c8, n1, ty, n3, ⟨_, tk, l, rfl⟩⟩, no, iC, tI, PySem.W.mg_of X G a, .inl ⟨c, PySem.W.mg_of X G eC, t⟩⟩, fun_mk lI cI kI, (fun_mk lI cI kI).binds hb⟩
end
end Cc
set_option maxHeartbeats 4000000
/-! XOsa: refusals over any built-in class, with a field. -/
namespace L2
open PySem PySem.Spec PyProof.Rows
/-- a class of the program's own over a built-in class of exceptions -/
structure OexG (K : PySem.W.Frag) (C : Addr) : Prop where
  cls : ∃ (B newId initId : String) (bmB : List Value), StoreFacts B bmB "object.__setattr__" "object" ∧ ExcBaseFacts B newId initId bmB ∧ PySem.W.excOver K C bmB = true ∧ PySem.W.excInitIn K C bmB newId = true
  hd : PySem.W.hasDictIn K C = true
  sa : PySem.W.findIn K (.ref C) "__setattr__" = some (some (.builtin "object.__setattr__"))
  exC : PySem.W.subIn K (.ref C) (.type "BaseException") = some true
  tyC : PySem.W.typeIn K (.ref C) = some (.type "type")
  kC : PySem.W.keepIn K (.ref C) = true
theorem upd_three {H : Hp} {a d : Addr} {o1 o2 o3 : HO} (h : d ≠ a) : upd (upd (upd H d o1) a o2) d o3 = upd (upd H d o3) a o2 := funext fun b => by
  by_cases e : b = d
  · rw [e, upd_same, upd_ne h, upd_same]
  · rw [upd_ne e]
    by_cases e2 : b = a
    · rw [e2, upd_same, upd_same]
    · rw [upd_ne e2, upd_ne e2, upd_ne e, upd_ne e]
section
variable {X : Cx} {pins : List (Addr × Obj)} {σ : St} {H : Hp} {s : Shared} {a C dx : Addr} {f : Str} {y : V} {u : Value} {fs : List (Str × V)} {Q : Unit → Shared → Prop} {E : Value → Shared → Prop} {A : Around}
theorem taker_no {K : PySem.W.Frag} (h : PySem.W.findIn K (.ref C) f = some none) : PySem.W.takerIn K C f = some none := by
  unfold PySem.W.takerIn
  rw [h]
  rfl
/-- the first field -/
theorem fieldG_new (T : OexG X.K C) (I : Inv X pins σ H s) (e : H a = some (exo a C none)) (hno : PySem.W.findIn X.K (.ref C) f = some none) (ry : RelV y u)
    (h : ∀ dx s', H dx = none → dx ≠ a → Inv X pins σ (upd (upd H dx (exd dx [(f, y)])) a (exo a C (some dx))) s' → Q () s') : wpAny (model X.prog X.w) A (setAttr (.ref a) f u) Q E s := by
  obtain ⟨B, newId, initId, bmB, SF, _, over, _⟩ := T.cls
  obtain ⟨cd, hc, hd⟩ := PySem.W.any_some T.hd
  obtain ⟨t1, ho⟩ := exo_at I.hok e
  have lt := Heap.lt_size ho
  have J : PySem.W.InstAt s.heap a _ C none := ⟨ho, rfl, rfl, trivial⟩
  refine PySem.W.set_plain I.kIn J T.sa (PySem.W.osa_openX (od := none) (s := { s with toks := s.toks + 1 }) SF I.kIn J over (taker_no hno) fun b => ?_)
  refine wpAny_bind (wpAny_pure (wpAny_bind (PySem.W.instanceDict_exc ho (PySem.W.looks_clsIn I.kIn hc) hd ?_)))
  have big : H s.heap.objs.size = none := I.hok.fresh (Nat.le_refl _)
  have far : s.heap.objs.size ≠ a := Nat.ne_of_gt lt
  have old : (s.heap.push (PySem.W.dictOf [] 0)).get? a = some _ := Heap.get?_push_of_some _ ho
  have blank : ((s.heap.push (PySem.W.dictOf [] 0)).update a fun o => { o with dict := some s.heap.objs.size }).Ns s.heap.objs.size (fun _ => none) :=
    ⟨_, #[], _, (Heap.get?_update_ne _ _ _ _ far).trans (Heap.get?_push_size _ rfl), rfl, fun e he => absurd he (by simp), fun _ => rfl⟩
  refine PySem.HandSPX.store_in_new blank fun h' tk' hn sb => ?_
  -- three steps: the empty dict, the exception's dict, what is in it
  have I1 : Inv X pins σ (upd H s.heap.objs.size (exd s.heap.objs.size [])) { s with heap := s.heap.push (PySem.W.dictOf [] 0) } :=
    I.laid (t' := s.toks) (fun b o q => Heap.get?_push_of_some _ q) (Nat.le_refl _) (exd_ok (mA := fun _ => none) (Heap.Ns1.of_empty ⟨_, #[], _, Heap.get?_push_size _ rfl, rfl, fun e he => absurd he (by simp), fun _ => rfl⟩) fun _ => True.intro)
  have I2 := I1.write (t' := s.toks) (x := a) (e := a) (o := exo a C (some s.heap.objs.size)) (h' := (s.heap.push (PySem.W.dictOf [] 0)).update a fun o => { o with dict := some s.heap.objs.size })
    (by rw [upd_ne far.symm, e]; exact True.intro) (.inl rfl) (fun b o hb q => (Heap.get?_update_ne _ _ _ _ hb).trans q) ⟨_, Heap.get?_update_self _ old rfl⟩ (exo_ok (t1 := t1) (Heap.get?_update_self _ old rfl))
  have there : ∃ o, h'.get? s.heap.objs.size = some o := by
    obtain ⟨o, _, _, q, _⟩ := hn
    exact ⟨o, q⟩
  have I3 := I2.write (t' := tk') (x := s.heap.objs.size) (e := s.heap.objs.size) (o := exd s.heap.objs.size [(f, y)]) (h' := h')
    (by rw [upd_ne far, upd_same]; exact True.intro) (.inl rfl) (fun b o hb q => (sb.2 b hb).trans q) there (exd_ok hn (relO_put (fs := []) ry fun _ => True.intro))
  rw [upd_three far] at I3
  exact h _ _ big far I3
/-- a further field -/
theorem fieldG_old (T : OexG X.K C) (I : Inv X pins σ H s) (e : H a = some (exo a C (some dx))) (ed : H dx = some (exd dx fs)) (hl : fs.length ≤ 900) (hno : PySem.W.findIn X.K (.ref C) f = some none) (ry : RelV y u)
    (h : ∀ s', Inv X pins σ (upd H dx (exd dx ((f, y) :: fs))) s' → Q () s') : wpAny (model X.prog X.w) A (setAttr (.ref a) f u) Q E s := by
  obtain ⟨B, newId, initId, bmB, SF, _, over, _⟩ := T.cls
  obtain ⟨cd, hc, hd⟩ := PySem.W.any_some T.hd
  obtain ⟨t1, ho⟩ := exo_at I.hok e
  obtain ⟨mA, ns, rel⟩ := exd_at I.hok ed
  have wi := within_of rel
  obtain ⟨oD, _, _, at_, _, _⟩ := ns.count wi
  have J : PySem.W.InstAt s.heap a _ C (some oD) := ⟨ho, rfl, rfl, at_⟩
  refine PySem.W.set_plain I.kIn J T.sa (PySem.W.osa_openX (od := some oD) (s := { s with toks := s.toks + 1 }) SF I.kIn J over (taker_no hno) fun b => ?_)
  refine wpAny_bind (wpAny_pure (wpAny_bind (wpAny_bind (wpAny_loadPart ho (wpAny_bind (PySem.W.Looks.here (s := { s with toks := s.toks + 1 }) (PySem.W.looks_clsIn I.kIn hc) ?_))))))
  rw [hd]
  refine wpAny_pure (a := some dx) ?_
  refine PySem.OEX.store_in_old ns wi (by rw [List.length_map]; omega) fun h' tk' hn sb => ?_
  have there : ∃ o, h'.get? dx = some o := by
    obtain ⟨o, _, _, q, _⟩ := hn
    exact ⟨o, q⟩
  exact h _ (I.write (t' := tk') (x := dx) (e := dx) (o := exd dx ((f, y) :: fs)) (by rw [ed]; exact True.intro) (.inl rfl) (fun b o hb q => (sb.2 b hb).trans q) there (exd_ok hn (relO_put ry rel)))
end
/-- self.f = e, whatever the built-in class -/
def tFldG (K : PySem.W.Frag) (f : Str) (to te : TE) : TS := fun D σ H => te σ H fun y H1 => to σ H1 fun x H2 => ∃ a C : Addr, x = .ref a ∧ OexG K C ∧ PySem.W.findIn K (.ref C) f = some none ∧
  ((H2 a = some (exo a C none) ∧ ∀ dx, H2 dx = none → dx ≠ a → D.nx σ (upd (upd H2 dx (exd dx [(f, y)])) a (exo a C (some dx)))) ∨
    ∃ (dx : Addr) (fs : List (Str × V)), H2 a = some (exo a C (some dx)) ∧ H2 dx = some (exd dx fs) ∧ fs.length ≤ 900 ∧ D.nx σ (upd H2 dx (exd dx ((f, y) :: fs))))
section
variable {X : Cx} {o e : Expr} {es : List Expr} {to te : TE} {ta : TA} {f : Str} {p p' pos : Pos}
theorem ps_fldG (ho : PE X o to) (he : PE X e te) (hs : swapsWith e (some (.Attribute o f p')) pos.line X.env = pure false := by rfl) : PS X (.Assign [.Attribute o f p'] e pos) (tFldG X.K f to te) :=
  ⟨fun pins s σ H D I h => plainObj_wpAny_Assign_Attribute (thn (he.run pins s σ H _ I h) fun v s1 ⟨y, H1, I1, r1, q1⟩ => thn (ho.run pins s1 σ H1 _ I1 q1) fun w s2 ⟨x, H2, I2, r2, a, C, ex, T, no, q⟩ => by
    subst ex
    cases r2
    rcases q with ⟨at_, q⟩ | ⟨dx, fs, at_, ed, hl, q⟩
    · exact fieldG_new T I2 at_ no r1 fun dx s' n ne J => ⟨σ, _, J, q dx n ne⟩
    · exact fieldG_old T I2 at_ ed hl no r1 fun s' J => ⟨σ, _, J, q⟩) hs⟩
/-- what C(..) makes -/
def tMkG (C : Addr) (sp : Sp) (ta : TA) : St → Hp → XK → Prop := fun σ H Q => ta σ H fun vs H1 => vs.length ≤ 1000 ∧ ∀ a, H1 a = none → sp (.ref a :: vs) (upd H1 a (exo a C none))
  (fun v H2 => v = .non ∧ ∃ (d : Addr) (fs : List (Str × V)), H2 a = some (exo a C (some d)) ∧ H2 d = some (exd d fs) ∧ H1 d = none ∧ Q (.ref C) (some d) (upd (del H2 a) d (.xd fs))) (fun _ _ _ => False)
/-- C(e, ..) -/
theorem pmk_g {CX : CXT} {x : Str} {C fI : Addr} {k : Nat} {fd : FuncData} {ps : List Str} {sp : Sp} (T : OexG X.K C) (iC : PySem.W.findIn X.K (.ref C) "__init__" = some (some (.ref fI))) (tI : PySem.W.typeIn X.K (.ref fI) = some (.type "function"))
    (F1 : FnOk X.prog X.w X.K X.mg X.base CX k fI fd ps sp) (hr : Room (k + 1) X.A) (hb : Binds X.K fd ps []) (hx : Passes CX X (fun _ _ _ => False)) (hg : Gl X x) (hm : X.mg x = some (.ref C)) (ha : PA X (e :: es) ta)
    (hdb : (x == ("__debug__" : Str)) = false := by decide) (he : starEach (e :: es) X.env = (false, eval e X.env) :: starEach es X.env := by rfl) (hpl : (backTo pos (starEach es X.env)).any (·.1) = false := by rfl) :
    PMk X (.Call (.Name x p) (e :: es) [] pos) (tMkG C sp ta) := by
  intro pins s σ H Q I h
  obtain ⟨B, newId, initId, bmB, _, FB, _, ini⟩ := T.cls
  refine wpAny_Call_Name_kw (ld_glob I hg hm (PySem.W.callWith_K (h₀ := X.base) I.ok.mod.kin T.kC (thn (ha.run pos pins s σ H _ I h) fun us s1 ⟨vs, H1, I1, r1, hz, q1⟩ => ⟨I1.kIn, ?_⟩) he hpl) hdb)
  obtain ⟨nm, N, qn, bs, bm, hdct, sn, sub, ab, col, dd, k0, k1, k2, k3, k5, hC, hT⟩ := PySem.W.excInit_of I1.kIn ini
  obtain ⟨hp, g, dr, tk, os⟩ := s1
  have up := Nat.le_succ hp.objs.size
  have hq := q1 _ (I1.hok.fresh up)
  have kk : ∀ b o, hp.get? b = some o → ((hp.push (PySem.W.kdv_tup us)).push (PySem.HandSPX.excO C hp.objs.size)).get? b = some o := fun b o q => Heap.get?_push_of_some _ (Heap.get?_push_of_some _ q)
  have J := I1.laid (t' := tk) kk up (exo_ok (C := C) (d := none) (t1 := hp.objs.size) (by heap_get))
  have r2 : Vals (V.ref (hp.objs.size + 1) :: vs) (Value.ref (hp.objs.size + 1) :: us) := .cons rfl r1
  have hl : (Value.ref (hp.objs.size + 1) :: us ++ []).length = ps.length := by
    rw [List.append_nil, ← r2.length]
    exact F1.len _ _ _ _ hq
  have small : us.length ≤ sizeLine := by
    rw [← Paired.length r1, sizeLine_eq]
    omega
  have bound := hb _ (Value.ref (hp.objs.size + 1) :: us) J.kIn hl
  rw [List.append_nil] at bound
  refine wpAny_call (PySem.HandSPX.call_own FB hT hC (PySem.W.looks_findIn I1.kIn iC) (fun self => PySem.W.bind_fn I1.kIn self tI) small
    (codeAny_mono (F1.run _ X.stack _ _ ⟨Value.ref (hp.objs.size + 1) :: us, []⟩ _ _ _ (fun _ _ _ => False) (hr.make C us []) (J.env0.make C us []) bound r2 hq) fun r s' w => ?_))
  match r, w with
  | .error er, w => exact hx pins σ _ _ er s' J w
  | .ok (.ret u), ⟨_, H2, ho, hbr, un2, hok2, rv, rfl, d, fs, ea, ed, hd1, q2⟩ =>
    obtain ⟨h2, g2, d2, t2, os'⟩ := s'
    exact ⟨rv, mk_end (raises_own T.exC T.tyC) I1 up kk un2 hok2 ho hbr ea ed hd1 q2⟩
  | .ok .next, w => exact w.elim
  | .ok .brk, w => exact w.elim
  | .ok .cont, w => exact w.elim
end
end L2
set_option maxHeartbeats 4000000
/-! XMiss: refusals that tell a name; the law's asking for it. -/
namespace Cc
open PySem PySem.Spec PyProof.Rows L2 LamX
/-- thrown: a refusal of class x over Missing, with the name that it tells -/
def ThrownN (K : PySem.W.Frag) (mg : Str → Option Value) (x : Str) (y : V) (cls : Value) (d : Option Addr) (H : Hp) : Prop :=
  ∃ (C dd : Addr), cls = .ref C ∧ mg x = some (.ref C) ∧ XfC K C ∧ PySem.W.findIn K (.ref C) "called" = some none ∧ PySem.W.findIn K (.ref C) "name" = some none ∧ PySem.W.exmOne K (.ref C) (.ref C) = some true ∧ d = some dd ∧ H dd = some (.xd [("name", y), ("called", .str x)])
def ThrN (K : PySem.W.Frag) (mg : Str → Option Value) (x : Str) (y : V) (H : Hp) (E : XK) : Prop := ∀ cls d H', ThrownN K mg x y cls d H' → Same H H' → E cls d H'
theorem ThrN.later {K : PySem.W.Frag} {mg : Str → Option Value} {x : Str} {y : V} {H H1 : Hp} {E : XK} (t : ThrN K mg x y H E) (s : Same H H1) : ThrN K mg x y H1 E := fun cls d H' h s' => t cls d H' h (s.trans s')
structure ExcTxtN (K : PySem.W.Frag) (mg : Str → Option Value) (x : Str) (C fI : Addr) : Prop where
  ox : OexG K C
  nm : NmC K C x
  no1 : PySem.W.findIn K (.ref C) "called" = some none
  no2 : PySem.W.findIn K (.ref C) "name" = some none
  iC : PySem.W.findIn K (.ref C) "__init__" = some (some (.ref fI))
  tI : PySem.W.typeIn K (.ref fI) = some (.type "function")
  mgC : mg x = some (.ref C)
  tk : PySem.W.exmOne K (.ref C) (.ref C) = some true
def spMissInit (K : PySem.W.Frag) : Sp := fun vs H Q _ => ∃ (a C : Addr) (z : Str) (y : V), vs = [.ref a, y] ∧ H a = some (exo a C none) ∧ NmC K C z ∧ OexG K C ∧ PySem.W.findIn K (.ref C) "called" = some none ∧ PySem.W.findIn K (.ref C) "name" = some none ∧
  ∀ d, H d = none → d ≠ a → Q .non (upd (upd (upd H d (exd d [("called", .str z)])) a (exo a C (some d))) d (exd d [("name", y), ("called", .str z)]))
section
variable {P : Program} {w : World} {K : PySem.W.Frag} {mg : Str → Option Value} {base : Heap}
/-- def __init__(self, name): self.called = self.__class__.__name__; self.name = name -/
theorem ok_missInit {f : Addr} {fd : FuncData} {qual : Str} {st : Stmt} {p1 p2 p3 p4 p5 p6 q1 q2 q3 q4 : Pos} (F : Fun K "__init__" qual st f fd) (S : FnScope ["self", "name"] ["self", "name"] (defScope st))
    (hb : defBody st = [.Assign [.Attribute (.Name "self" p1) "called" p2] (.Attribute (.Attribute (.Name "self" p3) "__class__" p4) "__name__" p5) p6, .Assign [.Attribute (.Name "self" q1) "name" q2] (.Name "name" q3) q4]) :
    FnOk P w K mg base CX0 1 f fd ["self", "name"] (spMissInit K) := by
  refine F.ok S (fun vs H Q E h => ?_) (fun cdv A outer s H vs Q E hr h => ?_)
  · obtain ⟨a, C, z, y, rfl, _⟩ := h
    rfl
  · obtain ⟨a, C, z, y, rfl, ha, hn, ho, no1, no2, q⟩ := h
    rw [hb]
    have vis : Vis (defScope st) "self" := (S.par "self" List.mem_cons_self).elim .inl fun z => .inr (.inl z)
    have vis2 : Vis (defScope st) "name" := (S.par "name" (List.mem_cons_of_mem _ List.mem_cons_self)).elim .inl fun z => .inr (.inl z)
    refine ⟨_, pss_cons (ps_fldG (pe_var (i := 0) rfl vis) (pe_clsn (pe_var (i := 0) rfl vis))) (pss_one (ps_fldG (pe_var (i := 0) rfl vis) (pe_var (i := 1) rfl vis2))), ?_⟩
    refine ⟨_, rfl, a, C, z, rfl, ha, hn, _, rfl, a, C, rfl, ho, no1, .inl ⟨ha, fun d hd hne => ?_⟩⟩
    refine ⟨_, rfl, _, rfl, a, C, rfl, ho, no2, .inr ⟨d, [("called", .str z)], upd_same, by rw [upd_ne hne, upd_same], (show 1 ≤ 900 by decide), ?_⟩⟩
    exact q d hd hne
def ExcOkN (P : Program) (w : World) (K : PySem.W.Frag) (mg : Str → Option Value) (base : Heap) (x : Str) : Prop := ∃ C fI fd, ExcTxtN K mg x C fI ∧ FnOk P w K mg base CX0 1 fI fd ["self", "name"] (spMissInit K) ∧ Binds K fd ["self", "name"] []
/-- a reading of arguments, closed upwards -/
def upA (ta : TA) : TA := fun σ H R => ∃ G, ta σ H G ∧ ∀ vs H1, G vs H1 → R vs H1
theorem paUp {X : Cx} {es : List Expr} {ta : TA} (h : PA X es ta) : PA X es (upA ta) := ⟨fun pos pins s σ H Q I ⟨G, g, m⟩ => thn (h.run pos pins s σ H G I g) fun us s1 ⟨vs, H1, I1, r1, z⟩ => ⟨vs, H1, I1, r1, m _ _ z⟩⟩
/-- raise C(e) -/
def tExcN (K : PySem.W.Frag) (mg : Str → Option Value) (x : Str) (ta : TA) : L2.St → Hp → XK → Prop := fun σ H Q => ta σ H fun vs H1 => ∃ y, vs = [y] ∧ ThrN K mg x y H1 Q
theorem pmk_n {X : Cx} {x : Str} {e : Expr} {ta : TA} {p pos : Pos} (Z : ExcOkN X.prog X.w X.K X.mg X.base x) (hr : Room 2 X.A) (hg : Gl X x) (ha : PA X [e] ta) (hdb : (x == ("__debug__" : Str)) = false := by decide)
    (he : starEach [e] X.env = (false, eval e X.env) :: starEach [] X.env := by rfl) : PMk X (.Call (.Name x p) [e] [] pos) (tExcN X.K X.mg x ta) := by
  obtain ⟨C, fI, fd, T, F, hb⟩ := Z
  intro pins s σ H Q I h
  refine pmk_g (CX := CX0) T.ox T.iC T.tI F hr hb (fun _ _ _ _ _ _ _ z => z.elim) hg T.mgC (paUp ha) hdb he rfl pins s σ H Q I ⟨_, h, fun vs H1 ⟨y, ev, th⟩ => ?_⟩
  subst ev
  refine ⟨(show 1 ≤ 1000 by decide), fun a na => ⟨a, C, x, y, rfl, upd_same, T.nm, T.ox, T.no1, T.no2, fun d nd hne => ⟨rfl, d, [("name", y), ("called", .str x)], ?_, upd_same, ?_, ?_⟩⟩⟩
  · rw [upd_ne hne.symm, upd_same]
  · rw [upd_ne hne] at nd
    exact nd
  · rw [upd_ne hne] at nd
    refine th _ _ _ ⟨C, d, rfl, T.mgC, nmC_xf T.nm, T.no1, T.no2, T.tk, rfl, upd_same⟩ fun b o e => ?_
    have b1 := ne_of_none e na
    have b2 := ne_of_none e nd
    rw [upd_ne b2, del_ne b1, upd_ne b2, upd_ne b1, upd_ne b2, upd_ne b1]
    exact e
/-! ### the classes as the top has left them -/
def ExcAtN (K : PySem.W.Frag) (mg : Str → Option Value) (x : Str) (qual : Str) (st : Stmt) : Prop := ∃ C fI fd, ExcTxtN K mg x C fI ∧ Fun K "__init__" qual st fI fd ∧ Binds K fd ["self", "name"] []
theorem ExcAtN.ok {x qual : Str} {st : Stmt} {p1 p2 p3 p4 p5 p6 q1 q2 q3 q4 : Pos} (Z : ExcAtN K mg x qual st) (S : FnScope ["self", "name"] ["self", "name"] (defScope st))
    (hb : defBody st = [.Assign [.Attribute (.Name "self" p1) "called" p2] (.Attribute (.Attribute (.Name "self" p3) "__class__" p4) "__name__" p5) p6, .Assign [.Attribute (.Name "self" q1) "name" q2] (.Name "name" q3) q4]) : ExcOkN P w K mg base x := by
  obtain ⟨C, fI, fd, T, F, b⟩ := Z
  exact ⟨C, fI, fd, T, ok_missInit F S hb, b⟩
theorem excAtN_mk {h : Heap} {x qual : Str} {st : Stmt} (X : K.In h) (G : h.Ns mainGlobals mg) {B newId initId : String} {bmB : List Value} {C fI : Addr} {o : Obj} {tk : Tok}
    {oc : Value} {od an : Option Addr} {sl : Array (Option Value)} {kV doc pm cdv ct : Value}
    (a : PySem.W.nsIn K mainGlobals x = some (some (.ref C))) (SF : StoreFacts B bmB "object.__setattr__" "object") (FB : ExcBaseFacts B newId initId bmB) (ov : PySem.W.excOver K C bmB = true) (ini : PySem.W.excInitIn K C bmB newId = true) (hd : PySem.W.hasDictIn K C = true)
    (sa : PySem.W.findIn K (.ref C) "__setattr__" = some (some (.builtin "object.__setattr__"))) (ex : PySem.W.subIn K (.ref C) (.type "BaseException") = some true) (ty : PySem.W.typeIn K (.ref C) = some (.type "type")) (kc : PySem.W.keepIn K (.ref C) = true)
    (g1 : PySem.W.findIn K (.ref C) "__getattribute__" = some (some (.builtin "BaseException.__getattribute__"))) (g2 : PySem.W.findIn K (.ref C) "__getattr__" = some none)
    (c5 : PySem.W.findIn K (.ref C) "__class__" = some (some (.builtin "object.__class__"))) (c6 : PySem.W.specialIn K (.builtin "object.__class__") "__get__" = some (some (.builtin "getset_descriptor.__get__"))) (c7 : PySem.W.takesIn K (.builtin "object.__class__") = some true) (c8 : PySem.W.mroIn K C (.type "object") = some true)
    (n1 : PySem.W.nsIn K cStatics "thirdparty.any" = some none) (n3 : PySem.W.findCls K (.ref C) (.type "type") "__name__" = some (.get (.builtin "getset_descriptor.__get__") (.builtin "type.__name__") (.ref C) (.type "type")))
    (l4 : K.lookup C = some o) (s4 : o.slots[2]? = some (some (.str x tk)))
    (no1 : PySem.W.findIn K (.ref C) "called" = some none) (no2 : PySem.W.findIn K (.ref C) "name" = some none) (iC : PySem.W.findIn K (.ref C) "__init__" = some (some (.ref fI))) (tI : PySem.W.typeIn K (.ref fI) = some (.type "function"))
    (lI : K.lookup fI = some ⟨oc, od, .func (PySem.W.fnOf "__init__" qual (defArgs st) (defBody st) (defScope st) .none kV doc pm an cdv ct), sl⟩) (cI : PySem.W.codeIn K cdv qual = true) (kI : PySem.W.keepIn K (.ref fI) = true)
    (t : PySem.W.exmOne K (.ref C) (.ref C) = some true)
    (hb : ∀ (kV doc pm : Value) (an : Option Addr) (cdv ct : Value) (us : List Value), us.length = 2 → bindArgs (PySem.W.fnOf "__init__" qual (defArgs st) (defBody st) (defScope st) .none kV doc pm an cdv ct) ⟨us, []⟩ = pure ((["self", "name"] : List Str).zip us)) : ExcAtN K mg x qual st :=
  ⟨C, fI, _, ⟨⟨⟨B, newId, initId, bmB, SF, FB, ov, ini⟩, hd, sa, ex, ty, kc⟩, ⟨g1, g2, ex, hd, c5, c6, c7, c8, n1, ty, n3, ⟨o, tk, l4, s4⟩⟩, no1, no2, iC, tI, PySem.W.mg_of X G a, t⟩, fun_mk lI cI kI, (fun_mk lI cI kI).binds hb⟩
/-! ### the law's asking for the name -/
def tLost (K : PySem.W.Frag) (mg : Str → Option Value) : TAsk := fun tl H Q => ∃ (E : XK) (R : VK), (∀ cls d H', E cls d H' → ∃ y, ThrownN K mg "NoName" y cls d H' ∧ ∀ G, Same H' G → Q y G) ∧ (∀ v H', R v H' → ∀ G, Same H' G → Q .non G) ∧ ∀ G, Same H G → tl E G R
theorem lost_step {tl : XK → Hp → VK → Prop} {H : Hp} {Q : VK} (h : ∀ G, Same H G → tl (fun cls d H' => ∃ y, ThrownN K mg "NoName" y cls d H' ∧ ∀ G, Same H' G → Q y G) G fun v H' => ∀ G, Same H' G → Q .non G) : tLost K mg tl H Q :=
  ⟨_, _, fun _ _ _ z => z, fun _ _ z => z, h⟩
/-! ### no such name -/
/-- a thing by which nothing stands in the dict: a text; other things are no text -/
@[irreducible] def spCheckNX (K : PySem.W.Frag) (mg : Str → Option Value) : Sp := fun vs H Q E => ∃ (D : Addr) (z : Str) (kvs : List (Key × V)), vs = [.ref D, .str z] ∧ Rd H D (.dK kvs) ∧ ((∃ u, valV kvs (Sum.inr z) = some u) → Q .non H) ∧ (valV kvs (Sum.inr z) = none → ThrN K mg "NoName" (.str z) H E)
@[irreducible] def spNearX (K : PySem.W.Frag) (mg : Str → Option Value) : Sp := fun vs H Q E => ∃ (D : Addr) (z : Str) (kvs : List (Key × V)), vs = [.ref D, .str z] ∧ Rd H D (.dK kvs) ∧ valV kvs (Sum.inr z) = none ∧ ThrN K mg "NoName" (.str z) H E
@[irreducible] def spWayX (K : PySem.W.Frag) (mg : Str → Option Value) : Sp := fun vs H Q E => ∃ (D : Addr) (y z : Str) (kvs : List (Key × V)), vs = [.ref D, .str y, .str z] ∧ Rd H D (.dK kvs) ∧ ((valV kvs (Sum.inr y) = none ∧ ThrN K mg "NoName" (.str y) H E) ∨ (∃ u, valV kvs (Sum.inr y) = some u) ∧ valV kvs (Sum.inr z) = none ∧ ThrN K mg "NoName" (.str z) H E)
section
variable {H : Hp} {Q : VK} {E : XK} {vs : List V} {D : Addr} {y z : Str} {kvs : List (Key × V)}
theorem checknx_step (hD : Rd H D (.dK kvs)) (q : (∃ u, valV kvs (Sum.inr z) = some u) → Q .non H) (hE : valV kvs (Sum.inr z) = none → ThrN K mg "NoName" (.str z) H E) (hvs : vs = [.ref D, .str z] := by rfl) : spCheckNX K mg vs H Q E := by
  unfold spCheckNX
  exact ⟨D, z, kvs, hvs, hD, q, hE⟩
theorem nearx_step (hD : Rd H D (.dK kvs)) (h0 : valV kvs (Sum.inr z) = none) (hE : ThrN K mg "NoName" (.str z) H E) (hvs : vs = [.ref D, .str z] := by rfl) : spNearX K mg vs H Q E := by
  unfold spNearX
  exact ⟨D, z, kvs, hvs, hD, h0, hE⟩
theorem wayx_step (hD : Rd H D (.dK kvs)) (h : (valV kvs (Sum.inr y) = none ∧ ThrN K mg "NoName" (.str y) H E) ∨ (∃ u, valV kvs (Sum.inr y) = some u) ∧ valV kvs (Sum.inr z) = none ∧ ThrN K mg "NoName" (.str z) H E) (hvs : vs = [.ref D, .str y, .str z] := by rfl) : spWayX K mg vs H Q E := by
  unfold spWayX
  exact ⟨D, y, z, kvs, hvs, hD, h⟩
end
end
end Cc
set_option exponentiation.threshold 10000
/-! XRim: what a laid box has in common with the others and with the rim comes to its own rim. -/
namespace Cc
open PySem PySem.Spec PyProof.Rows L2
def rsum : List Rat → Rat
  | [] => 0
  | x :: r => x + rsum r
theorem rsum_append : ∀ xs ys : List Rat, rsum (xs ++ ys) = rsum xs + rsum ys
  | [], ys => by show rsum ys = 0 + rsum ys; grind
  | x :: r, ys => by
    show x + rsum (r ++ ys) = x + rsum r + rsum ys
    rw [rsum_append r ys]
    grind
theorem rsum_perm {xs ys : List Rat} (h : xs.Perm ys) : rsum xs = rsum ys := by
  induction h with
  | nil => rfl
  | cons x _ ih => show x + _ = x + _; rw [ih]
  | swap x y l => show y + (x + rsum l) = x + (y + rsum l); grind
  | trans _ _ h1 h2 => exact h1.trans h2
def sumN (f : Nat → Rat) : Nat → Rat
  | 0 => 0
  | n + 1 => sumN f n + f n
theorem sumN_congr {f g : Nat → Rat} : ∀ {n : Nat}, (∀ i, i < n → f i = g i) → sumN f n = sumN g n
  | 0, _ => rfl
  | n + 1, h => by
    show sumN f n + f n = sumN g n + g n
    rw [sumN_congr fun i hi => h i (by omega), h n (by omega)]
theorem sumN_add (f g : Nat → Rat) : ∀ n, sumN (fun i => f i + g i) n = sumN f n + sumN g n
  | 0 => by show (0 : Rat) = 0 + 0; grind
  | n + 1 => by
    show sumN _ n + (f n + g n) = sumN f n + f n + (sumN g n + g n)
    rw [sumN_add f g n]
    grind
theorem sumN_one (a : Nat) (q : Rat) : ∀ n, sumN (fun i => if i = a then q else 0) n = if a < n then q else 0
  | 0 => by rw [if_neg (by omega)]; rfl
  | n + 1 => by
    show sumN _ n + (if n = a then q else 0) = _
    rw [sumN_one a q n]
    by_cases h : a < n
    · rw [if_pos h, if_neg (by omega), if_pos (by omega)]
      grind
    · by_cases e : n = a
      · rw [if_neg h, if_pos e, if_pos (by omega)]
        grind
      · rw [if_neg h, if_neg e, if_neg (by omega)]
        grind
theorem sumN_pre (a : Nat) (q : Rat) (n : Nat) : sumN (fun i => if i + 1 = a then q else 0) n = if 0 < a ∧ a ≤ n then q else 0 := by
  cases a with
  | zero =>
    rw [if_neg (by omega), sumN_congr (g := fun i => if i = n + 1 then q else 0) fun i hi => by rw [if_neg (by omega), if_neg (by omega)], sumN_one, if_neg (by omega)]
  | succ a =>
    rw [sumN_congr (g := fun i => if i = a then q else 0) fun i hi => by
      by_cases e : i = a
      · rw [if_pos (by omega), if_pos e]
      · rw [if_neg (by omega), if_neg e], sumN_one]
    by_cases h : a < n
    · rw [if_pos h, if_pos (by omega)]
    · rw [if_neg h, if_neg (by omega)]
theorem sumN_tele (g : Nat → Rat) : ∀ n, sumN (fun j => g (j + 1) - g j) n = g n - g 0
  | 0 => by show (0 : Rat) = g 0 - g 0; grind
  | n + 1 => by
    show sumN _ n + (g (n + 1) - g n) = _
    rw [sumN_tele g n]
    grind
theorem rsum_range (f : Nat → Rat) : ∀ n, rsum ((List.range n).map f) = sumN f n
  | 0 => rfl
  | n + 1 => by
    rw [List.range_succ, List.map_append, rsum_append, rsum_range f n]
    show sumN f n + (f n + 0) = sumN f n + f n
    grind
/-! ### two stretches -/
def clamp (l r x : Rat) : Rat := gr l (ls x r)
theorem cmn_clamp {l r x y : Rat} (h : l ≤ r) (hxy : x ≤ y) : cmn l r x y = clamp l r y - clamp l r x := by
  unfold cmn clamp gr ls
  grind
theorem clamp_hi {l r x : Rat} (h : l ≤ r) (hx : r ≤ x) : clamp l r x = r := by
  unfold clamp gr ls
  grind
theorem clamp_lo {l r x : Rat} (h : l ≤ r) (hx : x ≤ l) : clamp l r x = l := by
  unfold clamp gr ls
  grind
theorem ovl_self {x l : Rat} : ovl x l x l = l := by
  unfold ovl gr ls
  grind
/-- beneath one another: what they have in common along -/
theorem touch_cross {p c : Bx} (h : ovl p.t p.h c.t c.h = 0) : touchM p c = cmn p.l (p.l + p.w) c.l (c.l + c.w) := by
  unfold touchM
  rw [h, cmn_ovl, if_neg (fun z => absurd z.2 (by grind))]
  by_cases e : 0 < ovl p.l p.w c.l c.w
  · rw [if_pos ⟨rfl, e⟩, if_pos e]
  · rw [if_neg (fun z => e z.2), if_neg e]
theorem touch_same {p c : Bx} (hp : 0 < p.h) (h : ovl p.t p.h c.t c.h = p.h) : touchM p c = if ovl p.l p.w c.l c.w = 0 then p.h else 0 := by
  unfold touchM
  rw [h]
  by_cases e : ovl p.l p.w c.l c.w = 0
  · rw [if_pos ⟨e, hp⟩, if_pos e]
  · rw [if_neg (fun z => e z.1), if_neg (fun z => absurd z.1 (by grind)), if_neg e]
theorem touch_apart {p c : Bx} (h : ovl p.t p.h c.t c.h < 0) : touchM p c = 0 := by
  unfold touchM
  rw [if_neg (fun z => absurd z.2 (by grind)), if_neg (fun z => absurd z.1 (by grind))]
theorem touch_tn (p c : Bx) : touchM (tnB p) (tnB c) = touchM p c := by
  unfold touchM tnB
  dsimp only
  generalize ovl p.l p.w c.l c.w = x
  generalize ovl p.t p.h c.t c.h = y
  grind
/-! ### rising ends -/
theorem seq_lt {x : Nat → Rat} {n : Nat} (hx : ∀ i, i < n → x i < x (i + 1)) {i : Nat} : ∀ {k : Nat}, i < k → k ≤ n → x i < x k
  | 0, h, _ => by omega
  | k + 1, h, hk => by
    by_cases e : i = k
    · subst e
      exact hx i (by omega)
    · have h1 := seq_lt hx (i := i) (k := k) (by omega) (by omega)
      have h2 := hx k (by omega)
      grind
theorem ovl_seq {x : Nat → Rat} {n : Nat} (hx : ∀ i, i < n → x i < x (i + 1)) {i k : Nat} (hi : i < n) (hk : k < n) {l m : Rat} (el : x i + l = x (i + 1)) (em : x k + m = x (k + 1)) :
    ovl (x i) l (x k) m = if i = k then l else if i < k then x (i + 1) - x k else x (k + 1) - x i := by
  have a1 := hx i hi
  have a2 := hx k hk
  unfold ovl
  rw [el, em]
  by_cases e : i = k
  · subst e
    rw [if_pos rfl]
    unfold gr ls
    grind
  · rw [if_neg e]
    by_cases h : i < k
    · rw [if_pos h]
      have b1 := seq_lt hx h (by omega)
      have b2 := seq_lt hx (i := i + 1) (k := k + 1) (by omega) (by omega)
      unfold gr ls
      grind
    · rw [if_neg h]
      have b1 := seq_lt hx (i := k) (k := i) (by omega) (by omega)
      have b2 := seq_lt hx (i := k + 1) (k := i + 1) (by omega) (by omega)
      unfold gr ls
      grind
theorem ovl_seq_zero {x : Nat → Rat} {n : Nat} (hx : ∀ i, i < n → x i < x (i + 1)) {i k : Nat} (hi : i < n) (hk : k < n) {l m : Rat} (el : x i + l = x (i + 1)) (em : x k + m = x (k + 1)) :
    (ovl (x i) l (x k) m = 0 ↔ (i + 1 = k ∨ k + 1 = i)) ∧ ((i = k ∨ i + 1 = k ∨ k + 1 = i) ∨ ovl (x i) l (x k) m < 0) := by
  rw [ovl_seq hx hi hk el em]
  have a1 := hx i hi
  by_cases e : i = k
  · rw [if_pos e]
    subst e
    exact ⟨⟨fun z => by grind, fun z => by omega⟩, .inl (.inl rfl)⟩
  · rw [if_neg e]
    by_cases h : i < k
    · rw [if_pos h]
      by_cases e2 : i + 1 = k
      · subst e2
        exact ⟨⟨fun _ => .inl rfl, fun _ => by grind⟩, .inl (.inr (.inl rfl))⟩
      · have b := seq_lt hx (i := i + 1) (k := k) (by omega) (by omega)
        exact ⟨⟨fun z => by grind, fun z => by omega⟩, .inr (by grind)⟩
    · rw [if_neg h]
      by_cases e2 : k + 1 = i
      · subst e2
        exact ⟨⟨fun _ => .inr rfl, fun _ => by grind⟩, .inl (.inr (.inr rfl))⟩
      · have b := seq_lt hx (i := k + 1) (k := i) (by omega) (by omega)
        exact ⟨⟨fun z => by grind, fun z => by omega⟩, .inr (by grind)⟩
/-! ### a row of boxes, one beside the other -/
def RowS (c : Nat → Bx) (m : Nat) (x : Nat → Rat) (t h : Rat) : Prop := (∀ j, j < m → x j < x (j + 1)) ∧ ∀ j, j < m → (c j).l = x j ∧ (c j).l + (c j).w = x (j + 1) ∧ (c j).t = t ∧ (c j).h = h
theorem row_across {c : Nat → Bx} {m : Nat} {x : Nat → Rat} {t h : Rat} (R : RowS c m x t h) {p : Bx} (hw : 0 < p.w) (hz : ovl p.t p.h t h = 0) (h0 : x 0 ≤ p.l) (h1 : p.l + p.w ≤ x m) : sumN (fun j => touchM p (c j)) m = p.w := by
  rw [sumN_congr (g := fun j => clamp p.l (p.l + p.w) (x (j + 1)) - clamp p.l (p.l + p.w) (x j)) fun j hj => ?_, sumN_tele (fun j => clamp p.l (p.l + p.w) (x j)), clamp_hi (by grind) h1, clamp_lo (by grind) h0]
  · grind
  · obtain ⟨e1, e2, e3, e4⟩ := R.2 j hj
    rw [touch_cross (by rw [e3, e4]; exact hz), e1, ← e1, e2, cmn_clamp (by grind) (by rw [e1]; have := R.1 j hj; grind)]
theorem row_along {c : Nat → Bx} {m : Nat} {x : Nat → Rat} {t h : Rat} (R : RowS c m x t h) (hh : 0 < h) {j : Nat} (hj : j < m) : sumN (fun k => touchM (c j) (c k)) m = (if 0 < j then h else 0) + (if j + 1 < m then h else 0) := by
  obtain ⟨e1, e2, e3, e4⟩ := R.2 j hj
  rw [sumN_congr (g := fun k => (if k + 1 = j then h else 0) + (if k = j + 1 then h else 0)) fun k hk => ?_, sumN_add, sumN_pre, sumN_one]
  · by_cases z : 0 < j
    · rw [if_pos ⟨z, by omega⟩, if_pos z]
    · rw [if_neg (fun q => z q.1), if_neg z]
  · obtain ⟨f1, f2, f3, f4⟩ := R.2 k hk
    have q := (ovl_seq_zero R.1 hj hk (l := (c j).w) (m := (c k).w) (by rw [← e1]; exact e2) (by rw [← f1]; exact f2)).1
    rw [touch_same (by rw [e4]; exact hh) (by rw [e3, e4, f3, f4]; exact ovl_self), e1, f1, e4]
    by_cases z : j + 1 = k ∨ k + 1 = j
    · rw [if_pos (q.mpr z)]
      rcases z with z | z
      · rw [if_neg (by omega), if_pos (by omega)]
        grind
      · rw [if_pos z, if_neg (by omega)]
        grind
    · rw [if_neg (fun w => z (q.mp w)), if_neg (by omega), if_neg (by omega)]
      grind
/-! ### laid boxes, one row beneath the other -/
theorem rsum_laid (f : Bx → Rat) (b : Bx) (ws ss : List Int) (d : Bool) : ∀ n, rsum ((laidTo b ws ss d n).map f) = sumN (fun i => sumN (fun k => f (cutAt (cutAt b (sumsM ws ss) d i) (rowAt ws ss i) (!d) k)) (rowAt ws ss i).length) n
  | 0 => rfl
  | n + 1 => by
    rw [laidTo_succ, List.map_append, rsum_append, rsum_laid f b ws ss d n]
    show _ + rsum ((laidAt b ws ss d n).map f) = _ + _
    unfold laidAt cutM
    rw [List.map_map, rsum_range]
    rfl
section
variable {b : Bx} {us : List Int} {n : Nat}
/-- a cut down: the rows' ends rise -/
theorem down_ends (hb : b.Ok n) (h : WGk us) : ∀ i, i < us.length → edgeG b us true i < edgeG b us true (i + 1) := fun i hi => by
  rw [edgeG_succ true hi, if_pos rfl]
  have := Rat.mul_pos hb.h0 (h.shr hi)
  grind
theorem across_ends (hb : b.Ok n) (h : WGk us) : ∀ i, i < us.length → edgeG b us false i < edgeG b us false (i + 1) := fun i hi => by
  rw [edgeG_succ false hi, if_neg Bool.false_ne_true]
  have := Rat.mul_pos hb.w0 (h.shr hi)
  grind
theorem down_at {i : Nat} (hi : i < us.length) : (cutAt b us true i).t = edgeG b us true i ∧ (cutAt b us true i).t + (cutAt b us true i).h = edgeG b us true (i + 1) ∧ (cutAt b us true i).l = b.l ∧ (cutAt b us true i).w = b.w := by
  rw [edgeG_succ true hi]
  exact ⟨rfl, rfl, rfl, rfl⟩
theorem across_row (hb : b.Ok n) (h : WGk us) : RowS (cutAt b us false) us.length (edgeG b us false) b.t b.h := by
  refine ⟨across_ends hb h, fun j hj => ?_⟩
  rw [edgeG_succ false hj]
  exact ⟨rfl, rfl, rfl, rfl⟩
theorem edge_first (d : Bool) : edgeG b us d 0 = if d then b.t else b.l := by
  unfold edgeG
  rw [pre_zero]
  cases d
  · rw [if_neg Bool.false_ne_true, if_neg Bool.false_ne_true]; grind
  · rw [if_pos rfl, if_pos rfl]; grind
theorem edge_last (h : WGk us) (d : Bool) : edgeG b us d us.length = if d then b.t + b.h else b.l + b.w := by
  unfold edgeG
  rw [pre_lenG h]
  cases d
  · rw [if_neg Bool.false_ne_true, if_neg Bool.false_ne_true]; grind
  · rw [if_pos rfl, if_pos rfl]; grind
end
/-- what of p's rim lies on b's -/
def rimM (b p : Bx) : Rat := (if p.l = b.l then p.h else 0) + (if p.l + p.w = b.l + b.w then p.h else 0) + (if p.t = b.t then p.w else 0) + (if p.t + p.h = b.t + b.h then p.w else 0)
theorem rim_tn (b p : Bx) : rimM (tnB b) (tnB p) = rimM b p := by
  unfold rimM tnB
  dsimp only
  grind
section
variable {b : Bx} {ws ss : List Int} {n : Nat}
/-- rows one beneath the other -/
theorem rim_down (hb : b.Ok n) (hW : WOk ws) (hS : SOk ss ws.length) {i j : Nat} (hi : i < ss.length) (hj : j < (rowAt ws ss i).length) {p : Bx} (hp : p = cutAt (cutAt b (sumsM ws ss) true i) (rowAt ws ss i) false j) :
    rimM b p + rsum ((laidM b ws ss true).map (touchM p)) = 2 * (p.w + p.h) := by
  have hG := sums_ok hW hS
  have hil : i < (sumsM ws ss).length := by rw [sums_len]; exact hi
  have row : ∀ k, k < ss.length → (cutAt b (sumsM ws ss) true k).Ok (n + n + 24) := fun k hk => slab_okG hb hG (by rw [sums_len]; exact hk)
  have rk : ∀ k, k < ss.length → RowS (cutAt (cutAt b (sumsM ws ss) true k) (rowAt ws ss k) false) (rowAt ws ss k).length (edgeG (cutAt b (sumsM ws ss) true k) (rowAt ws ss k) false) (cutAt b (sumsM ws ss) true k).t (cutAt b (sumsM ws ss) true k).h := fun k hk => across_row (row k hk) (row_ok hW hS hk).g
  have yy := down_ends hb hG
  rw [sums_len] at yy
  obtain ⟨e1, e2, e3, e4⟩ := (rk i hi).2 j hj
  rw [← hp] at e1 e2 e3 e4
  obtain ⟨t1, t2, t3, t4⟩ := down_at (b := b) hil
  have rm := (rk i hi).1
  have x0 : edgeG (cutAt b (sumsM ws ss) true i) (rowAt ws ss i) false 0 = b.l := by rw [edge_first, if_neg Bool.false_ne_true, t3]
  have xm : edgeG (cutAt b (sumsM ws ss) true i) (rowAt ws ss i) false (rowAt ws ss i).length = b.l + b.w := by rw [edge_last (row_ok hW hS hi).g, if_neg Bool.false_ne_true, t3, t4]
  have y0 : edgeG b (sumsM ws ss) true 0 = b.t := by rw [edge_first, if_pos rfl]
  have ym : edgeG b (sumsM ws ss) true ss.length = b.t + b.h := by
    have := edge_last (b := b) hG true
    rw [sums_len, if_pos rfl] at this
    exact this
  have hh : 0 < p.h := by rw [e4]; exact (row i hi).h0
  have hw : 0 < p.w := by have := rm j hj; grind
  -- all rows
  unfold laidM
  rw [rsum_laid, sumN_congr (g := fun k => ((if k + 1 = i then p.w else 0) + (if k = i + 1 then p.w else 0)) + (if k = i then (if 0 < j then p.h else 0) + (if j + 1 < (rowAt ws ss i).length then p.h else 0) else 0)) fun k hk => ?_]
  · rw [sumN_add, sumN_add, sumN_pre, sumN_one, sumN_one, if_pos hi]
    -- the rim
    have r1 : p.l = b.l ↔ ¬ 0 < j := by
      rw [e1, ← x0]
      constructor
      · intro z hz
        have := seq_lt rm hz (by omega)
        grind
      · intro z
        rw [show j = 0 by omega]
    have r2 : p.l + p.w = b.l + b.w ↔ ¬ j + 1 < (rowAt ws ss i).length := by
      rw [e2, ← xm]
      constructor
      · intro z hz
        have := seq_lt rm hz (Nat.le_refl _)
        grind
      · intro z
        rw [show j + 1 = (rowAt ws ss i).length by omega]
    have r3 : p.t = b.t ↔ ¬ 0 < i := by
      rw [e3, t1, ← y0]
      constructor
      · intro z hz
        have := seq_lt yy hz (by omega)
        grind
      · intro z
        rw [show i = 0 by omega]
    have r4 : p.t + p.h = b.t + b.h ↔ ¬ i + 1 < ss.length := by
      rw [e3, e4, t2, ← ym]
      constructor
      · intro z hz
        have := seq_lt yy hz (Nat.le_refl _)
        grind
      · intro z
        rw [show i + 1 = ss.length by omega]
    unfold rimM
    have f : ∀ {A B : Prop} [Decidable A] [Decidable B] (x : Rat), (A ↔ ¬ B) → (if A then x else 0) = x - (if B then x else 0) := fun {A B} _ _ x h => by
      by_cases hB : B
      · rw [if_pos hB, if_neg (fun a => h.mp a hB)]; grind
      · rw [if_neg hB, if_pos (h.mpr hB)]; grind
    rw [f p.h r1, f p.h r2, f p.w r3, f p.w r4]
    have q1 : (if 0 < i ∧ i ≤ ss.length then p.w else (0 : Rat)) = if 0 < i then p.w else 0 := by
      by_cases z : 0 < i
      · rw [if_pos ⟨z, by omega⟩, if_pos z]
      · rw [if_neg (fun a => z a.1), if_neg z]
    rw [q1]
    grind
  · obtain ⟨s1, s2, s3, s4⟩ := down_at (b := b) (us := sumsM ws ss) (i := k) (by rw [sums_len]; exact hk)
    have ov : ovl p.t p.h (cutAt b (sumsM ws ss) true k).t (cutAt b (sumsM ws ss) true k).h = ovl (edgeG b (sumsM ws ss) true i) p.h (edgeG b (sumsM ws ss) true k) (cutAt b (sumsM ws ss) true k).h := by rw [e3, t1, s1]
    have hz := ovl_seq_zero yy hi hk (l := p.h) (m := (cutAt b (sumsM ws ss) true k).h) (by rw [e4, ← t1]; exact t2) (by rw [← s1]; exact s2)
    rw [← ov] at hz
    show sumN (fun l => touchM p (cutAt (cutAt b (sumsM ws ss) true k) (rowAt ws ss k) false l)) (rowAt ws ss k).length = _
    by_cases c : i = k
    · subst c
      rw [if_neg (by omega), if_neg (by omega), if_pos rfl, hp, row_along (rk i hi) (row i hi).h0 hj, ← hp, e4]
      grind
    · by_cases c2 : i + 1 = k ∨ k + 1 = i
      · have zz := hz.1.mpr c2
        have x0 : edgeG (cutAt b (sumsM ws ss) true k) (rowAt ws ss k) false 0 = b.l := by rw [edge_first, if_neg Bool.false_ne_true, s3]
        have xm : edgeG (cutAt b (sumsM ws ss) true k) (rowAt ws ss k) false (rowAt ws ss k).length = b.l + b.w := by rw [edge_last (row_ok hW hS hk).g, if_neg Bool.false_ne_true, s3, s4]
        have l0 : b.l ≤ p.l := by
          rw [e1]
          by_cases z : 0 < j
          · have := seq_lt rm z (by omega)
            grind
          · rw [show j = 0 by omega]
            grind
        have l1 : p.l + p.w ≤ b.l + b.w := by
          rw [e2]
          by_cases z : j + 1 < (rowAt ws ss i).length
          · have := seq_lt rm z (Nat.le_refl _)
            grind
          · rw [show j + 1 = (rowAt ws ss i).length by omega]
            grind
        rw [row_across (rk k hk) hw zz (by rw [x0]; exact l0) (by rw [xm]; exact l1)]
        rcases c2 with c2 | c2
        · rw [if_neg (by omega), if_pos c2.symm, if_neg (by omega)]
          grind
        · rw [if_pos c2, if_neg (by omega), if_neg (by omega)]
          grind
      · have neg : ovl p.t p.h (cutAt b (sumsM ws ss) true k).t (cutAt b (sumsM ws ss) true k).h < 0 := by
          rcases hz.2 with z | z
          · omega
          · exact z
        rw [if_neg (by omega), if_neg (by omega), if_neg (fun z => c z.symm), sumN_congr (g := fun _ => 0) fun l hl => ?_]
        · have : ∀ m, sumN (fun _ => (0 : Rat)) m = 0 := fun m => by
            induction m with
            | zero => rfl
            | succ m ih => show sumN _ m + 0 = 0; rw [ih]; grind
          rw [this]
          grind
        · obtain ⟨_, _, g3, g4⟩ := (rk k hk).2 l hl
          exact touch_apart (by rw [g3, g4]; exact neg)
/-- each laid box: what it has in common with the others, and with the rim, is its own rim -/
theorem rim_all (hb : b.Ok n) (hW : WOk ws) (hS : SOk ss ws.length) {d : Bool} {p : Bx} (hp : p ∈ laidM b ws ss d) : rimM b p + rsum ((laidM b ws ss d).map (touchM p)) = 2 * (p.w + p.h) := by
  cases d with
  | true =>
    obtain ⟨i, j, hi, hj, e⟩ := laid_mem hS hp
    exact rim_down hb hW hS hi hj e
  | false =>
    have e : laidM b ws ss false = (laidM (tnB b) ws ss true).map tnB := laidM_tn (tnB b) ws ss true
    rw [e] at hp ⊢
    obtain ⟨q, hq, rfl⟩ := List.mem_map.mp hp
    obtain ⟨i, j, hi, hj, e⟩ := laid_mem hS hq
    have h := rim_down hb.tn hW hS hi hj e
    rw [List.map_map, show (touchM (tnB q) ∘ tnB) = touchM q from funext fun c => touch_tn q c, show rimM b (tnB q) = rimM (tnB b) q from rim_tn (tnB b) q, h]
    show 2 * (q.w + q.h) = 2 * (q.h + q.w)
    grind
end
/-! ### how great the sums get -/
/-- q is so many D-ths -/
def Dv (D : Nat) (q : Rat) : Prop := ∃ k : Int, q * (D : Rat) = (k : Rat)
section
variable {D : Nat} {x y : Rat}
theorem Dv.add (h1 : Dv D x) (h2 : Dv D y) : Dv D (x + y) := by
  obtain ⟨a, ha⟩ := h1
  obtain ⟨c, hc⟩ := h2
  exact ⟨a + c, by rw [Rat.add_mul, ha, hc, Rat.intCast_add]⟩
theorem Dv.sub (h1 : Dv D x) (h2 : Dv D y) : Dv D (x - y) := by
  obtain ⟨a, ha⟩ := h1
  obtain ⟨c, hc⟩ := h2
  exact ⟨a - c, by rw [Rat.sub_eq_add_neg, Rat.add_mul, ha, Rat.neg_mul, hc, Rat.intCast_sub, Rat.sub_eq_add_neg]⟩
theorem Dv.zero : Dv D 0 := ⟨0, by rw [Rat.zero_mul]; rfl⟩
theorem Dv.gr (h1 : Dv D x) (h2 : Dv D y) : Dv D (gr x y) := by
  unfold Cc.gr
  split
  · exact h2
  · exact h1
theorem Dv.ls (h1 : Dv D x) (h2 : Dv D y) : Dv D (ls x y) := by
  unfold Cc.ls
  split
  · exact h1
  · exact h2
theorem Dv.mul {E : Nat} (h1 : Dv D x) (h2 : Dv E y) : Dv (D * E) (x * y) := by
  obtain ⟨a, ha⟩ := h1
  obtain ⟨c, hc⟩ := h2
  refine ⟨a * c, ?_⟩
  rw [Rat.intCast_mul, ← ha, ← hc, Rat.natCast_mul]
  grind
theorem Dv.more {E : Nat} (h : Dv D x) : Dv (D * E) x := by
  obtain ⟨a, ha⟩ := h
  refine ⟨a * (E : Int), ?_⟩
  rw [Rat.intCast_mul, ← ha, Rat.natCast_mul]
  have : (((E : Int) : Rat)) = (E : Rat) := rfl
  rw [this]
  grind
theorem Dv.dvd {E : Nat} (h : Dv D x) (hd : D ∣ E) : Dv E x := by
  obtain ⟨k, rfl⟩ := hd
  exact h.more
theorem mul_den (q : Rat) : q * (q.den : Rat) = (q.num : Rat) := by
  have e := Rat.num_divInt_den q
  have d0 : ((q.den : Int) : Rat) ≠ 0 := by
    have : (0:Rat) < ((q.den : Int) : Rat) := Rat.intCast_pos.mpr (by have := q.den_pos; omega)
    grind
  rw [Rat.divInt_eq_div] at e
  calc q * (q.den : Rat) = (q.num : Rat) / ((q.den : Int) : Rat) * ((q.den : Int) : Rat) := by rw [e]; rfl
    _ = q.num := by rw [Rat.div_def, Rat.mul_assoc, Rat.inv_mul_cancel _ d0, Rat.mul_one]
theorem dv_den (q : Rat) : Dv q.den q := ⟨q.num, mul_den q⟩
theorem dv_int {a : Int} {S : Nat} (hS : 0 < S) : Dv S (Rat.divInt a (S : Int)) := by
  refine ⟨a, ?_⟩
  have s0 : ((S : Int) : Rat) ≠ 0 := by have := int_pos (i := (S : Int)) (by omega); grind
  rw [Rat.divInt_eq_div]
  show (a : Rat) / ((S : Int) : Rat) * ((S : Int) : Rat) = a
  rw [Rat.div_def, Rat.mul_assoc, Rat.inv_mul_cancel _ s0, Rat.mul_one]
end
theorem dv_ovl {D : Nat} {x l y m : Rat} (h1 : Dv D x) (h2 : Dv D l) (h3 : Dv D y) (h4 : Dv D m) : Dv D (ovl x l y m) := ((h1.add h2).ls (h3.add h4)).sub (h1.gr h3)
/-- a box all of whose numbers are so many D-ths -/
structure DvB (D : Nat) (b : Bx) : Prop where
  l : Dv D b.l
  t : Dv D b.t
  w : Dv D b.w
  h : Dv D b.h
theorem dv_touch {D : Nat} {p q : Bx} (hp : DvB D p) (hq : DvB D q) : Dv D (touchM p q) := by
  unfold touchM
  split
  · exact dv_ovl hp.t hp.h hq.t hq.h
  · split
    · exact dv_ovl hp.l hp.w hq.l hq.w
    · exact Dv.zero
theorem touch_nn (p q : Bx) : 0 ≤ touchM p q := by
  unfold touchM
  split
  · grind
  · split <;> grind
theorem cut_dv {D : Nat} {b : Bx} {us : List Int} {d : Bool} {i : Nat} (h : DvB D b) (hG : WGk us) : DvB (D * us.sum.toNat) (cutAt b us d i) := by
  have s0 := hG.sum.1
  have e : us.sum = (us.sum.toNat : Int) := by omega
  have p1 : Dv us.sum.toNat (pre us i) := by unfold pre; rw [e]; exact dv_int (by omega)
  have p2 : Dv us.sum.toNat (shr us i) := by unfold shr; rw [e]; exact dv_int (by omega)
  rw [cutAt_eq]
  unfold slab
  cases d with
  | true =>
    rw [if_pos rfl]
    exact ⟨h.l.more, h.t.more.add (h.h.mul p1), h.w.more, h.h.mul p2⟩
  | false =>
    rw [if_neg Bool.false_ne_true]
    exact ⟨h.l.more.add (h.w.mul p1), h.t.more, h.w.mul p2, h.h.more⟩
/-- the product of all rows' sums -/
def rowsP (ws ss : List Int) : Nat → Nat
  | 0 => 1
  | n + 1 => rowsP ws ss n * (rowAt ws ss n).sum.toNat
theorem rowsP_dvd {ws ss : List Int} {i : Nat} : ∀ {n : Nat}, i < n → (rowAt ws ss i).sum.toNat ∣ rowsP ws ss n
  | 0, h => by omega
  | n + 1, h => by
    show _ ∣ rowsP ws ss n * _
    by_cases e : i = n
    · subst e
      exact Nat.dvd_mul_left _ _
    · exact Nat.dvd_trans (rowsP_dvd (n := n) (by omega)) (Nat.dvd_mul_right _ _)
theorem rowsP_lt {ws ss : List Int} (hW : WOk ws) (hS : SOk ss ws.length) : ∀ n, n ≤ ss.length → rowsP ws ss n ≤ 2 ^ (23 * n)
  | 0, _ => Nat.le_refl _
  | n + 1, h => by
    have ih := rowsP_lt hW hS n (by omega)
    have r := (row_ok hW hS (i := n) (by omega)).sum
    have r2 : (rowAt ws ss n).sum.toNat ≤ 2 ^ 23 := by omega
    show rowsP ws ss n * _ ≤ _
    rw [show 23 * (n + 1) = 23 * n + 23 by omega, Nat.pow_add]
    exact Nat.mul_le_mul ih r2
/-- a plain box's laid boxes: all their numbers over one number -/
theorem laid_dv {b : Bx} {ws ss : List Int} {d : Bool} (hb : b.Ok 202) (l0 : b.l = 0) (t0 : b.t = 0) (hW : WOk ws) (hS : SOk ss ws.length) : ∃ D : Nat, 0 < D ∧ D < 2 ^ 710 ∧ ∀ c ∈ laidM b ws ss d, DvB D c := by
  have hl : ss.length ≤ 12 := Nat.le_trans hS.len hW.l1
  have hG := sums_ok hW hS
  have base : DvB (b.w.den * b.h.den) b := ⟨by rw [l0]; exact Dv.zero, by rw [t0]; exact Dv.zero, (dv_den _).more, by rw [Nat.mul_comm]; exact (dv_den _).more⟩
  have dw := hb.sw.2
  have dh := hb.sh.2
  have s2 : (sumsM ws ss).sum.toNat ≤ 2 ^ 23 := by have := hG.sum; omega
  have pl := rowsP_lt hW hS ss.length (Nat.le_refl _)
  have all : ∀ c ∈ laidM b ws ss d, DvB (b.w.den * b.h.den * (sumsM ws ss).sum.toNat * rowsP ws ss ss.length) c := fun c hc => by
    obtain ⟨j, k, hj, hk, rfl⟩ := laid_mem hS hc
    have h1 := cut_dv (d := d) (i := j) base hG
    have h2 := cut_dv (d := !d) (i := k) h1 (row_ok hW hS hj).g
    have hd : b.w.den * b.h.den * (sumsM ws ss).sum.toNat * (rowAt ws ss j).sum.toNat ∣ b.w.den * b.h.den * (sumsM ws ss).sum.toNat * rowsP ws ss ss.length := Nat.mul_dvd_mul_left _ (rowsP_dvd hj)
    exact ⟨h2.l.dvd hd, h2.t.dvd hd, h2.w.dvd hd, h2.h.dvd hd⟩
  refine ⟨_, ?_, ?_, all⟩
  · have a1 := b.w.den_pos
    have a2 := b.h.den_pos
    have a3 := hG.sum.1
    refine Nat.mul_pos (Nat.mul_pos (Nat.mul_pos a1 a2) (by omega)) ?_
    have : ∀ n, n ≤ ss.length → 0 < rowsP ws ss n := fun n => by
      induction n with
      | zero => intro _; exact Nat.one_pos
      | succ n ih =>
        intro hn
        have r := (row_ok hW hS (i := n) (by omega)).sum
        exact Nat.mul_pos (ih (by omega)) (by omega)
    exact this _ (Nat.le_refl _)
  · have e1 : b.w.den * b.h.den < 2 ^ 404 := Nat.lt_of_le_of_lt (Nat.mul_le_mul_right _ (Nat.le_of_lt dw)) (by rw [show (2 : Nat) ^ 404 = 2 ^ 202 * 2 ^ 202 by rw [← Nat.pow_add]]; exact Nat.mul_lt_mul_of_pos_left dh (Nat.two_pow_pos _))
    have e2 : rowsP ws ss ss.length ≤ 2 ^ 276 := Nat.le_trans pl (Nat.pow_le_pow_right (by decide) (by omega))
    have e3 : b.w.den * b.h.den * (sumsM ws ss).sum.toNat ≤ 2 ^ 404 * 2 ^ 23 := Nat.mul_le_mul (Nat.le_of_lt e1) s2
    have e4 := Nat.mul_le_mul e3 e2
    refine Nat.lt_of_le_of_lt e4 ?_
    rw [← Nat.pow_add, ← Nat.pow_add]
    exact Nat.pow_lt_pow_right (by decide) (by decide)
theorem sz_dv {D m n : Nat} {q T : Rat} (hD : 0 < D) (hd : D < 2 ^ m) (h : Dv D q) (h0 : 0 ≤ q) (h1 : q ≤ T) (hT : Sz n T) : Sz (n + m) q := by
  obtain ⟨k, hk⟩ := h
  have d0 : (0 : Rat) < ((D : Int) : Rat) := int_pos (by omega)
  have e : q = Rat.divInt k (D : Int) := by
    rw [Rat.divInt_eq_div, Rat.div_def, ← hk]
    show q = q * ((D : Int) : Rat) * ((D : Int) : Rat)⁻¹
    rw [Rat.mul_assoc, Rat.mul_inv_cancel _ (by grind), Rat.mul_one]
  have k0 : 0 ≤ k := by
    have : (0 : Rat) ≤ (k : Rat) := by rw [← hk]; exact Rat.mul_nonneg h0 (Rat.le_of_lt d0)
    exact Rat.intCast_nonneg.mp this
  have t1 : T ≤ (T.num.natAbs : Int) := by
    have a := mul_den T
    have t0 : 0 ≤ T := by grind
    have dp : (1 : Rat) ≤ (T.den : Rat) := by
      have : ((1 : Int) : Rat) ≤ ((T.den : Int) : Rat) := Rat.intCast_le_intCast.mpr (by have := T.den_pos; omega)
      exact this
    have b := Rat.mul_le_mul_of_nonneg_left dp t0
    rw [Rat.mul_one, a] at b
    have c : (T.num : Rat) ≤ (((T.num.natAbs : Nat) : Int) : Rat) := Rat.intCast_le_intCast.mpr (by omega)
    grind
  have kb : k ≤ (T.num.natAbs : Int) * (D : Int) := by
    have : (k : Rat) ≤ (((T.num.natAbs : Int) * (D : Int) : Int) : Rat) := by
      rw [← hk, Rat.intCast_mul]
      exact Rat.mul_le_mul_of_nonneg_right (show q ≤ ((T.num.natAbs : Int) : Rat) by grind) (Rat.le_of_lt d0)
    exact Rat.intCast_le_intCast.mp this
  rw [e]
  have hT1 := hT.1
  refine size_divInt (by omega) ?_ ?_
  · have : k.natAbs ≤ T.num.natAbs * D := by
      have e2 : ((k.natAbs : Nat) : Int) = k := by omega
      have : ((k.natAbs : Nat) : Int) ≤ ((T.num.natAbs * D : Nat) : Int) := by rw [e2, Int.natCast_mul]; exact kb
      omega
    rw [Nat.pow_add]
    exact Nat.lt_of_le_of_lt this (Nat.lt_of_le_of_lt (Nat.mul_le_mul_right _ (Nat.le_of_lt hT1)) (Nat.mul_lt_mul_of_pos_left hd (Nat.two_pow_pos _)))
  · have : D < 2 ^ (n + m) := Nat.lt_of_lt_of_le hd (Nat.pow_le_pow_right (by decide) (by omega))
    omega
theorem rsum_take_snoc {qs : List Rat} {i : Nat} {q : Rat} (h : qs[i]? = some q) : rsum (qs.take (i + 1)) = rsum (qs.take i) + q := by
  rw [List.take_add_one, h, rsum_append]
  show _ + (q + 0) = _
  grind
theorem rsum_nn {qs : List Rat} : (∀ q ∈ qs, 0 ≤ q) → 0 ≤ rsum qs := by
  induction qs with
  | nil => intro _; show (0 : Rat) ≤ 0; grind
  | cons x r ih =>
    intro h
    have h1 := h x List.mem_cons_self
    have h2 := ih fun q hq => h q (List.mem_cons_of_mem _ hq)
    show 0 ≤ x + rsum r
    grind
/-- all that a total asks -/
theorem total_sz {D m n : Nat} {qs : List Rat} {T : Rat} (hD : 0 < D) (hd : D < 2 ^ m) (h : ∀ q ∈ qs, 0 ≤ q ∧ Dv D q) (hs : rsum qs = T) (hT : Sz n T) :
    (∀ i q, qs[i]? = some q → rsum (qs.take (i + 1)) = rsum (qs.take i) + q ∧ Sz (n + m) q) ∧ ∀ i, Sz (n + m) (rsum (qs.take i)) := by
  have dv : ∀ xs : List Rat, (∀ q ∈ xs, Dv D q) → Dv D (rsum xs) := fun xs => by
    induction xs with
    | nil => intro _; exact Dv.zero
    | cons x r ih => intro k; exact (k x List.mem_cons_self).add (ih fun q hq => k q (List.mem_cons_of_mem _ hq))
  have part : ∀ i, 0 ≤ rsum (qs.take i) ∧ rsum (qs.take i) ≤ T := fun i => by
    have h1 := rsum_nn (qs := qs.take i) fun q hq => (h q (List.mem_of_mem_take hq)).1
    have h2 := rsum_nn (qs := qs.drop i) fun q hq => (h q (List.mem_of_mem_drop hq)).1
    have h3 : rsum qs = rsum (qs.take i) + rsum (qs.drop i) := by rw [← rsum_append, List.take_append_drop]
    grind
  refine ⟨fun i q hq => ⟨rsum_take_snoc hq, ?_⟩, fun i => sz_dv hD hd (dv _ fun q hq => (h q (List.mem_of_mem_take hq)).2) (part i).1 (part i).2 hT⟩
  have hm := h q (List.mem_of_getElem? hq)
  refine sz_dv hD hd hm.2 hm.1 ?_ hT
  have e := rsum_take_snoc hq
  have p1 := part i
  have p2 := part (i + 1)
  grind
/-! ### the sum over the neighbours -/
theorem near_sum {ns : List (Str × Bx)} (nd : (ns.map (·.1)).Nodup) (p : Bx) : rsum ((nearM ns p).map (·.2)) = rsum (ns.map fun x => touchM p x.2) := by
  have g : ∀ ys : List Str, rsum ((ys.filterMap (nearAt ns p)).map (·.2)) = rsum (ys.map fun y => match bxOf ns y with | some c => touchM p c | none => 0) := fun ys => by
    induction ys with
    | nil => rfl
    | cons y r ih =>
      rw [List.filterMap_cons, List.map_cons]
      show _ = (match bxOf ns y with | some c => touchM p c | none => 0) + _
      rw [← ih]
      unfold nearAt
      cases bxOf ns y with
      | none => show _ = 0 + _; dsimp only; grind
      | some c =>
        dsimp only
        by_cases t : touchM p c = 0
        · rw [if_pos t, t]
          dsimp only
          grind
        · rw [if_neg t]
          rfl
  unfold nearM
  rw [g, rsum_perm ((srt_perm _).map _), List.map_map]
  congr 1
  refine List.map_congr_left fun x hx => ?_
  show (match bxOf ns x.1 with | some c => touchM p c | none => 0) = _
  rw [bxOf_mem nd (show (x.1, x.2) ∈ ns from hx)]
end Cc
set_option maxHeartbeats 4000000
/-! XMixV: a list of whatever things, mixed. -/
namespace Cc
open PySem PySem.Spec PyProof.Rows L2
theorem pop_perm {α : Type} {l : List α} {i : Nat} (h : i < l.length) : (l[i] :: l.eraseIdx i).Perm l := by
  have m := List.perm_middle (a := l[i]) (l₁ := l.take i) (l₂ := l.drop (i + 1))
  rw [← List.drop_eq_getElem_cons h, List.take_append_drop] at m
  rw [List.eraseIdx_eq_take_drop_succ]
  exact m.symm
@[irreducible] def spMixedV (K : PySem.W.Frag) : Sp := fun vs H Q _ => ∃ (c a : Addr) (xs : List V), vs = [.ref c, .ref a] ∧ Bag H c ∧ H a = some (.lst xs) ∧ a ≠ c ∧ xs.length ≤ 60 ∧ ∀ L (ys : List V) H', H L = none → H' L = some (.lst ys) → ys.Perm xs → Bag H' c → KpG c H H' → Q (.ref L) H'
theorem mixedv_step {K : PySem.W.Frag} {H : Hp} {a : Addr} {Q : VK} {E : XK} {vs : List V} {c : Addr} {xs : List V} (hb : Bag H c) (h : H a = some (.lst xs)) (hne : a ≠ c) (hl : xs.length ≤ 60) (q : ∀ L (ys : List V) H', H L = none → H' L = some (.lst ys) → ys.Perm xs → Bag H' c → KpG c H H' → Q (.ref L) H') (hvs : vs = [.ref c, .ref a] := by rfl) : spMixedV K vs H Q E := by
  unfold spMixedV
  exact ⟨c, a, xs, hvs, hb, h, hne, hl, q⟩
end Cc
/-! XDeq: two dicts that hold the same objects by the same keys are not unlike. -/
namespace L2
open PySem PySem.Spec PyProof.Rows
/-- the same keys, the same objects behind them -/
def Alike (ks ls : List (Key × V)) : Prop := ks.length = ls.length ∧ ∀ p ∈ ks, valV ls p.1 = some p.2 ∧ ∃ c, p.2 = .ref c
theorem alike_hits {A : Around} {s : Shared} {ls : List (Key × V)} {there : List (Key × Value)} (rb : KV ls there) : ∀ {ks : List (Key × V)} {here : List (Key × Value)}, KV ks here → (∀ p ∈ ks, valV ls p.1 = some p.2 ∧ ∃ c, p.2 = .ref c) → PySem.W.KeqHits A s there here true
  | _, _, .nil, _ => .nil
  | p :: _, (key, v) :: _, .cons h r, f => by
    obtain ⟨e, c, hc⟩ := f p List.mem_cons_self
    have hv : v = .ref c := by
      have := h.2
      rw [hc] at this
      exact this
    have rr : RelO (some p.2) (valueAt there p.1) := by
      rw [← e]
      exact rb.val p.1
    obtain ⟨y, hy, ry⟩ := rr.some_of
    have hy2 : y = .ref c := by
      rw [hc] at ry
      exact ry
    have ek : p.1 = key := h.1
    rw [ek, hy2] at hy
    rw [hv]
    exact .hit (e := true) (b := true) hy (SeqAt.EqAt.same _) (alike_hits rb r fun q hq => f q (List.mem_cons_of_mem _ hq))
def rNeC : R2 := fun x y H Q => ∃ a b ks ls, x = .ref a ∧ y = .ref b ∧ H a = some (.dK ks) ∧ H b = some (.dK ls) ∧ Alike ks ls ∧ Q (.bl false) H
theorem op_neC {X : Cx} (hu : X.A.units < cLine) : OpR X (compareOp .NotEq) rNeC := fun pins s σ H x y v u Q I rx ry h => by
  obtain ⟨a, b, ks, ls, rfl, rfl, ha, hb, al, q⟩ := h
  cases rx
  cases ry
  have ⟨_, na, here, ra, da⟩ := I.hok a _ ha
  have ⟨_, nb, there, rb, db⟩ := I.hok b _ hb
  have len : here.length = there.length := by rw [← ra.length, ← rb.length]; exact al.1
  refine PySem.W.keq_ne (knd := mixKind X.prog X.w) (r := true) na nb da db hu (fun _ => alike_hits rb ra al.2) ?_
  rw [show (here.length == there.length && true) = true by rw [len]; simp]
  exact ⟨.bl false, H, I, rfl, q⟩
/-- the same, locked or not -/
def rNeR : R2 := fun x y H Q => ∃ a b ks ls, x = .ref a ∧ y = .ref b ∧ Rd H a (.dK ks) ∧ Rd H b (.dK ls) ∧ Alike ks ls ∧ Q (.bl false) H
theorem op_neR {X : Cx} (hu : X.A.units < cLine) : OpR X (compareOp .NotEq) rNeR := fun pins s σ H x y v u Q I rx ry ⟨a, b, ks, ls, ex, ey, ha, hb, al, q⟩ => by
  subst ex
  subst ey
  cases rx
  cases ry
  obtain ⟨_, na, here, ra, da⟩ := dk_rd I.hok ha
  obtain ⟨_, nb, there, rb, db⟩ := dk_rd I.hok hb
  refine PySem.W.keq_ne (knd := mixKind X.prog X.w) (r := true) na nb da db hu (fun _ => alike_hits rb ra al.2) ?_
  have len : here.length = there.length := by rw [← ra.length, ← rb.length]; exact al.1
  rw [len, beq_self_eq_true, Bool.true_and]
  exact ⟨.bl false, H, I, rfl, q⟩
theorem alike_self {kvs : List (Key × V)} (nd : (kvs.map (·.1)).Nodup) (h : ∀ p ∈ kvs, ∃ c, p.2 = .ref c) : Alike kvs kvs := by
  refine ⟨rfl, fun p hp => ⟨?_, h p hp⟩⟩
  clear h
  induction kvs with
  | nil => cases hp
  | cons x r ih =>
    rw [List.map_cons, List.nodup_cons] at nd
    rcases List.mem_cons.mp hp with e | hp
    · subst e
      simp [valV]
    · have n : x.1 ≠ p.1 := fun e => nd.1 (by rw [e]; exact List.mem_map.mpr ⟨p, hp, rfl⟩)
      have := ih nd.2 hp
      simp [valV, n] at this ⊢
      exact this
end L2
set_option maxHeartbeats 4000000
/-! XNmP: a dict of boxes by names, written anew in another order. -/
namespace Cc
open PySem PySem.Spec PyProof.Rows L2
theorem texts_of {ys : List V} {zs : List Str} (h : ys.Perm (zs.map V.str)) : ∃ ws : List Str, ys = ws.map V.str ∧ ws.Perm zs := by
  have e : ∀ l : List V, (∀ v ∈ l, ∃ z, v = V.str z) → l = (l.map fun v => match v with | .str z => z | _ => Str.ofString "").map V.str := fun l => by
    induction l with
    | nil => intro _; rfl
    | cons v r ih =>
      intro hl
      obtain ⟨z, rfl⟩ := hl v List.mem_cons_self
      rw [List.map_cons, List.map_cons, ← ih fun x hx => hl x (List.mem_cons_of_mem _ hx)]
  refine ⟨_, e ys fun v hv => ?_, ?_⟩
  · obtain ⟨z, _, rfl⟩ := List.mem_map.mp (h.mem_iff.mp hv)
    exact ⟨z, rfl⟩
  · have m := h.map fun v => match v with | .str z => z | _ => Str.ofString ""
    rw [List.map_map] at m
    have i : ((fun v : V => match v with | .str z => z | _ => Str.ofString "") ∘ V.str) = id := rfl
    rw [i, List.map_id] at m
    exact m
def vOf (kvs : List (Key × V)) (z : Str) : V := (valV kvs (Sum.inr z)).getD .non
def bOf (ns : List (Str × Bx)) (z : Str) : Bx := (bxOf ns z).getD ⟨0, 0, 0, 0⟩
def pKvs (kvs : List (Key × V)) (ys : List Str) : List (Key × V) := ys.map fun z => (Sum.inr z, vOf kvs z)
def pNs (ns : List (Str × Bx)) (ys : List Str) : List (Str × Bx) := ys.map fun z => (z, bOf ns z)
section
variable {K : PySem.W.Frag} {H : Hp} {kvs : List (Key × V)} {ns : List (Str × Bx)} {ys : List Str}
theorem pNs_keys : (pNs ns ys).map (·.1) = ys := by
  unfold pNs
  rw [List.map_map]
  exact List.map_id _
theorem bOf_mem (h : ys.Perm (ns.map (·.1))) {z : Str} (hz : z ∈ ys) : bxOf ns z = some (bOf ns z) := by
  obtain ⟨b, e⟩ := bxOf_key (h.mem_iff.mp hz)
  unfold bOf
  rw [e]
  rfl
theorem pNs_bx (hN : NOk ns) (h : ys.Perm (ns.map (·.1))) (z : Str) : bxOf (pNs ns ys) z = bxOf ns z := by
  by_cases hz : z ∈ ys
  · rw [bOf_mem h hz]
    refine bxOf_mem ?_ (List.mem_map.mpr ⟨z, hz, rfl⟩)
    rw [pNs_keys]
    exact h.nodup_iff.mpr hN.nd
  · rw [bxOf_none (by rw [pNs_keys]; exact hz), bxOf_none fun q => hz (h.mem_iff.mpr q)]
theorem pNs_ok (hN : NOk ns) (h : ys.Perm (ns.map (·.1))) : NOk (pNs ns ys) := by
  refine ⟨by rw [pNs_keys]; exact h.nodup_iff.mpr hN.nd, ?_, fun x hx => ?_⟩
  · have := h.length_eq
    rw [List.length_map] at this
    unfold pNs
    rw [List.length_map, this]
    exact hN.len
  · obtain ⟨z, hz, rfl⟩ := List.mem_map.mp hx
    exact hN.ok (z, bOf ns z) (bxOf_some (bOf_mem h hz))
theorem pNs_near (hN : NOk ns) (h : ys.Perm (ns.map (·.1))) (b : Bx) : nearM (pNs ns ys) b = nearM ns b := by
  unfold nearM
  rw [pNs_keys, srt_congr h]
  congr 1
  funext y
  unfold nearAt
  rw [pNs_bx hN h]
theorem vOf_mem (hp : Paired (NmR K H) kvs ns) (h : ys.Perm (ns.map (·.1))) {z : Str} (hz : z ∈ ys) : valV kvs (Sum.inr z) = some (vOf kvs z) ∧ BxV K H (vOf kvs z) (bOf ns z) := by
  obtain ⟨v, e, hv⟩ := nm_val hp (bOf_mem h hz)
  unfold vOf
  rw [e]
  exact ⟨rfl, hv⟩
theorem pKvs_pr (hp : Paired (NmR K H) kvs ns) (h : ys.Perm (ns.map (·.1))) : Paired (NmR K H) (pKvs kvs ys) (pNs ns ys) := by
  have g : ∀ l : List Str, (∀ z ∈ l, z ∈ ys) → Paired (NmR K H) (pKvs kvs l) (pNs ns l) := fun l => by
    induction l with
    | nil => intro _; exact .nil
    | cons z r ih =>
      intro hl
      exact .cons ⟨rfl, (vOf_mem hp h (hl z List.mem_cons_self)).2⟩ (ih fun x hx => hl x (List.mem_cons_of_mem _ hx))
  exact g ys fun _ z => z
theorem pKvs_alike (hp : Paired (NmR K H) kvs ns) (h : ys.Perm (ns.map (·.1))) : Alike (pKvs kvs ys) kvs := by
  refine ⟨?_, fun p hq => ?_⟩
  · have := h.length_eq
    rw [List.length_map] at this
    unfold pKvs
    rw [List.length_map, this, paired_len hp]
  · obtain ⟨z, hz, rfl⟩ := List.mem_map.mp hq
    obtain ⟨e, a, _, _, _, _, ev, _⟩ := vOf_mem hp h hz
    exact ⟨e, a, ev⟩
/-- a text and a part, as data -/
def dNear (xs : List (Str × Rat)) : PyData := .list (xs.map fun x => .tuple [.str x.1, dPart x.2])
theorem near_dp : ∀ {us : List V} {xs : List (Str × Rat)}, Al (SpV K H) us xs → DpAll K H us (xs.map fun x => .tuple [.str x.1, dPart x.2])
  | _, _, .nil => .nil
  | _, _, .cons h r => by
    obtain ⟨a, u, rfl, h1, h2⟩ := h
    exact .cons (.tup h1 (.cons (.str _) (.cons h2.dp .nil))) (near_dp r)
theorem near_dle {xs : List (Str × Rat)} (hl : xs.length ≤ 1000) (h : ∀ x ∈ xs, SeqAt.shaped (.str x.1) = true) : dle 6 (dNear xs) = true := by
  unfold dNear
  show (decide (_ ≤ 1000) && List.all _ _) = true
  rw [Bool.and_eq_true, List.length_map]
  refine ⟨decide_eq_true hl, List.all_eq_true.mpr fun d hd => ?_⟩
  obtain ⟨x, hx, rfl⟩ := List.mem_map.mp hd
  show (decide (2 ≤ 1000) && (SeqAt.shaped (.str x.1) && _)) = true
  rw [h x hx]
  rfl
theorem low_shaped {z : Str} (h : ∀ c ∈ z.cps.toList, c < 256) : SeqAt.shaped (.str z) = true := by
  have e : PyData.strOk z = true := by
    unfold PyData.strOk
    rw [← Array.all_toList]
    exact List.all_eq_true.mpr fun c hc => decide_eq_true (by have := h c hc; omega)
  show (PyData.strOk z && decide (PyData.depth (.str z) ≤ 64)) = true
  rw [e]
  rfl
end
end Cc
set_option exponentiation.threshold 10000
set_option maxHeartbeats 20000000
namespace Cc
open PySem PySem.Spec PyProof.Rows L2 LamX
local macro_rules | `(tactic| walk_at "sd") => `(tactic| first
  | exact cmul_r ⟨by decide, by decide⟩
  | exact cmul_l ⟨by decide, by decide⟩
  | exact cmul_l ⟨by omega, by omega⟩
  | exact cmul_w (by assumption) (by assumption) (by decide)
  | exact (show CPow 10 18 from ⟨by decide, by decide, by decide⟩)
  | exact (show (0 : Int) < 2147483629 by decide)
  | exact (show CDiv _ _ from ⟨by decide, by decide⟩)
  | exact (show CDiv _ _ from ⟨by assumption, by assumption⟩)
  | assumption)
local macro_rules | `(tactic| walk_at "rd") => `(tactic| first
  | refine ⟨_, rfl, ?_⟩
  | refine ⟨_, _, rfl, rfl, ?_⟩
  | (refine ⟨_, ?_, _, ?_, rfl, rfl, ?_, ?_, ?_⟩; rotate_left 2; (first | exact SqL.of (by assumption) | (show SqT _ _ _ _; assumption) | (show SqL _ _ _ _; assumption)); (first | exact rfl | assumption))
  | (refine ⟨_, ?_, rfl, ?_, ?_⟩; rotate_left 1; (first | exact .inl (SqL.of (by assumption)) | exact .inl (SqL.of upd_same)))
  | (refine And.intro ?_ ?_; (focus (walk_at "sd"))))
def top (i : Nat) : Stmt := PySem.Challenge.pw_calmcuts_k41_neighbours_of_boxes.main.body.getD i (.Pass ⟨0, 0, 0, 0⟩)
abbrev s_is_number : Stmt := top 9
abbrev ps_is_number : List Str := ["thing"]
theorem sc_is_number : FnScope ["thing"] ps_is_number (defScope s_is_number) := ⟨rfl, rfl, rfl, by decide +kernel, rfl, by decide +kernel, by decide +kernel⟩
abbrev s_is_part : Stmt := top 10
abbrev ps_is_part : List Str := ["thing"]
theorem sc_is_part : FnScope ["thing", "above", "below"] ps_is_part (defScope s_is_part) := ⟨rfl, rfl, rfl, by decide +kernel, rfl, by decide +kernel, by decide +kernel⟩
abbrev s_part : Stmt := top 11
abbrev ps_part : List Str := ["above", "below"]
theorem sc_part : FnScope ["above", "below", "common"] ps_part (defScope s_part) := ⟨rfl, rfl, rfl, by decide +kernel, rfl, by decide +kernel, by decide +kernel⟩
abbrev s_plus : Stmt := top 12
abbrev ps_plus : List Str := ["one", "other"]
theorem sc_plus : FnScope ["one", "other"] ps_plus (defScope s_plus) := ⟨rfl, rfl, rfl, by decide +kernel, rfl, by decide +kernel, by decide +kernel⟩
abbrev s_minus : Stmt := top 13
abbrev ps_minus : List Str := ["one", "other"]
theorem sc_minus : FnScope ["one", "other"] ps_minus (defScope s_minus) := ⟨rfl, rfl, rfl, by decide +kernel, rfl, by decide +kernel, by decide +kernel⟩
abbrev s_less : Stmt := top 14
abbrev ps_less : List Str := ["one", "other"]
theorem sc_less : FnScope ["one", "other"] ps_less (defScope s_less) := ⟨rfl, rfl, rfl, by decide +kernel, rfl, by decide +kernel, by decide +kernel⟩
abbrev s_lesser : Stmt := top 15
abbrev ps_lesser : List Str := ["one", "other"]
theorem sc_lesser : FnScope ["one", "other"] ps_lesser (defScope s_lesser) := ⟨rfl, rfl, rfl, by decide +kernel, rfl, by decide +kernel, by decide +kernel⟩
abbrev s_greater : Stmt := top 16
abbrev ps_greater : List Str := ["one", "other"]
theorem sc_greater : FnScope ["one", "other"] ps_greater (defScope s_greater) := ⟨rfl, rfl, rfl, by decide +kernel, rfl, by decide +kernel, by decide +kernel⟩
abbrev s_is_box : Stmt := top 18
abbrev ps_is_box : List Str := ["thing"]
theorem sc_is_box : FnScope ["thing", "number"] ps_is_box (defScope s_is_box) := ⟨rfl, rfl, rfl, by decide +kernel, rfl, by decide +kernel, by decide +kernel⟩
abbrev s_touching : Stmt := top 19
abbrev ps_touching : List Str := ["one", "other"]
theorem sc_touching : FnScope ["one", "other", "beside", "beneath"] ps_touching (defScope s_touching) := ⟨rfl, rfl, rfl, by decide +kernel, rfl, by decide +kernel, by decide +kernel⟩
abbrev s_check_box : Stmt := top 20
abbrev ps_check_box : List Str := ["thing"]
theorem sc_check_box : FnScope ["thing"] ps_check_box (defScope s_check_box) := ⟨rfl, rfl, rfl, by decide +kernel, rfl, by decide +kernel, by decide +kernel⟩
abbrev s__common : Stmt := top 21
abbrev ps__common : List Str := ["begin", "length", "other_begin", "other_length"]
theorem sc__common : FnScope ["begin", "length", "other_begin", "other_length", "end"] ps__common (defScope s__common) := ⟨rfl, rfl, rfl, by decide +kernel, rfl, by decide +kernel, by decide +kernel⟩
abbrev s_neighbours : Stmt := top 23
abbrev ps_neighbours : List Str := ["boxes", "name"]
theorem sc_neighbours : FnScope ["boxes", "name", "found", "other", "length"] ps_neighbours (defScope s_neighbours) := ⟨rfl, rfl, rfl, by decide +kernel, rfl, by decide +kernel, by decide +kernel⟩
abbrev s_way : Stmt := top 24
abbrev ps_way : List Str := ["boxes", "one", "other"]
theorem sc_way : FnScope ["boxes", "one", "other", "steps", "found"] ps_way (defScope s_way) := ⟨rfl, rfl, rfl, by decide +kernel, rfl, by decide +kernel, by decide +kernel⟩
abbrev s__check_name : Stmt := top 25
abbrev ps__check_name : List Str := ["boxes", "thing"]
theorem sc__check_name : FnScope ["boxes", "thing"] ps__check_name (defScope s__check_name) := ⟨rfl, rfl, rfl, by decide +kernel, rfl, by decide +kernel, by decide +kernel⟩
abbrev s__steps_to : Stmt := top 26
abbrev ps__steps_to : List Str := ["boxes", "name"]
theorem sc__steps_to : FnScope ["boxes", "name", "found", "reached", "further", "here", "beside", "_"] ps__steps_to (defScope s__steps_to) := ⟨rfl, rfl, rfl, by decide +kernel, rfl, by decide +kernel, by decide +kernel⟩
abbrev s__next_step : Stmt := top 27
abbrev ps__next_step : List Str := ["boxes", "name", "steps"]
theorem sc__next_step : FnScope ["boxes", "name", "steps", "nearer", "pair"] ps__next_step (defScope s__next_step) := ⟨rfl, rfl, rfl, by decide +kernel, rfl, by decide +kernel, by decide +kernel⟩
abbrev s__law_bag : Stmt := top 29
abbrev ps__law_bag : List Str := ["_law_script"]
theorem sc__law_bag : FnScope ["_law_script"] ps__law_bag (defScope s__law_bag) := ⟨rfl, rfl, rfl, by decide +kernel, rfl, by decide +kernel, by decide +kernel⟩
abbrev s__law_get : Stmt := top 30
abbrev ps__law_get : List Str := ["_law_bag_here", "_law_most"]
theorem sc__law_get : FnScope ["_law_bag_here", "_law_most", "_law_cell", "_law_got", "_law_before"] ps__law_get (defScope s__law_get) := ⟨rfl, rfl, rfl, by decide +kernel, rfl, by decide +kernel, by decide +kernel⟩
abbrev s__law_pick : Stmt := top 31
abbrev ps__law_pick : List Str := ["_law_bag_here", "_law_some"]
theorem sc__law_pick : FnScope ["_law_bag_here", "_law_some"] ps__law_pick (defScope s__law_pick) := ⟨rfl, rfl, rfl, by decide +kernel, rfl, by decide +kernel, by decide +kernel⟩
abbrev s__law_mixed : Stmt := top 32
abbrev ps__law_mixed : List Str := ["_law_bag_here", "_law_some"]
theorem sc__law_mixed : FnScope ["_law_bag_here", "_law_some", "_law_left", "_law_one"] ps__law_mixed (defScope s__law_mixed) := ⟨rfl, rfl, rfl, by decide +kernel, rfl, by decide +kernel, by decide +kernel⟩
abbrev s__law_far : Stmt := top 33
abbrev ps__law_far : List Str := ["_law_bag_here", "_law_steps"]
theorem sc__law_far : FnScope ["_law_bag_here", "_law_steps", "_law_found", "_law_step"] ps__law_far (defScope s__law_far) := ⟨rfl, rfl, rfl, by decide +kernel, rfl, by decide +kernel, by decide +kernel⟩
abbrev s__law_same : Stmt := top 34
abbrev ps__law_same : List Str := ["_law_found", "_law_due"]
theorem sc__law_same : FnScope ["_law_found", "_law_due", "_law_key_now", "_law_one", "_law_other"] ps__law_same (defScope s__law_same) := ⟨rfl, rfl, rfl, by decide +kernel, rfl, by decide +kernel, by decide +kernel⟩
abbrev s__law_gcd : Stmt := top 35
abbrev ps__law_gcd : List Str := ["_law_one", "_law_other"]
theorem sc__law_gcd : FnScope ["_law_one", "_law_other"] ps__law_gcd (defScope s__law_gcd) := ⟨rfl, rfl, rfl, by decide +kernel, rfl, by decide +kernel, by decide +kernel⟩
abbrev s__law_part : Stmt := top 36
abbrev ps__law_part : List Str := ["_law_above_here", "_law_below"]
theorem sc__law_part : FnScope ["_law_above_here", "_law_below", "_law_by"] ps__law_part (defScope s__law_part) := ⟨rfl, rfl, rfl, by decide +kernel, rfl, by decide +kernel, by decide +kernel⟩
abbrev s__law_plus : Stmt := top 37
abbrev ps__law_plus : List Str := ["_law_one", "_law_other"]
theorem sc__law_plus : FnScope ["_law_one", "_law_other"] ps__law_plus (defScope s__law_plus) := ⟨rfl, rfl, rfl, by decide +kernel, rfl, by decide +kernel, by decide +kernel⟩
abbrev s__law_minus : Stmt := top 38
abbrev ps__law_minus : List Str := ["_law_one", "_law_other"]
theorem sc__law_minus : FnScope ["_law_one", "_law_other"] ps__law_minus (defScope s__law_minus) := ⟨rfl, rfl, rfl, by decide +kernel, rfl, by decide +kernel, by decide +kernel⟩
abbrev s__law_times : Stmt := top 39
abbrev ps__law_times : List Str := ["_law_one", "_law_other"]
theorem sc__law_times : FnScope ["_law_one", "_law_other"] ps__law_times (defScope s__law_times) := ⟨rfl, rfl, rfl, by decide +kernel, rfl, by decide +kernel, by decide +kernel⟩
abbrev s__law_less : Stmt := top 40
abbrev ps__law_less : List Str := ["_law_one", "_law_other"]
theorem sc__law_less : FnScope ["_law_one", "_law_other"] ps__law_less (defScope s__law_less) := ⟨rfl, rfl, rfl, by decide +kernel, rfl, by decide +kernel, by decide +kernel⟩
abbrev s__law_number : Stmt := top 41
abbrev ps__law_number : List Str := ["_law_bag_here"]
theorem sc__law_number : FnScope ["_law_bag_here", "_law_kind"] ps__law_number (defScope s__law_number) := ⟨rfl, rfl, rfl, by decide +kernel, rfl, by decide +kernel, by decide +kernel⟩
abbrev s__law_some_part : Stmt := top 42
abbrev ps__law_some_part : List Str := ["_law_bag_here"]
theorem sc__law_some_part : FnScope ["_law_bag_here", "_law_below"] ps__law_some_part (defScope s__law_some_part) := ⟨rfl, rfl, rfl, by decide +kernel, rfl, by decide +kernel, by decide +kernel⟩
abbrev s__law_above : Stmt := top 43
abbrev ps__law_above : List Str := ["_law_bag_here"]
theorem sc__law_above : FnScope ["_law_bag_here", "_law_one"] ps__law_above (defScope s__law_above) := ⟨rfl, rfl, rfl, by decide +kernel, rfl, by decide +kernel, by decide +kernel⟩
abbrev s__law_plain_box : Stmt := top 44
abbrev ps__law_plain_box : List Str := ["_law_bag_here"]
theorem sc__law_plain_box : FnScope ["_law_bag_here", "_law_wide", "_law_high"] ps__law_plain_box (defScope s__law_plain_box) := ⟨rfl, rfl, rfl, by decide +kernel, rfl, by decide +kernel, by decide +kernel⟩
abbrev s__law_weight : Stmt := top 45
abbrev ps__law_weight : List Str := ["_law_bag_here", "_law_kind"]
theorem sc__law_weight : FnScope ["_law_bag_here", "_law_kind"] ps__law_weight (defScope s__law_weight) := ⟨rfl, rfl, rfl, by decide +kernel, rfl, by decide +kernel, by decide +kernel⟩
abbrev s__law_weights : Stmt := top 46
abbrev ps__law_weights : List Str := ["_law_bag_here", "_law_most"]
theorem sc__law_weights : FnScope ["_law_bag_here", "_law_most", "_law_many", "_law_kind", "_law_k"] ps__law_weights (defScope s__law_weights) := ⟨rfl, rfl, rfl, by decide +kernel, rfl, by decide +kernel, by decide +kernel⟩
abbrev s__law_sizes : Stmt := top 47
abbrev ps__law_sizes : List Str := ["_law_bag_here", "_law_many"]
theorem sc__law_sizes : FnScope ["_law_bag_here", "_law_many", "_law_found", "_law_left", "_law_kind", "_law_size"] ps__law_sizes (defScope s__law_sizes) := ⟨rfl, rfl, rfl, by decide +kernel, rfl, by decide +kernel, by decide +kernel⟩
abbrev s__law_lean : Stmt := top 48
abbrev ps__law_lean : List Str := ["_law_bag_here"]
theorem sc__law_lean : FnScope ["_law_bag_here"] ps__law_lean (defScope s__law_lean) := ⟨rfl, rfl, rfl, by decide +kernel, rfl, by decide +kernel, by decide +kernel⟩
abbrev s__law_split : Stmt := top 49
abbrev ps__law_split : List Str := ["_law_box", "_law_weights_here", "_law_lean_here"]
theorem sc__law_split : FnScope ["_law_box", "_law_weights_here", "_law_lean_here", "_law_left", "_law_top", "_law_wide", "_law_high", "_law_found", "_law_before", "_law_weight_here", "_law_begin", "_law_share"] ps__law_split (defScope s__law_split) := ⟨rfl, rfl, rfl, by decide +kernel, rfl, by decide +kernel, by decide +kernel⟩
abbrev s__law_turned_lean : Stmt := top 50
abbrev ps__law_turned_lean : List Str := ["_law_lean_here"]
theorem sc__law_turned_lean : FnScope ["_law_lean_here"] ps__law_turned_lean (defScope s__law_turned_lean) := ⟨rfl, rfl, rfl, by decide +kernel, rfl, by decide +kernel, by decide +kernel⟩
abbrev s__law_parted : Stmt := top 51
abbrev ps__law_parted : List Str := ["_law_things_now", "_law_sizes_here"]
theorem sc__law_parted : FnScope ["_law_things_now", "_law_sizes_here", "_law_found", "_law_begin", "_law_size"] ps__law_parted (defScope s__law_parted) := ⟨rfl, rfl, rfl, by decide +kernel, rfl, by decide +kernel, by decide +kernel⟩
abbrev s__law_laid : Stmt := top 52
abbrev ps__law_laid : List Str := ["_law_box", "_law_weights_here", "_law_sizes_here", "_law_lean_here"]
theorem sc__law_laid : FnScope ["_law_box", "_law_weights_here", "_law_sizes_here", "_law_lean_here", "_law_rows", "_law_found", "_law_row", "_law_inner"] ps__law_laid (defScope s__law_laid) := ⟨rfl, rfl, rfl, by decide +kernel, rfl, by decide +kernel, by decide +kernel⟩
abbrev s__law_ends : Stmt := top 53
abbrev ps__law_ends : List Str := ["_law_box"]
theorem sc__law_ends : FnScope ["_law_box"] ps__law_ends (defScope s__law_ends) := ⟨rfl, rfl, rfl, by decide +kernel, rfl, by decide +kernel, by decide +kernel⟩
abbrev s__law_common : Stmt := top 54
abbrev ps__law_common : List Str := ["_law_low", "_law_high", "_law_start", "_law_end"]
theorem sc__law_common : FnScope ["_law_low", "_law_high", "_law_start", "_law_end", "_law_begin", "_law_stop"] ps__law_common (defScope s__law_common) := ⟨rfl, rfl, rfl, by decide +kernel, rfl, by decide +kernel, by decide +kernel⟩
abbrev s__law_edge : Stmt := top 55
abbrev ps__law_edge : List Str := ["_law_one", "_law_other"]
theorem sc__law_edge : FnScope ["_law_one", "_law_other", "_law_left", "_law_right", "_law_top", "_law_bottom", "_law_start", "_law_stop", "_law_upper", "_law_lower", "_law_found"] ps__law_edge (defScope s__law_edge) := ⟨rfl, rfl, rfl, by decide +kernel, rfl, by decide +kernel, by decide +kernel⟩
abbrev s__law_boxes_named : Stmt := top 56
abbrev ps__law_boxes_named : List Str := ["_law_bag_here", "_law_most"]
theorem sc__law_boxes_named : FnScope ["_law_bag_here", "_law_most", "_law_weights_here", "_law_box", "_law_names_here", "_law_boxes"] ps__law_boxes_named (defScope s__law_boxes_named) := ⟨rfl, rfl, rfl, by decide +kernel, rfl, by decide +kernel, by decide +kernel⟩
abbrev s__law_names : Stmt := top 57
abbrev ps__law_names : List Str := ["_law_bag_here", "_law_many"]
theorem sc__law_names : FnScope ["_law_bag_here", "_law_many", "_law_letters", "_law_k", "_law_size", "_law_place", "_law_same_here", "_law_unlike", "_law_begin", "_law_step", "_law_found", "_law_row", "_law_at"] ps__law_names (defScope s__law_names) := ⟨rfl, rfl, rfl, by decide +kernel, rfl, by decide +kernel, by decide +kernel⟩
abbrev s__law_near : Stmt := top 58
abbrev ps__law_near : List Str := ["_law_boxes_now", "_law_name"]
theorem sc__law_near : FnScope ["_law_boxes_now", "_law_name", "_law_found", "_law_other", "_law_length"] ps__law_near (defScope s__law_near) := ⟨rfl, rfl, rfl, by decide +kernel, rfl, by decide +kernel, by decide +kernel⟩
abbrev s__law_lost : Stmt := top 59
abbrev ps__law_lost : List Str := ["_law_ask"]
theorem sc__law_lost : FnScope ["_law_ask", "_law_found", "e"] ps__law_lost (defScope s__law_lost) := ⟨rfl, rfl, rfl, by decide +kernel, rfl, by decide +kernel, by decide +kernel⟩
abbrev s_law : Stmt := top 60
abbrev ps_law : List Str := ["_law_script"]
theorem sc_law : FnScope ["_law_script", "_law_bag_here", "_law_turn", "_law_whole_box", "_law_handed", "_law_name", "_law_due", "_law_again", "_law_found", "_law_gone", "_law_named"] ps_law (defScope s_law) := ⟨rfl, rfl, rfl, by decide +kernel, rfl, by decide +kernel, by decide +kernel⟩
abbrev s_Missing_init : Stmt := inClass (top 5) 0
theorem sc_Missing_init : FnScope ["self", "name"] ["self", "name"] (defScope s_Missing_init) := ⟨rfl, rfl, rfl, by decide +kernel, rfl, by decide +kernel, by decide +kernel⟩
/-- all that the top has left -/
structure Tops (K : PySem.W.Frag) (mg : Str → Option Value) : Prop where
  d_is_number : DefAt K mg "is_number" s_is_number ps_is_number
  d_is_part : DefAt K mg "is_part" s_is_part ps_is_part
  d_part : DefAt K mg "part" s_part ps_part
  d_plus : DefAt K mg "plus" s_plus ps_plus
  d_minus : DefAt K mg "minus" s_minus ps_minus
  d_less : DefAt K mg "less" s_less ps_less
  d_lesser : DefAt K mg "lesser" s_lesser ps_lesser
  d_greater : DefAt K mg "greater" s_greater ps_greater
  d_is_box : DefAt K mg "is_box" s_is_box ps_is_box
  d_touching : DefAt K mg "touching" s_touching ps_touching
  d_check_box : DefAt K mg "check_box" s_check_box ps_check_box
  d_common : DefAt K mg "_common" s__common ps__common
  d_neighbours : DefAt K mg "neighbours" s_neighbours ps_neighbours
  d_way : DefAt K mg "way" s_way ps_way
  d_check_name : DefAt K mg "_check_name" s__check_name ps__check_name
  d_steps_to : DefAt K mg "_steps_to" s__steps_to ps__steps_to
  d_next_step : DefAt K mg "_next_step" s__next_step ps__next_step
  d_law_bag : DefAt K mg "_law_bag" s__law_bag ps__law_bag
  d_law_get : DefAt K mg "_law_get" s__law_get ps__law_get
  d_law_pick : DefAt K mg "_law_pick" s__law_pick ps__law_pick
  d_law_mixed : DefAt K mg "_law_mixed" s__law_mixed ps__law_mixed
  d_law_far : DefAt K mg "_law_far" s__law_far ps__law_far
  d_law_same : DefAt K mg "_law_same" s__law_same ps__law_same
  d_law_gcd : DefAt K mg "_law_gcd" s__law_gcd ps__law_gcd
  d_law_part : DefAt K mg "_law_part" s__law_part ps__law_part
  d_law_plus : DefAt K mg "_law_plus" s__law_plus ps__law_plus
  d_law_minus : DefAt K mg "_law_minus" s__law_minus ps__law_minus
  d_law_times : DefAt K mg "_law_times" s__law_times ps__law_times
  d_law_less : DefAt K mg "_law_less" s__law_less ps__law_less
  d_law_number : DefAt K mg "_law_number" s__law_number ps__law_number
  d_law_some_part : DefAt K mg "_law_some_part" s__law_some_part ps__law_some_part
  d_law_above : DefAt K mg "_law_above" s__law_above ps__law_above
  d_law_plain_box : DefAt K mg "_law_plain_box" s__law_plain_box ps__law_plain_box
  d_law_weight : DefAt K mg "_law_weight" s__law_weight ps__law_weight
  d_law_weights : DefAt K mg "_law_weights" s__law_weights ps__law_weights
  d_law_sizes : DefAt K mg "_law_sizes" s__law_sizes ps__law_sizes
  d_law_lean : DefAt K mg "_law_lean" s__law_lean ps__law_lean
  d_law_split : DefAt K mg "_law_split" s__law_split ps__law_split
  d_law_turned_lean : DefAt K mg "_law_turned_lean" s__law_turned_lean ps__law_turned_lean
  d_law_parted : DefAt K mg "_law_parted" s__law_parted ps__law_parted
  d_law_laid : DefAt K mg "_law_laid" s__law_laid ps__law_laid
  d_law_ends : DefAt K mg "_law_ends" s__law_ends ps__law_ends
  d_law_common : DefAt K mg "_law_common" s__law_common ps__law_common
  d_law_edge : DefAt K mg "_law_edge" s__law_edge ps__law_edge
  d_law_boxes_named : DefAt K mg "_law_boxes_named" s__law_boxes_named ps__law_boxes_named
  d_law_names : DefAt K mg "_law_names" s__law_names ps__law_names
  d_law_near : DefAt K mg "_law_near" s__law_near ps__law_near
  d_law_lost : DefAt K mg "_law_lost" s__law_lost ps__law_lost
  x_NoName : ExcAtN K mg "NoName" "Missing.__init__" s_Missing_init
  m_abs : mg "abs" = none
  m_all : mg "all" = none
  m_bool : mg "bool" = none
  m_dict : mg "dict" = none
  m_int : mg "int" = none
  m_isinstance : mg "isinstance" = none
  m_len : mg "len" = none
  m_list : mg "list" = none
  m_min : mg "min" = none
  m_range : mg "range" = none
  m_sorted : mg "sorted" = none
  m_str : mg "str" = none
  m_sum : mg "sum" = none
  m_tuple : mg "tuple" = none
  m_zip : mg "zip" = none
  m_NOUGHT : NoughtAt K mg
  m_gcd : mg "gcd" = some (.builtin "math.gcd")
section
variable {P : Program} {w : World} {K : PySem.W.Frag} {mg : Str → Option Value} {base : Heap}
theorem ok_is_number (T : Tops K mg)  : DefOk P w K mg base 1 "is_number" ps_is_number spIsNum := by
  refine T.d_is_number.ok sc_is_number (fun vs H Q E h => ?_) (fun f cdv A outer s H vs Q E hr h => ?_)
  · unfold spIsNum at h
    obtain ⟨_, rfl, _⟩ := h
    rfl
  · unfold spIsNum at h
    obtain ⟨i, rfl, q⟩ := h
    refine ⟨_, (pss_one (ps_ret (pe_and (pe_callB call_isiI (by rfl) T.m_isinstance (by decide +kernel) (pa_cons (pv 0) (pa_cons (pe_bltn (v := V.ty "int") (u := Value.type "int") (by rfl) T.m_int (by decide +kernel) rfl) pa_nil))) (pe_one (pe_not (pe_callB call_isiI (by rfl) T.m_isinstance (by decide +kernel) (pa_cons (pv 0) (pa_cons (pe_bltn (v := V.ty "bool") (u := Value.type "bool") (by rfl) T.m_bool (by decide +kernel) rfl) pa_nil)))))))), ?_⟩
    have hi : Dp K H (.int i) (.int i) := .int i
    refine ⟨_, rfl, isi_step "int" "int" true hi rfl (by decide +kernel) ⟨true, rfl, ?_⟩⟩
    refine ⟨_, rfl, isi_step "int" "bool" false hi rfl (by decide +kernel) ⟨false, rfl, q _ rfl⟩⟩
theorem ok_is_part (T : Tops K mg) (D_is_number : DefOk P w K mg base 1 "is_number" ps_is_number spIsNum) : DefOk P w K mg base 2 "is_part" ps_is_part (spIsPart K) := by
  refine T.d_is_part.ok sc_is_part (fun vs H Q E h => ?_) (fun f cdv A outer s H vs Q E hr h => ?_)
  · unfold spIsPart at h
    obtain ⟨_, _, rfl, _⟩ := h
    rfl
  · unfold spIsPart at h
    obtain ⟨v, x, rfl, ⟨a, rfl, ha⟩, q⟩ := h
    refine ⟨_, (pss_cons (ps_if (PW.pt (pw_or (pt_not (pt_val (pe_callB call_isiI (by rfl) T.m_isinstance (by decide +kernel) (pa_cons (pv 0) (pa_cons (pe_bltn (v := V.ty "tuple") (u := Value.type "tuple") (by rfl) T.m_tuple (by decide +kernel) rfl) pa_nil))))) (pw_or1 (pt_cmpR op_ne (pe_callB call_len_seq (by rfl) T.m_len PySem.boot_len (pa_cons (pv 0) pa_nil)) pe_int (nomark _))))) (pss_one (ps_ret pe_bl)) pss_nil) (pss_cons (ps_asg (pv 0) (pg_tup rfl (pgs_cons (pg_name (i := 1) sc_is_part.nd rfl (.inl rfl)) (pgs_cons (pg_name (i := 2) sc_is_part.nd rfl (.inl rfl)) pgs_nil)))) (pss_one (ps_ret (pe_and (pe_callD D_is_number hr (by decide) (by rfl) (pa_cons (pv 1) pa_nil)) (pe_and (pe_callD D_is_number hr (by decide) (by rfl) (pa_cons (pv 2) pa_nil)) (pe_and (pe_cmpR op_gt (pv 2) pe_int (nomark _)) (pe_one (pe_cmpR op_eq (pe_callBfun cr_gcd (by rfl) T.m_gcd (pa_cons (pv 1) (pa_cons (pv 2) pa_nil))) pe_int (nomark _)))))))))), ?_⟩
    have hd : Dp K H (.ref a) (dPart x) := PtV.dp ⟨a, rfl, ha⟩
    refine ⟨_, rfl, isi_step "tuple" "tuple" true hd rfl (by decide +kernel) ⟨_, rfl, ?_⟩⟩
    refine ⟨_, rfl, a, _, rfl, .inr ha, rfl, _, rfl, ?_⟩
    refine ⟨_, rfl, a, _, rfl, ha, rfl, _, _, rfl, _, _, rfl, rfl, ?_⟩
    refine ⟨_, rfl, isnum_step ⟨true, rfl, ?_⟩⟩
    refine ⟨_, rfl, isnum_step ⟨true, rfl, ?_⟩⟩
    refine ⟨_, rfl, _, _, rfl, rfl, true, congrArg V.bl (decide_eq_true (den_pos x)), ?_⟩
    refine ⟨_, rfl, _, rfl, _, _, rfl, rfl, ?_⟩
    refine q _ (congrArg V.bl (decide_eq_true (congrArg V.int ?_)))
    have e := x.reduced
    show ((Nat.gcd x.num.natAbs ((x.den : Int)).natAbs : Nat) : Int) = 1
    rw [Int.natAbs_natCast]
    exact congrArg Int.ofNat e
theorem ok_part (T : Tops K mg)  : DefOk P w K mg base 1 "part" ps_part (spPart K) := by
  refine T.d_part.ok sc_part (fun vs H Q E h => ?_) (fun f cdv A outer s H vs Q E hr h => ?_)
  · obtain ⟨a, c, rfl, _⟩ := h
    rfl
  · obtain ⟨a, c, rfl, hc0, ha, hc, q⟩ := h
    refine ⟨_, (pss_cons (ps_if (pt_cmpR op_eq (pv 1) pe_int (nomark _)) (pss_one ps_never) pss_nil) (pss_cons (ps_set (i := 2) sc_part.nd rfl (.inl rfl) (pe_callBfun cr_gcd (by rfl) T.m_gcd (pa_cons (pv 0) (pa_cons (pv 1) pa_nil)))) (pss_cons (ps_if (pt_cmpR op_lt (pv 1) pe_int (nomark _)) (pss_one (ps_set (i := 2) sc_part.nd rfl (.inl rfl) (pe_un un_neg (pv 2)))) pss_nil) (pss_one (ps_ret (pe_tup (pa_cons (pe_op op_fdivA (pv 0) (pv 2)) (pa_cons (pe_op op_fdivA (pv 1) (pv 2)) pa_nil)))))))), ?_⟩
    have g0 : (0 : Int) < ((Int.gcd a c : Nat) : Int) := by
      have := Int.gcd_pos_of_ne_zero_right a hc0
      omega
    have g1 : Int.gcd a c ≤ c.natAbs := Int.gcd_le_natAbs_right a hc0
    have gw1 : CDivA a ((Int.gcd a c : Nat) : Int) := ⟨by omega, Nat.lt_of_le_of_lt (show _ ≤ c.natAbs by omega) (pow_mono_lt hc (by decide))⟩
    have gw2 : CDivA a (-((Int.gcd a c : Nat) : Int)) := ⟨by omega, Nat.lt_of_le_of_lt (show _ ≤ c.natAbs by omega) (pow_mono_lt hc (by decide))⟩
    refine ⟨_, rfl, rfl, _, rfl, ?_⟩
    refine iteD (fun hd => absurd (V.int.inj hd) hc0) (fun _ => ?_)
    refine ⟨_, rfl, _, rfl, a, c, rfl, ?_⟩
    repeat (walk_at "rd")
    refine iteD (fun hd => ?_) (fun hd => ?_)
    · refine ⟨_, rfl, _, rfl, _, rfl, _, rfl, _, _, rfl, rfl, gw2, _, rfl, _, rfl, _, _, rfl, rfl, gw2, (show 2 ≤ sizeLine by decide), fun p np => ?_⟩
      obtain ⟨e1, e2⟩ := divInt_num_neg (a := a) hd
      exact q _ _ (same_new np) (PtV.new e1 e2)
    · refine ⟨_, rfl, _, rfl, _, _, rfl, rfl, gw1, _, rfl, _, rfl, _, _, rfl, rfl, gw1, (show 2 ≤ sizeLine by decide), fun p np => ?_⟩
      obtain ⟨e1, e2⟩ := divInt_num_eq (a := a) (show 0 < c by omega)
      refine q _ _ (same_new np) (PtV.new ?_ ?_)
      · exact e1.trans (Int.fdiv_eq_ediv_of_nonneg a (by exact Int.le_of_lt g0)).symm
      · exact e2.trans (Int.fdiv_eq_ediv_of_nonneg c (by exact Int.le_of_lt g0)).symm
theorem ok_plus (T : Tops K mg) (D_part : DefOk P w K mg base 1 "part" ps_part (spPart K)) : DefOk P w K mg base 2 "plus" ps_plus (spTwo K (fun _ _ => True) fun x y => x + y) := by
  refine T.d_plus.ok sc_plus (fun vs H Q E h => ?_) (fun f cdv A outer s H vs Q E hr h => ?_)
  · unfold spTwo at h
    obtain ⟨_, _, _, _, rfl, _⟩ := h
    rfl
  · unfold spTwo at h
    obtain ⟨v, u, x, y, rfl, ⟨a, rfl, ha⟩, ⟨b, rfl, hb⟩, sx, sy, _, q⟩ := h
    refine ⟨_, (pss_one (ps_ret (pe_callD D_part hr (by decide) (by rfl) (pa_cons (pe_op op_add (pe_op op_mulA (pe_ix ix_tup (pv 0) pe_int (fun _ _ => rfl)) (pe_ix ix_tup (pv 1) pe_int (fun _ _ => rfl))) (pe_op op_mulA (pe_ix ix_tup (pv 1) pe_int (fun _ _ => rfl)) (pe_ix ix_tup (pv 0) pe_int (fun _ _ => rfl)))) (pa_cons (pe_op op_mulA (pe_ix ix_tup (pv 0) pe_int (fun _ _ => rfl)) (pe_ix ix_tup (pv 1) pe_int (fun _ _ => rfl))) pa_nil))))), ?_⟩
    obtain ⟨x1, x2⟩ := sz_abs sx
    obtain ⟨y1, y2⟩ := sz_abs sy
    repeat (walk_at "rd")
    refine ⟨_, _, rfl, Int.ne_of_gt (Int.mul_pos (den_pos x) (den_pos y)), pow_mono_lt (natAbs_add_lt (natAbs_mul_lt x1 y2) (natAbs_mul_lt y1 x2)) (by decide), pow_mono_lt (natAbs_mul_lt x2 y2) (by decide), fun v H' s hv => q v H' s ?_⟩
    rw [dv_add] at hv
    exact hv
theorem ok_minus (T : Tops K mg) (D_part : DefOk P w K mg base 1 "part" ps_part (spPart K)) : DefOk P w K mg base 2 "minus" ps_minus (spTwo K (fun _ _ => True) fun x y => x - y) := by
  refine T.d_minus.ok sc_minus (fun vs H Q E h => ?_) (fun f cdv A outer s H vs Q E hr h => ?_)
  · unfold spTwo at h
    obtain ⟨_, _, _, _, rfl, _⟩ := h
    rfl
  · unfold spTwo at h
    obtain ⟨v, u, x, y, rfl, ⟨a, rfl, ha⟩, ⟨b, rfl, hb⟩, sx, sy, _, q⟩ := h
    refine ⟨_, (pss_one (ps_ret (pe_callD D_part hr (by decide) (by rfl) (pa_cons (pe_op op_sub (pe_op op_mulA (pe_ix ix_tup (pv 0) pe_int (fun _ _ => rfl)) (pe_ix ix_tup (pv 1) pe_int (fun _ _ => rfl))) (pe_op op_mulA (pe_ix ix_tup (pv 1) pe_int (fun _ _ => rfl)) (pe_ix ix_tup (pv 0) pe_int (fun _ _ => rfl)))) (pa_cons (pe_op op_mulA (pe_ix ix_tup (pv 0) pe_int (fun _ _ => rfl)) (pe_ix ix_tup (pv 1) pe_int (fun _ _ => rfl))) pa_nil))))), ?_⟩
    obtain ⟨x1, x2⟩ := sz_abs sx
    obtain ⟨y1, y2⟩ := sz_abs sy
    repeat (walk_at "rd")
    refine ⟨_, _, rfl, Int.ne_of_gt (Int.mul_pos (den_pos x) (den_pos y)), pow_mono_lt (natAbs_sub_lt (natAbs_mul_lt x1 y2) (natAbs_mul_lt y1 x2)) (by decide), pow_mono_lt (natAbs_mul_lt x2 y2) (by decide), fun v H' s hv => q v H' s ?_⟩
    rw [dv_sub] at hv
    exact hv
theorem ok_less (T : Tops K mg)  : DefOk P w K mg base 1 "less" ps_less (spLess K) := by
  refine T.d_less.ok sc_less (fun vs H Q E h => ?_) (fun f cdv A outer s H vs Q E hr h => ?_)
  · unfold spLess at h
    obtain ⟨_, _, _, _, rfl, _⟩ := h
    rfl
  · unfold spLess at h
    obtain ⟨v, u, x, y, rfl, ⟨a, rfl, ha⟩, ⟨b, rfl, hb⟩, sx, sy, q⟩ := h
    refine ⟨_, (pss_one (ps_ret (pe_cmpR op_lt (pe_op op_mulA (pe_ix ix_tup (pv 0) pe_int (fun _ _ => rfl)) (pe_ix ix_tup (pv 1) pe_int (fun _ _ => rfl))) (pe_op op_mulA (pe_ix ix_tup (pv 1) pe_int (fun _ _ => rfl)) (pe_ix ix_tup (pv 0) pe_int (fun _ _ => rfl))) (nomark _)))), ?_⟩
    obtain ⟨x1, x2⟩ := sz_abs sx
    obtain ⟨y1, y2⟩ := sz_abs sy
    repeat (walk_at "rd")
    have e : decide (x < y) = decide (x.num * y.den < y.num * x.den) := decide_eq_decide.mpr (Rat.lt_iff x y)
    refine q _ ?_
    rw [e]
theorem ok_lesser (T : Tops K mg) (D_less : DefOk P w K mg base 1 "less" ps_less (spLess K)) : DefOk P w K mg base 2 "lesser" ps_lesser (spTwo K (fun _ _ => True) fun x y => ls x y) := by
  refine T.d_lesser.ok sc_lesser (fun vs H Q E h => ?_) (fun f cdv A outer s H vs Q E hr h => ?_)
  · unfold spTwo at h
    obtain ⟨_, _, _, _, rfl, _⟩ := h
    rfl
  · unfold spTwo at h
    obtain ⟨v, u, x, y, rfl, hx, hy, sx, sy, _, q⟩ := h
    refine ⟨_, (pss_one (ps_ret (pe_ifExp (pt_val (pe_callD D_less hr (by decide) (by rfl) (pa_cons (pv 0) (pa_cons (pv 1) pa_nil)))) (pv 0) (pv 1)))), ?_⟩
    refine ⟨_, rfl, _, rfl, less_step hx hy sx sy (Nat.le_refl _) (Nat.le_refl _) ⟨_, rfl, ?_⟩⟩
    refine iteD (fun e => ?_) (fun e => ?_)
    · refine ⟨_, rfl, q _ H (Same.refl H) ?_⟩
      show PtV K H _ (ls x y)
      rw [show ls x y = x from if_pos e]
      exact hx
    · refine ⟨_, rfl, q _ H (Same.refl H) ?_⟩
      show PtV K H _ (ls x y)
      rw [show ls x y = y from if_neg e]
      exact hy
theorem ok_greater (T : Tops K mg) (D_less : DefOk P w K mg base 1 "less" ps_less (spLess K)) : DefOk P w K mg base 2 "greater" ps_greater (spTwo K (fun _ _ => True) fun x y => gr x y) := by
  refine T.d_greater.ok sc_greater (fun vs H Q E h => ?_) (fun f cdv A outer s H vs Q E hr h => ?_)
  · unfold spTwo at h
    obtain ⟨_, _, _, _, rfl, _⟩ := h
    rfl
  · unfold spTwo at h
    obtain ⟨v, u, x, y, rfl, hx, hy, sx, sy, _, q⟩ := h
    refine ⟨_, (pss_one (ps_ret (pe_ifExp (pt_val (pe_callD D_less hr (by decide) (by rfl) (pa_cons (pv 0) (pa_cons (pv 1) pa_nil)))) (pv 1) (pv 0)))), ?_⟩
    refine ⟨_, rfl, _, rfl, less_step hx hy sx sy (Nat.le_refl _) (Nat.le_refl _) ⟨_, rfl, ?_⟩⟩
    refine iteD (fun e => ?_) (fun e => ?_)
    · refine ⟨_, rfl, q _ H (Same.refl H) ?_⟩
      show PtV K H _ (gr x y)
      rw [show gr x y = y from if_pos e]
      exact hy
    · refine ⟨_, rfl, q _ H (Same.refl H) ?_⟩
      show PtV K H _ (gr x y)
      rw [show gr x y = x from if_neg e]
      exact hx
theorem ok_is_box (T : Tops K mg) (D_is_part : DefOk P w K mg base 2 "is_part" ps_is_part (spIsPart K)) (D_less : DefOk P w K mg base 1 "less" ps_less (spLess K)) : DefOk P w K mg base 3 "is_box" ps_is_box (spIsBox K) := by
  refine T.d_is_box.ok sc_is_box (fun vs H Q E h => ?_) (fun f cdv A outer s H vs Q E hr h => ?_)
  · unfold spIsBox at h
    obtain ⟨_, _, rfl, _⟩ := h
    rfl
  · unfold spIsBox at h
    obtain ⟨v, b, rfl, ⟨a, v1, v2, v3, v4, rfl, hB⟩, hO, q⟩ := h
    obtain ⟨na_NOUGHT, mg_NOUGHT, hN⟩ := T.m_NOUGHT
    refine ⟨_, (pss_cons (ps_if (PW.pt (pw_or (pt_not (pt_val (pe_callB call_isiI (by rfl) T.m_isinstance (by decide +kernel) (pa_cons (pv 0) (pa_cons (pe_bltn (v := V.ty "tuple") (u := Value.type "tuple") (by rfl) T.m_tuple (by decide +kernel) rfl) pa_nil))))) (pw_or1 (pt_cmpR op_ne (pe_callB call_len_seq (by rfl) T.m_len PySem.boot_len (pa_cons (pv 0) pa_nil)) pe_int (nomark _))))) (pss_one (ps_ret pe_bl)) pss_nil) (pss_cons (ps_if (pt_not (pt_val (pe_callB (cr_all rfl) (by rfl) T.m_all (by decide +kernel) (pa_cons (pe_lc (own := [("number", 1)]) (g := gName 1) (by rfl) sc_is_box.nd (pi_tup (pv 0)) (blkOk_by (own := [("number", 1)]) (N := ["thing", "number"]) (sc := defScope s_is_box) (by decide +kernel)) (fun _ _ _ _ _ => (pg_name (i := 1) sc_is_box.nd rfl (.inl rfl))) (fun _ _ _ _ _ => pts_nil) (fun _ _ _ _ _ => (pe_callD D_is_part hr (by decide) (by rfl) (pa_cons (pv 1) pa_nil)))) pa_nil)))) (pss_one (ps_ret pe_bl)) pss_nil) (pss_one (ps_ret (pe_and (pe_callD D_less hr (by decide) (by rfl) (pa_cons (pe_glob (v := V.ref na_NOUGHT) (by rfl) mg_NOUGHT rfl) (pa_cons (pe_ix ix_tup (pv 0) pe_int (fun _ _ => rfl)) pa_nil))) (pe_one (pe_callD D_less hr (by decide) (by rfl) (pa_cons (pe_glob (v := V.ref na_NOUGHT) (by rfl) mg_NOUGHT rfl) (pa_cons (pe_ix ix_tup (pv 0) pe_int (fun _ _ => rfl)) pa_nil))))))))), ?_⟩
    have ha := hB.1
    have hd : Dp K H (.ref a) (dBox b) := BxV.dp ⟨a, v1, v2, v3, v4, rfl, hB⟩
    refine ⟨_, rfl, isi_step "tuple" "tuple" true hd rfl (by decide +kernel) ⟨_, rfl, ?_⟩⟩
    refine ⟨_, rfl, a, _, rfl, .inr ha, rfl, _, rfl, ?_⟩
    -- all([is_part(number) for number in thing])
    refine ⟨_, rfl, a, rfl, ⟨_, ha⟩, fun D nD => ?_⟩
    refine lc_tup (xs := [v1, v2, v3, v4]) (fun i H' => Same H H' ∧ H' D = some (.lst ((List.replicate i true).map V.bl))) ⟨same_new nD, upd_same⟩ (fun i H' _ z => seqT_same z.1 ha) ?_ ?_
    · rintro i x H' hx ⟨sH, hD⟩
      have hp : ∃ q, PtV K H' x q := by
        have h := hB.same sH
        match i, hx with
        | 0, hx => cases hx; exact ⟨_, h.2.1⟩
        | 1, hx => cases hx; exact ⟨_, h.2.2.1⟩
        | 2, hx => cases hx; exact ⟨_, h.2.2.2.1⟩
        | 3, hx => cases hx; exact ⟨_, h.2.2.2.2⟩
      obtain ⟨q1, hq1⟩ := hp
      have hi : i < 4 := (List.getElem?_eq_some_iff.mp hx).1
      refine ⟨rfl, ⟨_, rfl, ispart_step hq1 ⟨_, hD, ?_, ?_, ?_⟩⟩⟩
      · rw [List.length_map, List.length_replicate]
        exact small1000 (by omega)
      · intro c o hc
        rw [upd_ne (ne_of_none hc nD)]
        exact sH _ _ hc
      · rw [upd_same, List.replicate_succ', List.map_append]
        rfl
    · rintro H' ⟨sH, hD⟩
      refine ⟨D, List.replicate 4 true, rfl, SqL.of hD, _, rfl, ?_⟩
      have hB' := hB.same sH
      have z0 : Sz 3900 (0 : Rat) := ⟨Nat.pow_pos (by decide), Nat.one_lt_two_pow (by decide)⟩
      refine ⟨_, rfl, a, _, _, _, rfl, rfl, hB'.1, rfl, less_step (hN H') hB'.2.2.2.1 z0 hO.sw (Nat.le_refl _) (Nat.le_refl _) ⟨true, congrArg V.bl (decide_eq_true hO.w0), ?_⟩⟩
      refine ⟨_, rfl, a, _, _, _, rfl, rfl, hB'.1, rfl, less_step (hN H') hB'.2.2.2.2 z0 hO.sh (Nat.le_refl _) (Nat.le_refl _) ?_⟩
      exact q _ _ sH (congrArg V.bl (decide_eq_true hO.h0))
theorem ok_common (T : Tops K mg) (D_plus : DefOk P w K mg base 2 "plus" ps_plus (spTwo K (fun _ _ => True) fun x y => x + y)) (D_minus : DefOk P w K mg base 2 "minus" ps_minus (spTwo K (fun _ _ => True) fun x y => x - y)) (D_lesser : DefOk P w K mg base 2 "lesser" ps_lesser (spTwo K (fun _ _ => True) fun x y => ls x y)) (D_greater : DefOk P w K mg base 2 "greater" ps_greater (spTwo K (fun _ _ => True) fun x y => gr x y)) : DefOk P w K mg base 3 "_common" ps__common (spOvl K) := by
  refine T.d_common.ok sc__common (fun vs H Q E h => ?_) (fun f cdv A outer s H vs Q E hr h => ?_)
  · unfold spOvl at h
    obtain ⟨_, _, _, _, _, _, _, _, rfl, _⟩ := h
    rfl
  · unfold spOvl at h
    obtain ⟨v1, v2, v3, v4, x, l, y, m, rfl, h1, h2, h3, h4, s1, s2, s3, s4, q⟩ := h
    refine ⟨_, (pss_cons (ps_set (i := 4) sc__common.nd rfl (.inl rfl) (pe_callD D_lesser hr (by decide) (by rfl) (pa_cons (pe_callD D_plus hr (by decide) (by rfl) (pa_cons (pv 0) (pa_cons (pv 1) pa_nil))) (pa_cons (pe_callD D_plus hr (by decide) (by rfl) (pa_cons (pv 2) (pa_cons (pv 3) pa_nil))) pa_nil)))) (pss_one (ps_ret (pe_callD D_minus hr (by decide) (by rfl) (pa_cons (pv 4) (pa_cons (pe_callD D_greater hr (by decide) (by rfl) (pa_cons (pv 0) (pa_cons (pv 2) pa_nil))) pa_nil)))))), ?_⟩
    refine ⟨_, rfl, _, rfl, two_step h1 h2 s1 s2 (by decide) (by decide) trivial fun u1 G1 e1 g1 => ?_⟩
    refine ⟨_, rfl, _, rfl, two_step (h3.same e1) (h4.same e1) s3 s4 (by decide) (by decide) trivial fun u2 G2 e2 g2 => ?_⟩
    have z1 := sz_add s1 s2 (Nat.le_refl _)
    have z2 := sz_add s3 s4 (Nat.le_refl _)
    refine two_step (g1.same e2) g2 z1 z2 (by decide) (by decide) trivial fun u3 G3 e3 g3 => ?_
    have e13 := e1.trans (e2.trans e3)
    refine ⟨_, rfl, _, rfl, _, rfl, two_step (h1.same e13) (h3.same e13) s1 s3 (by decide) (by decide) trivial fun u4 G4 e4 g4 => ?_⟩
    exact two_step (g3.same e4) g4 (sz_ls z1 z2) (sz_gr s1 s3) (by decide) (by decide) trivial fun u5 G5 e5 g5 => q u5 G5 (e13.trans (e4.trans e5)) g5
theorem ok_check_box (T : Tops K mg) (D_is_box : DefOk P w K mg base 3 "is_box" ps_is_box (spIsBox K)) : DefOk P w K mg base 4 "check_box" ps_check_box (spCheck K) := by
  refine T.d_check_box.ok sc_check_box (fun vs H Q E h => ?_) (fun f cdv A outer s H vs Q E hr h => ?_)
  · unfold spCheck at h
    obtain ⟨_, _, rfl, _⟩ := h
    rfl
  · unfold spCheck at h
    obtain ⟨v, b, rfl, hB, hO, q⟩ := h
    refine ⟨_, (pss_one (ps_if (pt_not (pt_val (pe_callD D_is_box hr (by decide) (by rfl) (pa_cons (pv 0) pa_nil)))) (pss_one ps_never) pss_nil)), ?_⟩
    refine ⟨_, rfl, isbox_step hB hO (Nat.le_refl _) fun H' s1 => ⟨_, rfl, ?_⟩⟩
    exact q _ _ s1 rfl
theorem ok_touching (T : Tops K mg) (D_less : DefOk P w K mg base 1 "less" ps_less (spLess K)) (D_common : DefOk P w K mg base 3 "_common" ps__common (spOvl K)) (D_check_box : DefOk P w K mg base 4 "check_box" ps_check_box (spCheck K)) : DefOk P w K mg base 5 "touching" ps_touching (spEdge K touchM) := by
  refine T.d_touching.ok sc_touching (fun vs H Q E h => ?_) (fun f cdv A outer s H vs Q E hr h => ?_)
  · unfold spEdge at h
    obtain ⟨_, _, _, _, rfl, _⟩ := h
    rfl
  · unfold spEdge at h
    obtain ⟨v, w, p, q', rfl, hv, hw, hp, hq, q⟩ := h
    obtain ⟨na_NOUGHT, mg_NOUGHT, h0N⟩ := T.m_NOUGHT
    refine ⟨_, (pss_cons (ps_expr (pe_callD D_check_box hr (by decide) (by rfl) (pa_cons (pv 0) pa_nil))) (pss_cons (ps_expr (pe_callD D_check_box hr (by decide) (by rfl) (pa_cons (pv 1) pa_nil))) (pss_cons (ps_set (i := 2) sc_touching.nd rfl (.inl rfl) (pe_callD D_common hr (by decide) (by rfl) (pa_cons (pe_ix ix_tup (pv 0) pe_int (fun _ _ => rfl)) (pa_cons (pe_ix ix_tup (pv 0) pe_int (fun _ _ => rfl)) (pa_cons (pe_ix ix_tup (pv 1) pe_int (fun _ _ => rfl)) (pa_cons (pe_ix ix_tup (pv 1) pe_int (fun _ _ => rfl)) pa_nil)))))) (pss_cons (ps_set (i := 3) sc_touching.nd rfl (.inl rfl) (pe_callD D_common hr (by decide) (by rfl) (pa_cons (pe_ix ix_tup (pv 0) pe_int (fun _ _ => rfl)) (pa_cons (pe_ix ix_tup (pv 0) pe_int (fun _ _ => rfl)) (pa_cons (pe_ix ix_tup (pv 1) pe_int (fun _ _ => rfl)) (pa_cons (pe_ix ix_tup (pv 1) pe_int (fun _ _ => rfl)) pa_nil)))))) (pss_cons (ps_if (PW.pt (pw_and (pt_cmpR (op_eqD hr.units) (pv 2) (pe_glob (v := V.ref na_NOUGHT) (by rfl) mg_NOUGHT rfl) (nomark _)) (pw_and1 (pt_val (pe_callD D_less hr (by decide) (by rfl) (pa_cons (pe_glob (v := V.ref na_NOUGHT) (by rfl) mg_NOUGHT rfl) (pa_cons (pv 3) pa_nil))))))) (pss_one (ps_ret (pv 3))) pss_nil) (pss_cons (ps_if (PW.pt (pw_and (pt_cmpR (op_eqD hr.units) (pv 3) (pe_glob (v := V.ref na_NOUGHT) (by rfl) mg_NOUGHT rfl) (nomark _)) (pw_and1 (pt_val (pe_callD D_less hr (by decide) (by rfl) (pa_cons (pe_glob (v := V.ref na_NOUGHT) (by rfl) mg_NOUGHT rfl) (pa_cons (pv 2) pa_nil))))))) (pss_one (ps_ret (pv 2))) pss_nil) (pss_one (ps_ret (pe_glob (v := V.ref na_NOUGHT) (by rfl) mg_NOUGHT rfl))))))))), ?_⟩
    refine ⟨_, rfl, check_step hv hp (by decide) fun G1 e1 => ?_⟩
    refine ⟨_, rfl, check_step (hw.same e1) hq (by decide) fun G2 e2 => ?_⟩
    have hv := (hv.same e1).same e2
    have hw := (hw.same e1).same e2
    obtain ⟨a, v1, v2, v3, v4, rfl, hA⟩ := hv
    obtain ⟨b, w1, w2, w3, w4, rfl, hB⟩ := hw
    refine ⟨_, rfl, a, _, _, _, rfl, rfl, hA.1, rfl, _, rfl, a, _, _, _, rfl, rfl, hA.1, rfl, _, rfl, b, _, _, _, rfl, rfl, hB.1, rfl, _, rfl, b, _, _, _, rfl, rfl, hB.1, rfl, ?_⟩
    refine ovl_step hA.2.1 hA.2.2.2.1 hB.2.1 hB.2.2.2.1 hp.sl hp.sw hq.sl hq.sw fun u1 G3 e3 g1 => ?_
    have hA := hA.same e3
    have hB := hB.same e3
    refine ⟨_, rfl, a, _, _, _, rfl, rfl, hA.1, rfl, _, rfl, a, _, _, _, rfl, rfl, hA.1, rfl, _, rfl, b, _, _, _, rfl, rfl, hB.1, rfl, _, rfl, b, _, _, _, rfl, rfl, hB.1, rfl, ?_⟩
    refine ovl_step hA.2.2.1 hA.2.2.2.2 hB.2.2.1 hB.2.2.2.2 hp.st hp.sh hq.st hq.sh fun u2 G4 e4 g2 => ?_
    have g1 := g1.same e4
    have e14 := e1.trans (e2.trans (e3.trans e4))
    have zx := (sz_ovl hp.sl hp.sw hq.sl hq.sw).mono (show 3 * 900 + 2 ≤ 3900 by decide)
    have zy := (sz_ovl hp.st hp.sh hq.st hq.sh).mono (show 3 * 900 + 2 ≤ 3900 by decide)
    have z0 : Sz 3900 (0 : Rat) := ⟨Nat.two_pow_pos _, Nat.one_lt_two_pow (by decide)⟩
    have et : touchM p q' = if ovl p.l p.w q'.l q'.w = 0 ∧ 0 < ovl p.t p.h q'.t q'.h then ovl p.t p.h q'.t q'.h else if ovl p.t p.h q'.t q'.h = 0 ∧ 0 < ovl p.l p.w q'.l q'.w then ovl p.l p.w q'.l q'.w else 0 := rfl
    generalize ovl p.l p.w q'.l q'.w = x at *
    generalize ovl p.t p.h q'.t q'.h = y at *
    have fin0 : ¬ (x = 0 ∧ 0 < y) → ¬ (y = 0 ∧ 0 < x) → Q (.ref na_NOUGHT) G4 := fun h1 h2 => q _ G4 e14 (by rw [et, if_neg h1, if_neg h2]; exact h0N G4)
    refine ⟨_, rfl, ?_⟩
    dsimp only [tC]
    refine eqD_step g1 (h0N G4) ?_
    refine ⟨_, rfl, iteD (fun c => ?_) (fun c => ?_)⟩
    · refine ⟨_, rfl, less_step (h0N G4) g2 z0 zy (by decide) (by decide) ⟨_, rfl, iteD (fun c2 => ?_) (fun c2 => ?_)⟩⟩
      · exact ⟨_, rfl, q u2 G4 e14 (by rw [et, if_pos ⟨c, c2⟩]; exact g2)⟩
      · refine ⟨_, rfl, ?_⟩
        dsimp only [tC]
        refine eqD_step g2 (h0N G4) ?_
        refine ⟨_, rfl, iteD (fun c3 => ?_) (fun c3 => ?_)⟩
        · refine ⟨_, rfl, less_step (h0N G4) g1 z0 zx (by decide) (by decide) ⟨_, rfl, iteD (fun c4 => ?_) (fun c4 => ?_)⟩⟩
          · exact ⟨_, rfl, q u1 G4 e14 (by rw [et, if_neg (fun z => c2 z.2), if_pos ⟨c3, c4⟩]; exact g1)⟩
          · exact fin0 (fun z => c2 z.2) fun z => c4 z.2
        · exact fin0 (fun z => c2 z.2) fun z => c3 z.1
    · refine ⟨_, rfl, ?_⟩
      dsimp only [tC]
      refine eqD_step g2 (h0N G4) ?_
      refine ⟨_, rfl, iteD (fun c3 => ?_) (fun c3 => ?_)⟩
      · refine ⟨_, rfl, less_step (h0N G4) g1 z0 zx (by decide) (by decide) ⟨_, rfl, iteD (fun c4 => ?_) (fun c4 => ?_)⟩⟩
        · exact ⟨_, rfl, q u1 G4 e14 (by rw [et, if_neg (fun z => c z.1), if_pos ⟨c3, c4⟩]; exact g1)⟩
        · exact fin0 (fun z => c z.1) fun z => c4 z.2
      · exact fin0 (fun z => c z.1) fun z => c3 z.1
theorem ok_check_name (T : Tops K mg)  : DefOk P w K mg base 1 "_check_name" ps__check_name spCheckN := by
  refine T.d_check_name.ok sc__check_name (fun vs H Q E h => ?_) (fun f cdv A outer s H vs Q E hr h => ?_)
  · unfold spCheckN at h
    obtain ⟨_, _, _, _, rfl, _⟩ := h
    rfl
  · unfold spCheckN at h
    obtain ⟨D, z, kvs, u, rfl, hD, hv, q⟩ := h
    refine ⟨_, (pss_one (ps_if (PW.pt (pw_or (pt_not (pt_val (pe_callB call_isiI (by rfl) T.m_isinstance (by decide +kernel) (pa_cons (pv 1) (pa_cons (pe_bltn (v := V.ty "str") (u := Value.type "str") (by rfl) T.m_str (by decide +kernel) rfl) pa_nil))))) (pw_or1 (pt_cmp (pc_dnotin (u1 hr.units) (pv 1) (pv 0)) (by rfl))))) (pss_one ps_never) pss_nil)), ?_⟩
    have hi : Dp K H (.str z) (.str z) := .str z
    refine ⟨_, rfl, isi_step "str" "str" true hi rfl (by decide +kernel) ⟨true, rfl, iteF ?_⟩⟩
    refine ⟨_, rfl, _, rfl, D, some u, rfl, .inl ⟨kvs, Sum.inr z, hD, rfl, hv.symm⟩, _, rfl, ?_⟩
    exact iteF q
theorem ok_neighbours (T : Tops K mg) (D_touching : DefOk P w K mg base 5 "touching" ps_touching (spEdge K touchM)) (D_check_name : DefOk P w K mg base 1 "_check_name" ps__check_name spCheckN) : DefOk P w K mg base 6 "neighbours" ps_neighbours (spNear K) := by
  refine T.d_neighbours.ok sc_neighbours (fun vs H Q E h => ?_) (fun f cdv A outer s H vs Q E hr h => ?_)
  · unfold spNear at h
    obtain ⟨_, _, _, _, _, rfl, _⟩ := h
    rfl
  · unfold spNear at h
    obtain ⟨D, z, kvs, ns, b, rfl, hD, hN, hb, q⟩ := h
    obtain ⟨na_NOUGHT, mg_NOUGHT, h0N⟩ := T.m_NOUGHT
    refine ⟨_, (pss_cons (ps_expr (pe_callD D_check_name hr (by decide) (by rfl) (pa_cons (pv 0) (pa_cons (pv 1) pa_nil)))) (pss_cons (ps_set (i := 2) sc_neighbours.nd rfl (.inl rfl) (pe_lst pa_nil)) (pss_cons (ps_for PassesOwn.never rfl (pi_list (pe_callB cr_sortedS (by rfl) T.m_sorted (by decide +kernel) (pa_cons (pe_callTy (call_list_dKR rfl) (by rfl) T.m_list (by decide +kernel) (pa_cons (pv 0) pa_nil)) pa_nil))) (pg_name (i := 3) sc_neighbours.nd rfl (.inl rfl)) (pss_cons (ps_set (i := 4) sc_neighbours.nd rfl (.inl rfl) (pe_callD D_touching hr (by decide) (by rfl) (pa_cons (pe_dget (u1 hr.units) (pv 0) (pv 1) (fun _ _ => rfl)) (pa_cons (pe_dget (u1 hr.units) (pv 0) (pv 3) (fun _ _ => rfl)) pa_nil)))) (pss_one (ps_if (pt_cmpR (op_neD hr.units) (pv 4) (pe_glob (v := V.ref na_NOUGHT) (by rfl) mg_NOUGHT rfl) (nomark _)) (pss_one (ps_expr (pe_bm PySem.F.plainAttrs_list PySem.F.slot_list_append PySem.F.type_list_append mt_append (pv 2) (pa_cons (pe_tup (pa_cons (pv 3) (pa_cons (pv 4) pa_nil))) pa_nil)))) pss_nil)))) (pss_one (ps_ret (pv 2)))))), ?_⟩
    obtain ⟨vz, hvz, hbz⟩ := nm_val hD.pr hb
    refine ⟨_, rfl, _, rfl, checkn_step hD.at_ hvz ?_⟩
    refine ⟨Nat.zero_le _, fun F nF => ?_⟩
    have sF := same_new (o := .lst []) nF
    have hF : (upd H F (.lst [])) F = some (.lst []) := upd_same
    refine ⟨_, rfl, D, kvs, rfl, Rd.same hD.at_ sF, fun L nL => ?_⟩
    have sL := same_new (o := .lst (kvs.map fun kv => kV kv.1)) nL
    rw [nm_keys hD.pr] at sL ⊢
    refine ⟨L, ns.map (·.1), rfl, SqL.of upd_same, by rw [List.length_map]; have := hN.len; omega, fun ys P hp hs nP => ?_⟩
    have ey := srt_of hp hs
    subst ey
    have sP := same_new (o := .lst ((srt (ns.map (·.1))).map V.str)) nP
    have s0 := sF.trans (sL.trans sP)
    have hF := sP _ _ (sL _ _ hF)
    have hP : (upd (upd (upd H F (.lst [])) L (.lst ((ns.map (·.1)).map V.str))) P (.lst ((srt (ns.map (·.1))).map V.str))) P = some (.lst ((srt (ns.map (·.1))).map V.str)) := upd_same
    generalize upd (upd (upd H F (.lst [])) L (.lst ((ns.map (·.1)).map V.str))) P (.lst ((srt (ns.map (·.1))).map V.str)) = H1 at *
    have nPF : P ≠ F := fun e => by
      subst e
      rw [same_new (o := .lst ((ns.map (·.1)).map V.str)) nL _ _ upd_same] at nP
      cases nP
    refine ⟨P, rfl, ⟨_, SqL.of hP⟩, ?_⟩
    have hl : (srt (ns.map (·.1))).length ≤ 20 := by
      rw [(srt_perm _).length_eq, List.length_map]
      exact hN.len
    refine for_list (xs := (srt (ns.map (·.1))).map V.str) (fun i σ H' => ∃ (v3 v4 : Option V) (us : List V), σ = [some (.ref D), some (.str z), some (.ref F), v3, v4] ∧ Same H H' ∧ H' F = some (.lst us) ∧ H' P = some (.lst ((srt (ns.map (·.1))).map V.str)) ∧ Al (SpV K H') us (((srt (ns.map (·.1))).take i).filterMap (nearAt ns b))) ⟨none, none, [], rfl, s0, hF, hP, .nil⟩ (fun i σ H' _ ⟨_, _, _, _, _, _, h, _⟩ => SqL.of h) ?_ ?_
    · rintro i x σ H2 hx ⟨v3, v4, us, rfl, s2, hF2, hP2, hU⟩
      rw [List.getElem?_map] at hx
      obtain ⟨y, hy, rfl⟩ := Option.map_eq_some_iff.mp hx
      obtain ⟨c, hc⟩ := bxOf_key (ns := ns) (z := y) ((srt_perm _).mem_iff.mp (List.mem_of_getElem? hy))
      obtain ⟨vy, hvy, hby⟩ := nm_val hD.pr hc
      have hD2 := hD.same s2
      have et : ((srt (ns.map (·.1))).take (i + 1)).filterMap (nearAt ns b) = ((srt (ns.map (·.1))).take i).filterMap (nearAt ns b) ++ (nearAt ns b y).toList := by
        rw [List.take_add_one, hy, List.filterMap_append]
        show _ ++ List.filterMap _ [y] = _
        rw [List.filterMap_cons]
        cases nearAt ns b y <;> rfl
      have en : nearAt ns b y = if touchM b c = 0 then none else some (y, touchM b c) := by
        unfold nearAt
        rw [hc]
      refine ⟨_, rfl, _, rfl, D, vz, rfl, .inl ⟨kvs, Sum.inr z, hD2.at_, rfl, hvz.symm⟩, _, rfl, _, rfl, D, vy, rfl, .inl ⟨kvs, Sum.inr y, hD2.at_, rfl, hvy.symm⟩, ?_⟩
      refine edge_step (hbz.same s2) (hby.same s2) (hN.ok _ (bxOf_some hb)) (hN.ok _ (bxOf_some hc)) (by decide) (by decide) fun u H3 s3 hu => ?_
      refine ⟨_, rfl, ?_⟩
      dsimp only [tC]
      refine neD_step hu (h0N H3) ?_
      have hU3 := Al.mono (fun v x (h : SpV K H2 v x) => h.same s3) hU
      have hF3 := s3 _ _ hF2
      have hP3 := s3 _ _ hP2
      have s3 := s2.trans s3
      refine ⟨_, rfl, iteB (fun e => ?_) (fun e => ?_)⟩
      · have e : ¬ touchM b c = 0 := by simpa using e
        rw [if_neg e] at en
        refine ⟨_, rfl, .inl ⟨rfl, _, SqL.of hF3⟩, _, rfl, _, rfl, (show 2 ≤ sizeLine by decide), fun p np => ?_⟩
        have sp := same_new (o := .tup [.str y, u]) np
        refine ⟨F, us, _, rfl, rfl, sp _ _ hF3, small1000 (by rw [hU.len]; have := List.length_filterMap_le (nearAt ns b) ((srt (ns.map (·.1))).take i); rw [List.length_take] at this; omega), ?_⟩
        have hF4 := sp _ _ hF3
        refine ⟨_, _, us ++ [.ref p], rfl, same_write nF (s3.trans sp), upd_same, by rw [upd_ne nPF]; exact sp _ _ hP3, ?_⟩
        rw [et, en]
        exact (Al.mono (fun v x (h : SpV K H3 v x) => (h.same sp).kp Kp.upd hF4) hU3).snoc ((SpV.mk np hu).kp Kp.upd hF4)
      · have e : touchM b c = 0 := by simpa using e
        rw [if_pos e] at en
        refine ⟨_, _, us, rfl, s3, hF3, hP3, ?_⟩
        rw [et, en]
        simpa using hU3
    · rintro σ H2 ⟨v3, v4, us, rfl, s2, hF2, hP2, hU⟩
      rw [List.length_map, List.take_length] at hU
      exact ⟨_, rfl, q F us H2 nF s2 hF2 hU⟩
theorem ok_next_step (T : Tops K mg) (D_neighbours : DefOk P w K mg base 6 "neighbours" ps_neighbours (spNear K)) : DefOk P w K mg base 7 "_next_step" ps__next_step (spNext K) := by
  refine T.d_next_step.ok sc__next_step (fun vs H Q E h => ?_) (fun f cdv A outer s H vs Q E hr h => ?_)
  · unfold spNext at h
    obtain ⟨_, _, _, _, _, _, _, rfl, _⟩ := h
    rfl
  · unfold spNext at h
    obtain ⟨D, F, y, t, kvs, ns, n, rfl, hD, hN, hy, hF, hd, q⟩ := h
    refine ⟨_, (pss_cons (ps_setLc (i := 3) (own := [("pair", 4)]) (g := gName 4) (by rfl) sc__next_step.nd rfl rfl (sw_true rfl rfl rfl (by decide +kernel)) (pi_list (pe_callD D_neighbours hr (by decide) (by rfl) (pa_cons (pv 0) (pa_cons (pv 1) pa_nil)))) (blkOk_by (own := [("pair", 4)]) (N := ["boxes", "name", "steps", "nearer", "pair"]) (sc := defScope s__next_step) (by decide +kernel)) (fun _ _ _ _ _ => (pg_name (i := 4) sc__next_step.nd rfl (.inl rfl))) (fun _ _ _ _ _ => (pts_one (pt_cmpR op_lt (pe_dget (u1 hr.units) (pv 2) (pe_ix (kk_ix (K := K) (r := rIxT) rfl ix_tup) (pv 4) pe_int (fun _ _ => rfl)) (fun _ _ => rfl)) (pe_dget (u1 hr.units) (pv 2) (pv 1) (fun _ _ => rfl)) (nomark _)))) (fun _ _ _ _ _ => (pe_ix (kk_ix (K := K) (r := rIxT) rfl ix_tup) (pv 4) pe_int (fun _ _ => rfl)))) (pss_one (ps_ret (pe_ix ix_list (pv 3) pe_int (fun _ _ => rfl))))), ?_⟩
    obtain ⟨b, hb⟩ := bxOf_key hy
    refine ⟨_, rfl, _, rfl, near_step hD hN hb fun L us H1 nL s1 hL hA => ?_⟩
    have enb : nbM ns y = (nearM ns b).map (·.1) := by
      unfold nbM
      rw [hb]
    refine ⟨L, rfl, ⟨_, SqL.of hL⟩, fun N nN => ?_⟩
    refine lc_list (xs := us) (fun i H' => Same H1 H' ∧ H' N = some (.lst (((((nearM ns b).take i).map (·.1)).filter (nearer (nbM ns) t (n + 1))).map V.str))) ⟨same_new nN, upd_same⟩ (fun i H' _ z => SqL.of (z.1 _ _ hL)) ?_ ?_
    · rintro i x H' hx ⟨sH, hQ⟩
      obtain ⟨⟨w, r⟩, hw, a, u, rfl, ha, hu⟩ := hA.get hx
      have s2 := s1.trans sH
      have hmw : w ∈ nbM ns y := by rw [enb]; exact List.mem_map.mpr ⟨_, List.mem_of_getElem? hw, rfl⟩
      obtain ⟨m, hm, hdw⟩ := hd.on hmw
      have hF2 := hF.same s2
      have et : ((nearM ns b).take (i + 1)).map (·.1) = ((nearM ns b).take i).map (·.1) ++ [w] := by
        rw [List.take_add_one, hw, List.map_append]
        rfl
      have hlen : ((((nearM ns b).take i).map (·.1)).filter (nearer (nbM ns) t (n + 1))).length ≤ 20 := by
        refine Nat.le_trans (List.length_filter_le _ _) ?_
        rw [List.length_map, List.length_take]
        have := near_len ns b
        have := hN.len
        omega
      have ha := seqT_same sH ha
      refine ⟨rfl, _, rfl, _, rfl, a, _, 0, _, rfl, rfl, ha, rfl, F, .int (m : Int), rfl, hF2.get hdw, _, rfl, _, rfl, F, .int ((n + 1 : Nat) : Int), rfl, hF2.get hd, _, _, rfl, rfl, _, rfl, iteD (fun e => ?_) (fun e => ?_)⟩
      · refine ⟨_, rfl, a, _, 0, _, rfl, rfl, ha, rfl, _, hQ, by rw [List.length_map]; exact small1000 (by omega), same_write nN sH, ?_⟩
        rw [upd_same, et, List.filter_append, List.map_append]
        congr 3
        have : nearer (nbM ns) t (n + 1) w = true := by rw [nearer_of hdw]; exact decide_eq_true (by omega)
        rw [List.filter_cons, if_pos this]
        rfl
      · refine ⟨sH, ?_⟩
        rw [hQ, et, List.filter_append]
        have : nearer (nbM ns) t (n + 1) w = false := by rw [nearer_of hdw]; exact decide_eq_false (by omega)
        rw [List.filter_cons, if_neg (by rw [this]; exact Bool.false_ne_true), List.filter_nil, List.append_nil]
    rintro H2 ⟨s2, hQ⟩
    rw [hA.len, List.take_length, ← enb] at hQ
    have h0 := nx_ok (nb_sym ns) hd
    have hx : ∃ r, (nbM ns y).filter (nearer (nbM ns) t (n + 1)) = nxW (nbM ns) t y (n + 1) :: r := by
      have hm : nxW (nbM ns) t y (n + 1) ∈ (nbM ns y).filter (nearer (nbM ns) t (n + 1)) := List.mem_filter.mpr ⟨h0.1, nearer_iff.mpr ⟨n, Nat.lt_succ_self n, h0.2⟩⟩
      unfold nxW at hm ⊢
      cases e : (nbM ns y).filter (nearer (nbM ns) t (n + 1)) with
      | nil => rw [e] at hm; cases hm
      | cons a r => exact ⟨r, rfl⟩
    obtain ⟨r, hr⟩ := hx
    rw [hr] at hQ
    exact ⟨_, rfl, N, _, ((0 : Nat) : Int), _, rfl, rfl, SqL.of hQ, atI_nat rfl, q H2 (s1.trans s2)⟩
theorem ok_steps_to (T : Tops K mg) (D_neighbours : DefOk P w K mg base 6 "neighbours" ps_neighbours (spNear K)) : DefOk P w K mg base 7 "_steps_to" ps__steps_to (spSteps K) := by
  refine T.d_steps_to.ok sc__steps_to (fun vs H Q E h => ?_) (fun f cdv A outer s H vs Q E hr h => ?_)
  · unfold spSteps at h
    obtain ⟨_, _, _, _, _, rfl, _⟩ := h
    rfl
  · unfold spSteps at h
    obtain ⟨D, z, kvs, ns, b, rfl, hD, hN, hb, q⟩ := h
    refine ⟨_, (pss_cons (ps_set (i := 2) sc__steps_to.nd rfl (.inl rfl) (pe_disp (pps_cons (pv 1) pe_int pps_nil) rfl rfl (List.cons_ne_nil _ _) (by decide))) (pss_cons (ps_set (i := 3) sc__steps_to.nd rfl (.inl rfl) (pe_lst (pa_cons (pv 1) pa_nil))) (pss_cons (ps_while PassesOwn.never (pt_cmpR op_gt (pe_callB call_len_seq (by rfl) T.m_len PySem.boot_len (pa_cons (pv 3) pa_nil)) pe_int (nomark _)) (pss_cons (ps_set (i := 4) sc__steps_to.nd rfl (.inl rfl) (pe_lst pa_nil)) (pss_cons (ps_for PassesOwn.never rfl (pi_list (pv 3)) (pg_name (i := 5) sc__steps_to.nd rfl (.inl rfl)) (pss_one (ps_for PassesOwn.never rfl (pi_list (pe_callD D_neighbours hr (by decide) (by rfl) (pa_cons (pv 0) (pa_cons (pv 5) pa_nil)))) (pg_tup rfl (pgs_cons (pg_name (i := 6) sc__steps_to.nd rfl (.inl rfl)) (pgs_cons (pg_name (i := 7) sc__steps_to.nd rfl (.inl rfl)) pgs_nil))) (pss_one (ps_if (pt_cmp (pc_dnotin (u1 hr.units) (pv 6) (pv 2)) (by rfl)) (pss_cons (ps_dput (u1 hr.units) (pv 2) (pv 6) (pe_op op_add (pe_dget (u1 hr.units) (pv 2) (pv 5) (fun _ _ => rfl)) pe_int) rfl) (pss_one (ps_expr (pe_bm PySem.F.plainAttrs_list PySem.F.slot_list_append PySem.F.type_list_append mt_append (pv 4) (pa_cons (pv 6) pa_nil))))) pss_nil))))) (pss_one (ps_set (i := 3) sc__steps_to.nd rfl (.inl rfl) (pv 4)))))) (pss_one (ps_ret (pv 2)))))), ?_⟩
    have hzn : z ∈ ns.map (·.1) := List.mem_map.mpr ⟨_, bxOf_some hb, rfl⟩
    refine fun F nF => ⟨_, rfl, upd_same, [(Sum.inr z, .int 0)], rfl, (show 1 ≤ 15 by decide), ?_⟩
    refine ⟨_, rfl, (show 1 ≤ sizeLine by decide), fun R nR => ?_⟩
    rw [show mergeK [] [((Sum.inr z : Key), V.int 0)] = [(Sum.inr z, .int 0)] from rfl] at nR ⊢
    have nRF : R ≠ F := fun e => by rw [e, upd_same] at nR; cases nR
    have hF0 : (upd (upd (upd H F (.dK [])) F (.dK [(Sum.inr z, .int 0)])) R (.lst [.str z])) F = some (.dK [(Sum.inr z, .int 0)]) := by rw [upd_ne nRF.symm, upd_same]
    have hR0 : (upd (upd (upd H F (.dK [])) F (.dK [(Sum.inr z, .int 0)])) R (.lst [.str z])) R = some (.lst [.str z]) := upd_same
    have s0 : Same H (upd (upd (upd H F (.dK [])) F (.dK [(Sum.inr z, .int 0)])) R (.lst [.str z])) := fun c o e => by
      have n1 : c ≠ F := ne_of_none e nF
      have n2 : c ≠ R := fun h => by rw [h] at e; rw [upd_ne nRF, upd_ne nRF, e] at nR; cases nR
      rw [upd_ne n2, upd_ne n1, upd_ne n1]
      exact e
    generalize upd (upd (upd H F (.dK [])) F (.dK [(Sum.inr z, .int 0)])) R (.lst [.str z]) = H0 at *
    have bound : ∀ {k : Nat} {fs : List (Str × Nat)} {rs : List Str}, Bfs (nbM ns) z k fs rs → fs.length ≤ 20 := fun {k fs rs} h => by
      have hl := sub_len h.nd (ys := ns.map (·.1)) fun x hx => by
        obtain ⟨⟨x', n⟩, hp, rfl⟩ := List.mem_map.mp hx
        exact wk_name hzn ((h.mem _ _).mp hp).1.1
      rw [List.length_map, List.length_map] at hl
      exact Nat.le_trans hl hN.len
    refine ⟨fun m σ H' => ∃ (R : Addr) (v4 v5 v6 v7 : Option V) (k : Nat) (sd : List (Key × V)) (fs : List (Str × Nat)) (rs : List Str), σ = [some (.ref D), some (.str z), some (.ref F), some (.ref R), v4, v5, v6, v7] ∧ Same H H' ∧ H' F = some (.dK sd) ∧ Paired StR sd fs ∧ Bfs (nbM ns) z k fs rs ∧ H' R = some (.lst (rs.map V.str)) ∧ rs.length ≤ 20 ∧ m = 2 * (20 - fs.length) + min rs.length 1, ⟨_, R, none, none, none, none, 0, _, [(z, 0)], [z], rfl, s0, hF0, .cons ⟨rfl, rfl⟩ .nil, .start, hR0, (show 1 ≤ 20 by decide), rfl⟩, ?_⟩
    rintro m σ H1 ⟨R, v4, v5, v6, v7, k, sd, fs, rs, rfl, s1, hF, hP, hB, hR, hrl, hm⟩
    refine ⟨_, rfl, R, _, rfl, .inl (SqL.of hR), _, _, rfl, rfl, _, rfl, ?_⟩
    rw [List.length_map]
    have hfl := bound hB
    cases hrs : rs with
    | nil =>
      subst hrs
      refine iteDF (by simp) ?_
      exact ⟨_, rfl, q F H1 nF s1 ⟨⟨sd, fs, hF, hP, hB.nd, hB.done⟩⟩⟩
    | cons r0 rr =>
      rw [← hrs]
      refine iteDT (by rw [hrs, List.length_cons]; omega) ?_
      refine ⟨fun σ' H' => ∃ (R : Addr) (v4 v5 v6 v7 : Option V) (k : Nat) (sd : List (Key × V)) (fs : List (Str × Nat)) (rs : List Str), σ' = [some (.ref D), some (.str z), some (.ref F), some (.ref R), v4, v5, v6, v7] ∧ Same H H' ∧ H' F = some (.dK sd) ∧ Paired StR sd fs ∧ Bfs (nbM ns) z k fs rs ∧ H' R = some (.lst (rs.map V.str)) ∧ rs.length ≤ 20 ∧ 2 * (20 - fs.length) + min rs.length 1 < m, fun σ' H' ⟨R, v4, v5, v6, v7, k, sd, fs, rs, h1, h2, h3, h4, h5, h6, h7, h8⟩ => ⟨_, h8, R, v4, v5, v6, v7, k, sd, fs, rs, h1, h2, h3, h4, h5, h6, h7, rfl⟩, ?_⟩
      refine ⟨Nat.zero_le _, fun S nS => ?_⟩
      have nSF : S ≠ F := fun e => by rw [e, hF] at nS; cases nS
      have nSR : S ≠ R := fun e => by rw [e, hR] at nS; cases nS
      have nHS : H S = none := by
        cases e : H S with
        | none => rfl
        | some o => rw [s1 _ _ e] at nS; cases nS
      refine ⟨_, rfl, R, rfl, ⟨_, SqL.of (show (upd H1 S (.lst [])) R = _ by rw [upd_ne nSR.symm]; exact hR)⟩, ?_⟩
      refine for_list (xs := rs.map V.str) (fun i σ H' => ∃ (v5 v6 v7 : Option V) (sd' : List (Key × V)) (fur : List Str), σ = [some (.ref D), some (.str z), some (.ref F), some (.ref R), some (.ref S), v5, v6, v7] ∧ Same H H' ∧ H' F = some (.dK sd') ∧ Paired StR sd' (fs ++ fur.map fun y => (y, k + 1)) ∧ BfsM (nbM ns) z k fs (fun y => ∃ x ∈ rs.take i, y ∈ nbM ns x) fur ∧ H' R = some (.lst (rs.map V.str)) ∧ H' S = some (.lst (fur.map V.str))) ⟨_, _, _, sd, [], rfl, same_write nHS s1, by rw [upd_ne nSF.symm]; exact hF, by simpa using hP, ⟨List.Pairwise.nil, fun y => by simp⟩, by rw [upd_ne nSR.symm]; exact hR, upd_same⟩ (fun i σ H' _ ⟨_, _, _, _, _, _, _, _, _, _, h, _⟩ => SqL.of h) ?_ ?_
      · rintro i x σ H2 hx ⟨v5, v6, v7, sd1, fur1, rfl, s2, hF2, hP2, hM2, hR2, hS2⟩
        rw [List.getElem?_map] at hx
        obtain ⟨y, hy, rfl⟩ := Option.map_eq_some_iff.mp hx
        have hdy : Ds (nbM ns) z k y := (hB.rs y).mp (List.mem_of_getElem? hy)
        obtain ⟨c, hc⟩ := bxOf_key (wk_name hzn hdy.1)
        refine ⟨_, rfl, _, rfl, near_step (hD.same s2) hN hc fun L us H3 nL s3 hL hA => ?_⟩
        have enb : nbM ns y = (nearM ns c).map (·.1) := by
          unfold nbM
          rw [hc]
        have nLF : L ≠ F := fun e => by rw [e, hF2] at nL; cases nL
        have nLS : L ≠ S := fun e => by rw [e, hS2] at nL; cases nL
        refine ⟨L, rfl, ⟨_, SqL.of hL⟩, ?_⟩
        refine for_list (xs := us) (fun j σ H' => ∃ (v6 v7 : Option V) (sd' : List (Key × V)) (fur : List Str), σ = [some (.ref D), some (.str z), some (.ref F), some (.ref R), some (.ref S), some (.str y), v6, v7] ∧ Same H H' ∧ H' F = some (.dK sd') ∧ Paired StR sd' (fs ++ fur.map fun y => (y, k + 1)) ∧ BfsM (nbM ns) z k fs (fun w => (∃ x ∈ rs.take i, w ∈ nbM ns x) ∨ w ∈ (nbM ns y).take j) fur ∧ H' R = some (.lst (rs.map V.str)) ∧ H' S = some (.lst (fur.map V.str)) ∧ H' L = some (.lst us) ∧ Al (SpV K H') us (nearM ns c)) ⟨_, _, sd1, fur1, rfl, s2.trans s3, s3 _ _ hF2, hP2, ⟨hM2.nd, fun w => by rw [hM2.mem]; simp⟩, s3 _ _ hR2, s3 _ _ hS2, hL, hA⟩ (fun i σ H' _ ⟨_, _, _, _, _, _, _, _, _, _, _, h, _⟩ => SqL.of h) ?_ ?_
        · rintro j x σ H4 hx ⟨v6, v7, sd2, fur2, rfl, s4, hF4, hP4, hM4, hR4, hS4, hL4, hA4⟩
          obtain ⟨⟨w, r⟩, hw, a, u, rfl, ha, hu⟩ := hA4.get hx
          have hwj : (nbM ns y)[j]? = some w := by rw [enb, List.getElem?_map, hw]; rfl
          have hwm : w ∈ nbM ns y := List.mem_of_getElem? hwj
          have hPP : ∀ q, ((∃ x ∈ rs.take i, q ∈ nbM ns x) ∨ q ∈ (nbM ns y).take (j + 1)) ↔ ((∃ x ∈ rs.take i, q ∈ nbM ns x) ∨ q ∈ (nbM ns y).take j) ∨ q = w := fun q => by
            rw [List.take_add_one, hwj, List.mem_append]
            simp [or_assoc]
          have hkeys : ∀ q, q ∈ (fs ++ fur2.map fun y => (y, k + 1)).map (·.1) ↔ (valV sd2 (Sum.inr q)).isSome = true := fun q => by
            constructor
            · intro h
              obtain ⟨p, hp, rfl⟩ := List.mem_map.mp h
              obtain ⟨kv, h1, _⟩ := pr_val (fun _ _ h => h.1) hP4 (hM4.all hB) hp
              rw [h1]
              rfl
            · intro h
              by_cases e : q ∈ (fs ++ fur2.map fun y => (y, k + 1)).map (·.1)
              · exact e
              · rw [pr_none (fun _ _ h => h.1) hP4 e] at h
                cases h
          refine ⟨a, _, rfl, ha, rfl, _, _, rfl, _, _, rfl, rfl, ?_⟩
          refine ⟨_, rfl, _, rfl, F, valV sd2 (Sum.inr w), rfl, .inl ⟨sd2, Sum.inr w, .inl hF4, rfl, rfl⟩, _, rfl, iteB (fun e => ?_) (fun e => ?_)⟩
          · have hnw : w ∉ (fs ++ fur2.map fun y => (y, k + 1)).map (·.1) := fun h => by
              rw [(hkeys w).mp h] at e
              cases e
            have hM5 := hM4.add hB hdy hwm hnw hPP
            have hyf : (y, k) ∈ fs ++ fur2.map fun y => (y, k + 1) := List.mem_append_left _ ((hB.mem y k).mpr ⟨hdy, Nat.le_refl _⟩)
            obtain ⟨kv, hv1, hv2⟩ := pr_val (fun _ _ h => h.1) hP4 (hM4.all hB) hyf
            have hv3 : kv.2 = .int (k : Int) := hv2.2
            rw [hv3] at hv1
            have hlen : sd2.length ≤ 20 := by
              rw [paired_len hP4]
              have h2 := sub_len (hM4.all hB) (ys := ns.map (·.1)) fun x hx => by
                obtain ⟨⟨x', n⟩, hp, rfl⟩ := List.mem_map.mp hx
                rcases List.mem_append.mp hp with hp | hp
                · exact wk_name hzn ((hB.mem _ _).mp hp).1.1
                · obtain ⟨x2, hx2, e⟩ := List.mem_map.mp hp
                  cases e
                  exact wk_name hzn ((hM4.mem _).mp hx2).1.1
              rw [List.length_map, List.length_map] at h2
              exact Nat.le_trans h2 hN.len
            have hful : fur2.length ≤ 20 := by
              have h2 := paired_len hP4
              rw [List.length_append, List.length_map] at h2
              omega
            refine ⟨_, rfl, _, rfl, F, .int (k : Int), rfl, .inl ⟨sd2, Sum.inr y, .inl hF4, rfl, hv1.symm⟩, _, _, rfl, rfl, _, rfl, _, rfl, F, _, rfl, DPut.k (k := Sum.inr w) hF4 (small1000 (by omega)), ?_⟩
            rw [putK_new (by rw [pr_keys (fun _ _ h => h.1) hP4]; intro h; obtain ⟨q, hq, e⟩ := List.mem_map.mp h; cases e; exact hnw hq)]
            have hS5 : (upd H4 F (.dK (sd2 ++ [(Sum.inr w, V.int ((k : Int) + 1))]))) S = some (.lst (fur2.map V.str)) := by rw [upd_ne nSF]; exact hS4
            refine ⟨_, rfl, .inl ⟨rfl, _, SqL.of hS5⟩, _, rfl, S, _, _, rfl, rfl, hS5, by rw [List.length_map]; exact small1000 (by omega), ?_⟩
            refine ⟨_, _, _, fur2 ++ [w], rfl, same_write nHS (same_write nF s4), by rw [upd_ne nSF.symm, upd_same], ?_, hM5, ?_, ?_, ?_, ?_⟩
            · rw [List.map_append, ← List.append_assoc]
              exact paired_snoc hP4 ⟨rfl, rfl⟩
            · rw [upd_ne nSR.symm, upd_ne (fun e => by rw [e, hF4] at hR4; cases hR4)]
              exact hR4
            · rw [upd_same, List.map_append]
              rfl
            · rw [upd_ne nLS, upd_ne nLF]
              exact hL4
            · exact Al.mono (fun v x (h : SpV K H4 v x) => by
                obtain ⟨a, u, h1, h2, h3⟩ := h
                have t5 : TK K H4 (upd H4 F (.dK (sd2 ++ [(Sum.inr w, V.int ((k : Int) + 1))]))) := tk_dK hF4 Kp.upd
                exact SpV.kp ⟨a, u, h1, t5 _ _ h2, h3.tk t5⟩ Kp.upd hS5) hA4
          · have hnw : w ∈ (fs ++ fur2.map fun y => (y, k + 1)).map (·.1) := (hkeys w).mpr (by simpa using e)
            exact ⟨_, _, sd2, fur2, rfl, s4, hF4, hP4, hM4.skip hB hnw hPP, hR4, hS4, hL4, hA4⟩
        · rintro σ H4 ⟨v6, v7, sd2, fur2, rfl, s4, hF4, hP4, hM4, hR4, hS4, hL4, hA4⟩
          refine ⟨_, _, _, sd2, fur2, rfl, s4, hF4, hP4, ⟨hM4.nd, fun w => ?_⟩, hR4, hS4⟩
          rw [hM4.mem, hA4.len, ← List.length_map (f := fun x : Str × Rat => x.1), ← enb, List.take_length, List.take_add_one, hy]
          simp [or_and_right, exists_or]
      · rintro σ H2 ⟨v5, v6, v7, sd1, fur, rfl, s2, hF2, hP2, hM2, hR2, hS2⟩
        rw [List.length_map, List.take_length] at hM2
        have hB2 := hB.next hM2 fun y hy => by
          obtain ⟨x, hx, hxy⟩ := hy.back
          exact ⟨x, (hB.rs x).mpr hx, hxy⟩
        have hb2 := bound hB2
        rw [List.length_append, List.length_map] at hb2
        refine ⟨_, rfl, S, _, _, _, _, k + 1, sd1, _, fur, rfl, s2, hF2, hP2, hB2, hS2, by omega, ?_⟩
        rw [hm, hrs, List.length_append, List.length_map, List.length_cons]
        omega
theorem ok_way (T : Tops K mg) (D_check_name : DefOk P w K mg base 1 "_check_name" ps__check_name spCheckN) (D_next_step : DefOk P w K mg base 7 "_next_step" ps__next_step (spNext K)) (D_steps_to : DefOk P w K mg base 7 "_steps_to" ps__steps_to (spSteps K)) : DefOk P w K mg base 8 "way" ps_way (spWay K) := by
  refine T.d_way.ok sc_way (fun vs H Q E h => ?_) (fun f cdv A outer s H vs Q E hr h => ?_)
  · unfold spWay at h
    obtain ⟨_, _, _, _, _, rfl, _⟩ := h
    rfl
  · unfold spWay at h
    obtain ⟨D, y, t, kvs, ns, rfl, hD, hN, hy, ht, q0, q⟩ := h
    refine ⟨_, (pss_cons (ps_expr (pe_callD D_check_name hr (by decide) (by rfl) (pa_cons (pv 0) (pa_cons (pv 1) pa_nil)))) (pss_cons (ps_expr (pe_callD D_check_name hr (by decide) (by rfl) (pa_cons (pv 0) (pa_cons (pv 2) pa_nil)))) (pss_cons (ps_set (i := 3) sc_way.nd rfl (.inl rfl) (pe_callD D_steps_to hr (by decide) (by rfl) (pa_cons (pv 0) (pa_cons (pv 2) pa_nil)))) (pss_cons (ps_if (pt_cmp (pc_dnotin (u1 hr.units) (pv 1) (pv 3)) (by rfl)) (pss_one (ps_ret pe_non)) pss_nil) (pss_cons (ps_set (i := 4) sc_way.nd rfl (.inl rfl) (pe_lst (pa_cons (pv 1) pa_nil))) (pss_cons (ps_while PassesOwn.never (pt_cmpR op_gt (pe_dget (u1 hr.units) (pv 3) (pe_ix ix_list (pv 4) (pe_un un_neg pe_int) (fun _ _ => rfl)) (fun _ _ => rfl)) pe_int (nomark _)) (pss_one (ps_expr (pe_bm PySem.F.plainAttrs_list PySem.F.slot_list_append PySem.F.type_list_append mt_append (pv 4) (pa_cons (pe_callD D_next_step hr (by decide) (by rfl) (pa_cons (pv 0) (pa_cons (pe_ix ix_list (pv 4) (pe_un un_neg pe_int) (fun _ _ => rfl)) (pa_cons (pv 3) pa_nil)))) pa_nil))))) (pss_one (ps_ret (pv 4))))))))), ?_⟩
    obtain ⟨b, hb⟩ := bxOf_key hy
    obtain ⟨c, hc⟩ := bxOf_key ht
    obtain ⟨vb, hvb, _⟩ := nm_val hD.pr hb
    obtain ⟨vc, hvc, _⟩ := nm_val hD.pr hc
    refine ⟨_, rfl, _, rfl, checkn_step hD.at_ hvb ?_⟩
    refine ⟨_, rfl, _, rfl, checkn_step hD.at_ hvc ?_⟩
    refine ⟨_, rfl, _, rfl, steps_step hD hN hc fun F H1 nF s1 hF => ?_⟩
    by_cases he : ∃ n, Ds (nbM ns) t n y
    · obtain ⟨n, hd⟩ := he
      have hbd : n ≤ 20 := by
        have nd := way_nodup (nb_sym ns) hd
        have hl := sub_len nd (ys := ns.map (·.1)) fun x hx => by
          obtain ⟨i, hi⟩ := List.mem_iff_getElem?.mp hx
          exact wk_name ht (way_ds (nb_sym ns) hd hi).2.1
        rw [way_len, List.length_map] at hl
        have := hN.len
        omega
      refine ⟨_, rfl, _, rfl, F, _, rfl, hF.get hd, _, rfl, iteF ?_⟩
      refine ⟨_, rfl, (show 1 ≤ sizeLine by decide), fun L nL => ?_⟩
      have sL := same_new (o := .lst [.str y]) nL
      have nLF : L ≠ F := fun e => by
        obtain ⟨sd, fs, h1, _⟩ := hF.at_
        rw [e, h1] at nL
        cases nL
      have nHL : H L = none := by
        cases e : H L with
        | none => rfl
        | some o => rw [s1 _ _ e] at nL; cases nL
      refine ⟨fun m σ H' => ∃ (pre : List Str) (x : Str), σ = [some (.ref D), some (.str y), some (.str t), some (.ref F), some (.ref L)] ∧ Same H1 H' ∧ H' L = some (.lst ((pre ++ [x]).map V.str)) ∧ Ds (nbM ns) t m x ∧ pre ++ wayL (nbM ns) t x m = wayL (nbM ns) t y n, ⟨n, [], y, rfl, sL, upd_same, hd, rfl⟩, ?_⟩
      rintro m σ H2 ⟨pre, x, rfl, s2, hL, hdx, hp⟩
      have hpl := congrArg List.length hp
      rw [List.length_append, way_len, way_len] at hpl
      have hF2 := hF.same s2
      have hlast : atI ((pre ++ [x]).map V.str) (-1) = some (.str x) := by
        rw [List.map_append]
        exact atI_last _ _
      refine ⟨_, rfl, _, rfl, _, rfl, L, _, _, _, rfl, rfl, SqL.of hL, hlast, F, .int (m : Int), rfl, hF2.get hdx, _, _, rfl, rfl, _, rfl, ?_⟩
      cases m with
      | zero =>
        refine iteDF (by omega) ?_
        refine ⟨_, rfl, ?_⟩
        rw [show pre ++ [x] = wayL (nbM ns) t y n from hp] at hL
        exact q n hd L H2 nHL (s1.trans s2) hL
      | succ m =>
        refine iteDT (by omega) ?_
        refine ⟨fun σ' H' => ∃ (pre : List Str) (x : Str), σ' = [some (.ref D), some (.str y), some (.str t), some (.ref F), some (.ref L)] ∧ Same H1 H' ∧ H' L = some (.lst ((pre ++ [x]).map V.str)) ∧ Ds (nbM ns) t m x ∧ pre ++ wayL (nbM ns) t x m = wayL (nbM ns) t y n, fun σ' H' h => ⟨m, Nat.lt_succ_self m, h⟩, ?_⟩
        refine ⟨_, rfl, .inl ⟨rfl, _, SqL.of hL⟩, _, rfl, _, rfl, _, rfl, L, _, _, _, rfl, rfl, SqL.of hL, hlast, _, rfl, ?_⟩
        refine next_step (hD.same (s1.trans s2)) hN (wk_name ht hdx.1) hF2 hdx fun H3 s3 => ?_
        refine ⟨L, _, _, rfl, rfl, s3 _ _ hL, by rw [List.length_map, List.length_append]; exact small1000 (by simp; omega), ?_⟩
        refine ⟨pre ++ [x], _, rfl, same_write nL (s2.trans s3), ?_, (nx_ok (nb_sym ns) hdx).2, ?_⟩
        · rw [upd_same, List.map_append (l₁ := pre ++ [x])]
          rfl
        · rw [← hp, List.append_assoc]
          rfl
    · have hn : ∀ n, ¬ Ds (nbM ns) t n y := fun n h => he ⟨n, h⟩
      refine ⟨_, rfl, _, rfl, F, none, rfl, hF.none hn, _, rfl, iteT ?_⟩
      exact q0 hn H1 s1
theorem ok_law_bag (T : Tops K mg)  : DefOk P w K mg base 1 "_law_bag" ps__law_bag (spBag K) := by
  refine T.d_law_bag.ok sc__law_bag (fun vs H Q E h => ?_) (fun f cdv A outer s H vs Q E hr h => ?_)
  · obtain ⟨a, ns, rfl, _⟩ := h
    rfl
  · obtain ⟨a, ns, rfl, hS, hlen, q⟩ := h
    refine ⟨_, (pss_one (ps_ret (pe_lst (pa_cons (pe_callTy call_list_of (by rfl) T.m_list (by decide +kernel) (pa_cons (pe_slice sl_list (pv 0) po_none (po_some pe_int)) pa_nil)) (pa_cons pe_int (pa_cons pe_int (pa_cons (pe_op op_add pe_int (pe_callB call_len_seq (by rfl) T.m_len PySem.boot_len (pa_cons (pe_slice sl_list (pv 0) po_none (po_some pe_int)) pa_nil))) (pa_cons pe_int pa_nil)))))))), ?_⟩
    have ec : cutV (ns.map V.int) none (some 63) = ns.map V.int := cut63 (by rw [List.length_map]; exact hlen)
    refine ⟨_, rfl, _, rfl, a, _, rfl, hS, fun p np => ⟨p, _, rfl, .inl (SqL.of upd_same), fun l nl => ?_⟩⟩
    rw [ec] at nl ⊢
    have s1 : Same H (upd H p (.lst (ns.map V.int))) := same_new np
    have s2 := s1.trans (same_new (o := .lst (ns.map V.int)) nl)
    refine ⟨_, rfl, _, rfl, a, _, rfl, s2.seq hS, fun p2 np2 => ⟨p2, _, rfl, .inl (SqL.of upd_same), ?_⟩⟩
    refine ⟨_, _, rfl, rfl, (show 5 ≤ sizeLine by decide), fun b nb => q b _ ?_ ?_ ?_⟩
    · exact (s2.trans (same_new np2)).free nb
    · exact (s2.trans (same_new np2)).trans (same_new nb)
    · have hl0 : (upd (upd H p (.lst (ns.map V.int))) l (.lst (ns.map V.int))) l = some (.lst (ns.map V.int)) := upd_same
      have s3 := (same_new (o := .lst (cutV (ns.map V.int) none (some 63))) np2).trans (same_new (o := HO.lst [V.ref l, V.int 0, V.int 0, V.int (9103 + ((cutV (ns.map V.int) none (some 63)).length : Nat)), V.int 0]) nb)
      refine ⟨l, ns, 0, 0, _, 0, upd_same, s3 _ _ hl0, ?_, hlen, Int.le_refl 0, ?_, ?_⟩
      · exact ne_of_none (same_new np2 _ _ hl0) nb
      all_goals
        rw [ec, List.length_map]
        omega
theorem ok_law_get (T : Tops K mg)  : DefOk P w K mg base 1 "_law_get" ps__law_get spGet := by
  refine T.d_law_get.ok sc__law_get (fun vs H Q E h => ?_) (fun f cdv A outer s H vs Q E hr h => ?_)
  · obtain ⟨a, c, rfl, _⟩ := h
    rfl
  · obtain ⟨b, m, rfl, hB, hm0, hm1, q⟩ := h
    refine ⟨_, (C8.pss_cut (ps_if (PW.pt (pw_and (pt_cmpR op_lt (pe_ix ix_list (pv 0) pe_int (fun _ _ => rfl)) (pv 1) (nomark _)) (pw_and1 (pt_cmpR op_lt (pe_ix ix_list (pv 0) pe_int (fun _ _ => rfl)) (pe_callB call_len_seq (by rfl) T.m_len PySem.boot_len (pa_cons (pe_ix ix_list (pv 0) pe_int (fun _ _ => rfl)) pa_nil)) (nomark _))))) (pss_cons (ps_set (i := 2) sc__law_get.nd rfl (.inl rfl) (pe_ix ix_list (pe_ix ix_list (pv 0) pe_int (fun _ _ => rfl)) (pe_ix ix_list (pv 0) pe_int (fun _ _ => rfl)) (fun _ _ => rfl))) (pss_cons (ps_asg (pe_op op_add (pe_ix ix_list (pv 0) pe_int (fun _ _ => rfl)) pe_int) (pg_sub (pv 0) pe_int set_list)) (pss_cons (ps_asg (pe_ifExp (pt_cmpR op_ge (pv 2) (pe_op op_pow pe_int pe_int) (nomark _)) (pe_op op_sub (pv 2) (pe_op op_pow pe_int pe_int)) pe_int) (pg_sub (pv 0) pe_int set_list)) (pss_one (ps_asg (pe_op op_mod (pe_op op_add (pe_op op_add (pe_op op_mulA (pe_ix ix_list (pv 0) pe_int (fun _ _ => rfl)) pe_int) (pe_op op_mulA (pv 2) pe_int)) (pe_op op_mulA pe_int (pe_ix ix_list (pv 0) pe_int (fun _ _ => rfl)))) pe_int) (pg_sub (pv 0) pe_int set_list)))))) pss_nil) (pss_cons (ps_if (pt_cmpR op_ge (pe_ix ix_list (pv 0) pe_int (fun _ _ => rfl)) (pv 1) (nomark _)) (pss_cons (ps_set (i := 3) sc__law_get.nd rfl (.inl rfl) (pe_op op_mod (pe_ix ix_list (pv 0) pe_int (fun _ _ => rfl)) (pv 1))) (pss_cons (ps_asg (pe_op op_fdiv (pe_ix ix_list (pv 0) pe_int (fun _ _ => rfl)) (pv 1)) (pg_sub (pv 0) pe_int set_list)) (pss_one (ps_ret (pv 3))))) pss_nil) (pss_cons (ps_asg (pe_op op_add (pe_ix ix_list (pv 0) pe_int (fun _ _ => rfl)) pe_int) (pg_sub (pv 0) pe_int set_list)) (pss_cons (ps_set (i := 4) sc__law_get.nd rfl (.inl rfl) (pe_ix ix_list (pv 0) pe_int (fun _ _ => rfl))) (pss_cons (ps_asg (pe_op op_mod (pe_op op_add (pe_op op_add (pe_op op_add (pe_op op_mulA (pv 4) (pv 4)) (pe_op op_mulA pe_int (pv 4))) (pe_op op_mulA pe_int (pe_ix ix_list (pv 0) pe_int (fun _ _ => rfl)))) pe_int) pe_int) (pg_sub (pv 0) pe_int set_list)) (pss_one (ps_ret (pe_op op_mod (pe_op op_add (pe_op op_fdiv (pe_ix ix_list (pv 0) pe_int (fun _ _ => rfl)) pe_int) (pe_op op_mulA (pe_op op_fdiv (pv 4) pe_int) pe_int)) (pv 1))))))))), ?_⟩
    obtain ⟨c, ns, p, r, x, z, hb, hc, hcb, hl, hp, hx0, hx1⟩ := id hB
    refine ⟨fun σ' H' => ∃ v2, σ' = [some (.ref b), some (.int m), v2, none, none] ∧ Bag H' b ∧ KpG b H H', ?_, ?_⟩
    · repeat (walk_at "rd")
      refine iteD (fun hd => ?_) (fun hd => ?_)
      · repeat (walk_at "rd")
        refine iteD (fun hd2 => ?_) (fun hd2 => ?_)
        · rw [List.length_map] at hd2
          have hp2 : p.toNat < ns.length := by omega
          have ecell : atI (ns.map V.int) p = some (.int ns[p.toNat]) := by
            have e : p = ((p.toNat : Nat) : Int) := by omega
            have h := atI_nat (xs := ns.map V.int) (j := p.toNat) (v := .int ns[p.toNat]) (by rw [List.getElem?_map, List.getElem?_eq_getElem hp2]; rfl)
            rw [← e] at h
            exact h
          repeat (walk_at "rd")
          refine setL_step (ys := [.ref c, .int (p + 1), .int r, .int x, .int z]) hb (by rfl) (by rfl) fun H1 hb1 k1 => ?_
          repeat (walk_at "rd")
          refine iteD (fun hd3 => ?_) (fun hd3 => ?_)
          all_goals
            repeat (walk_at "rd")
            refine setL_step (ys := [.ref c, .int (p + 1), .int _, .int x, .int z]) hb1 (by rfl) (by rfl) fun H2 hb2 k2 => ?_
            repeat (walk_at "rd")
            refine setL_step (ys := [.ref c, .int (p + 1), .int _, .int _, .int z]) hb2 (by rfl) (by rfl) fun H3 hb3 k3 => ?_
            exact ⟨_, rfl, ⟨c, ns, p + 1, _, _, z, hb3, k3 _ _ (k2 _ _ (k1 _ _ hc hcb) hcb) hcb, hcb, hl, by omega, Int.emod_nonneg _ (by decide), Int.emod_lt_of_pos _ (by decide)⟩, k1.trans (k2.trans k3), fun c' ⟨r', e⟩ => by rw [hb] at e; cases e; exact ⟨_, hb3⟩⟩
        · exact ⟨_, rfl, hB, Kp.refl _ _, fun _ h => h⟩
      · repeat (walk_at "rd")
        exact ⟨Kp.refl _ _, fun _ h => h⟩
    · rintro σ' H' ⟨v2, rfl, hB', kp⟩
      obtain ⟨c, ns, p, r, x, z, hb, hc, hcb, hl, hp, hx0, hx1⟩ := hB'
      repeat (walk_at "rd")
      refine iteD (fun hd => ?_) (fun hd => ?_)
      · repeat (walk_at "rd")
        refine setL_step (ys := [.ref c, .int p, .int _, .int x, .int z]) hb (by rfl) (by rfl) fun H1 hb1 k1 => ?_
        refine ⟨_, rfl, q _ H1 (Int.emod_nonneg _ (by omega)) (Int.emod_lt_of_pos _ hm0) ⟨c, ns, p, _, x, z, hb1, k1 _ _ hc hcb, hcb, hl, hp, hx0, hx1⟩ ⟨kp.trans k1, fun c' h => by obtain ⟨r', e⟩ := kp.hd c' h; rw [hb] at e; cases e; exact ⟨_, hb1⟩⟩⟩
      · refine ⟨_, rfl, ?_⟩
        repeat (walk_at "rd")
        refine setL_step (ys := [.ref c, .int p, .int r, .int x, .int (z + 1)]) hb (by rfl) (by rfl) fun H1 hb1 k1 => ?_
        repeat (walk_at "rd")
        refine setL_step (ys := [.ref c, .int p, .int r, .int _, .int (z + 1)]) hb1 (by rfl) (by rfl) fun H2 hb2 k2 => ?_
        repeat (walk_at "rd")
        refine q _ H2 (Int.emod_nonneg _ (by omega)) (Int.emod_lt_of_pos _ hm0) ⟨c, ns, p, r, _, _, hb2, k2 _ _ (k1 _ _ hc hcb) hcb, hcb, hl, hp, Int.emod_nonneg _ (by decide), Int.emod_lt_of_pos _ (by decide)⟩ ⟨kp.trans (k1.trans k2), fun c' h => by obtain ⟨r', e⟩ := kp.hd c' h; rw [hb] at e; cases e; exact ⟨_, hb2⟩⟩
theorem ok_law_pick (T : Tops K mg) (D_law_get : DefOk P w K mg base 1 "_law_get" ps__law_get spGet) : DefOk P w K mg base 2 "_law_pick" ps__law_pick spPick := by
  refine T.d_law_pick.ok sc__law_pick (fun vs H Q E h => ?_) (fun f cdv A outer s H vs Q E hr h => ?_)
  · unfold spPick at h
    obtain ⟨_, _, _, rfl, _⟩ := h
    rfl
  · unfold spPick at h
    obtain ⟨c, L, xs, rfl, hC, hL, hne, hx0, hx1, q⟩ := h
    refine ⟨_, (pss_one (ps_ret (pe_ix ix_list (pv 1) (pe_callD D_law_get hr (by decide) (by rfl) (pa_cons (pv 0) (pa_cons (pe_callB call_len_seq (by rfl) T.m_len PySem.boot_len (pa_cons (pv 1) pa_nil)) pa_nil))) (fun _ _ => rfl)))), ?_⟩
    refine ⟨_, rfl, _, rfl, _, rfl, L, xs, rfl, .inl (SqL.of hL), c, _, rfl, hC, by omega, by omega, fun r H' h0 h1 hC' k => ?_⟩
    have hi : r.toNat < xs.length := by omega
    have e : r = ((r.toNat : Nat) : Int) := by omega
    have ha : atI xs r = some xs[r.toNat] := by
      have h := atI_nat (xs := xs) (j := r.toNat) (List.getElem?_eq_getElem hi)
      rw [← e] at h
      exact h
    exact ⟨L, xs, r, _, rfl, rfl, SqL.of (k _ _ hL hne), ha, q _ H' (List.getElem_mem hi) hC' k⟩
theorem ok_law_mixed (T : Tops K mg) (D_law_get : DefOk P w K mg base 1 "_law_get" ps__law_get spGet) : DefOk P w K mg base 2 "_law_mixed" ps__law_mixed (spMixedV K) := by
  refine T.d_law_mixed.ok sc__law_mixed (fun vs H Q E h => ?_) (fun f cdv A outer s H vs Q E hr h => ?_)
  · unfold spMixedV at h
    obtain ⟨_, _, _, rfl, _⟩ := h
    rfl
  · unfold spMixedV at h
    obtain ⟨c, a, xs, rfl, hC, hA, hne, hlen, q⟩ := h
    refine ⟨_, (pss_cons (ps_set (i := 2) sc__law_mixed.nd rfl (.inr rfl) (pe_callTy call_list_of (by rfl) T.m_list (by decide +kernel) (pa_cons (pv 1) pa_nil))) (pss_one (ps_ret (pe_lc (own := [("_law_one", 3)]) (g := gName 3) (by rfl) sc__law_mixed.nd (pi_list (pv 1)) (blkOk_by (own := [("_law_one", 3)]) (N := ["_law_bag_here", "_law_some", "_law_left", "_law_one"]) (sc := defScope s__law_mixed) (by decide +kernel)) (fun _ _ _ _ _ => (pg_name (i := 3) sc__law_mixed.nd rfl (.inl rfl))) (fun _ _ _ _ _ => pts_nil) (fun _ _ _ _ _ => (kk_bm (K := K) rfl PySem.F.plainAttrs_list PySem.F.slot_list_pop PySem.F.type_list_pop mt_popAt (pv 2) (pa_cons (pe_callD D_law_get hr (by decide) (by rfl) (pa_cons (pv 0) (pa_cons (pe_callB (kk_len (K := K) rfl) (by rfl) T.m_len PySem.boot_len (pa_cons (pv 2) pa_nil)) pa_nil))) pa_nil))))))), ?_⟩
    obtain ⟨cc, hcc⟩ := hC.c
    refine ⟨_, rfl, a, _, rfl, .inl (SqL.of hA), fun l nl => ?_⟩
    have nl2 := hcc.ne nl
    have sl := same_new (o := .lst xs) nl
    have hl : (upd H l (.lst xs)) l = some (.lst xs) := upd_same
    generalize upd H l (.lst xs) = H1 at *
    refine ⟨_, rfl, a, rfl, ⟨_, SqL.of (sl _ _ hA)⟩, fun D nD => ?_⟩
    have nD2 := (hcc.same sl).ne nD
    have hDl : D ≠ l := fun z => by
      rw [z, hl] at nD
      cases nD
    have nHD : H D = none := sl.free nD
    have sD := same_new (o := .lst []) nD
    refine lc_list (xs := xs) (fun i H' => ∃ ys left : List V, ys.length = i ∧ (ys ++ left).Perm xs ∧ H' l = some (.lst left) ∧ H' D = some (.lst ys) ∧ BagC H' c cc ∧ KpG c H H') ⟨[], xs, rfl, List.Perm.refl _, sD _ _ hl, upd_same, (hcc.same sl).same sD, KpG.of (sl.trans sD)⟩ (fun i H' _ ⟨_, _, _, _, _, _, _, k⟩ => SqL.of (k _ _ hA hne)) ?_ ?_
    · rintro i x H' hx ⟨ys, left, h1, h2, hL, hD, hB, kk⟩
      have hi := (List.getElem?_eq_some_iff.mp hx).1
      have hll := h2.length_eq
      rw [List.length_append] at hll
      refine ⟨rfl, _, rfl, .inl ⟨rfl, _, SqL.of hL⟩, ?_⟩
      refine ⟨_, rfl, _, rfl, l, _, rfl, .inl (SqL.of hL), c, _, rfl, hB.1, by omega, by omega, fun r H4 r0 r1 hB4 k4 => ?_⟩
      have hL4 := k4 _ _ hL nl2.1
      have hD4 := k4 _ _ hD nD2.1
      have hb4 := hB.kp k4 hB4
      have hr : r.toNat < left.length := by omega
      have hg : left[r.toNat]? = some (left[r.toNat]) := List.getElem?_eq_getElem hr
      have hp := pop_perm hr
      generalize left[r.toNat] = y at *
      refine ⟨l, left, r, r.toNat, y, rfl, rfl, hL4, by omega, by omega, PyProof.Rows.seqIndex_at r0 (by omega), hg, ?_⟩
      have k5 : KpG c H (upd H4 l (.lst (left.eraseIdx r.toNat))) := KpG.put nl H4 (kk.then k4) nl2.1
      have hb5 := hb4.put (o := .lst (left.eraseIdx r.toNat)) nl2.1 nl2.2
      have hD5 : (upd H4 l (.lst (left.eraseIdx r.toNat))) D = some (.lst ys) := by
        rw [upd_ne hDl]
        exact hD4
      have hL5 : (upd H4 l (.lst (left.eraseIdx r.toNat))) l = some (.lst (left.eraseIdx r.toNat)) := upd_same
      generalize upd H4 l (.lst (left.eraseIdx r.toNat)) = H5 at *
      refine ⟨_, hD5, small1000 (by omega), ys ++ [y], left.eraseIdx r.toNat, by rw [List.length_append, h1]; rfl, ?_, ?_, upd_same, hb5.put nD2.1 nD2.2, KpG.put nHD H5 k5 nD2.1⟩
      · rw [List.append_assoc]
        exact (hp.append_left ys).trans h2
      · rw [upd_ne hDl.symm]
        exact hL5
    · rintro H' ⟨ys, left, h1, h2, hL, hD, hB, kk⟩
      have hll := h2.length_eq
      rw [List.length_append] at hll
      have hl0 : left = [] := List.length_eq_zero_iff.mp (by omega)
      subst hl0
      rw [List.append_nil] at h2
      exact q D ys H' nHD hD h2 hB.1 kk
theorem ok_law_far (T : Tops K mg) (D_law_get : DefOk P w K mg base 1 "_law_get" ps__law_get spGet) : DefOk P w K mg base 2 "_law_far" ps__law_far spFar := by
  refine T.d_law_far.ok sc__law_far (fun vs H Q E h => ?_) (fun f cdv A outer s H vs Q E hr h => ?_)
  · obtain ⟨a, c, rfl, _⟩ := h
    rfl
  · obtain ⟨b, k, rfl, hB, hk, q⟩ := h
    refine ⟨_, (pss_cons (ps_set (i := 2) sc__law_far.nd rfl (.inl rfl) pe_int) (pss_cons (ps_for PassesOwn.never rfl (pi_range1 rfl T.m_range (pa_cons (pv 1) pa_nil)) (pg_name (i := 3) sc__law_far.nd rfl (.inl rfl)) (pss_one (ps_set (i := 2) sc__law_far.nd rfl (.inl rfl) (pe_op op_add (pe_op op_mulA (pv 2) pe_int) (pe_callD D_law_get hr (by decide) (by rfl) (pa_cons (pv 0) (pa_cons pe_int pa_nil))))))) (pss_one (ps_ret (pv 2))))), ?_⟩
    refine ⟨_, rfl, (k : Int), rfl, by omega, by omega, for_range (lo := 0) (n := k) (fun i σ H' => ∃ (r : Int) (v3 : Option V), σ = [some (.ref b), some (.int k), some (.int r), v3] ∧ 0 ≤ r ∧ r < 1000 ^ i ∧ Bag H' b ∧ Kp b H H') ⟨0, none, rfl, by decide, by decide, hB, Kp.refl _ _⟩ ?_ ?_⟩
    · rintro i σ H1 hi ⟨r, v3, rfl, h0, h1, hB1, k1⟩
      repeat (walk_at "rd")
      refine ⟨b, 1000, rfl, hB1, by decide, by decide, fun r' H2 h0' h1' hB2 k2 => ?_⟩
      refine ⟨_, _, rfl, rfl, _, _, rfl, ?_, ?_, hB2, k1.trans k2⟩
      · show 0 ≤ r * 1000 + r'
        omega
      · show r * 1000 + r' < 1000 ^ (i + 1)
        rw [Int.pow_succ]
        generalize (1000 : Int) ^ i = p at *
        omega
    · rintro σ H1 ⟨r, v3, rfl, h0, h1, hB1, k1⟩
      exact ⟨_, rfl, q r H1 h0 h1 hB1 k1⟩
theorem ok_law_same (T : Tops K mg)  : ∀ n, DefOk P w K mg base n "_law_same" ps__law_same (spSame K n)
  | 0 => defOk_none T.d_law_same fun vs H Q E z => by
    unfold spSame at z
    obtain ⟨_, _, d, _, _, _, h, _⟩ := z
    exact Bool.noConfusion h
  | n + 1 => by
    have D_law_same := ok_law_same T n
    refine T.d_law_same.ok sc__law_same (fun vs H Q E h => ?_) (fun f cdv A outer s H vs Q E hr h => ?_)
    · unfold spSame at h
      obtain ⟨_, _, _, rfl, _⟩ := h
      rfl
    · unfold spSame at h
      obtain ⟨v, u, d, rfl, hv, hu, hd, q⟩ := h
      refine ⟨_, (pss_cons (ps_if (pt_val (pe_callB call_isiI (by rfl) T.m_isinstance (by decide +kernel) (pa_cons (pv 1) (pa_cons (pe_bltn (v := V.ty "dict") (u := Value.type "dict") (by rfl) T.m_dict (by decide +kernel) rfl) pa_nil)))) (pss_cons ps_never (pss_one ps_never)) pss_nil) (pss_cons (ps_if (pt_val (pe_callB call_isiTI (by rfl) T.m_isinstance (by decide +kernel) (pa_cons (pv 1) (pa_cons (pe_tup (pa_cons (pe_bltn (v := V.ty "list") (u := Value.type "list") (by rfl) T.m_list (by decide +kernel) rfl) (pa_cons (pe_bltn (v := V.ty "tuple") (u := Value.type "tuple") (by rfl) T.m_tuple (by decide +kernel) rfl) pa_nil))) pa_nil)))) (pss_cons (ps_if (PW.pt (pw_or (pt_cmpR op_ne (pe_callB call_isiI (by rfl) T.m_isinstance (by decide +kernel) (pa_cons (pv 0) (pa_cons (pe_bltn (v := V.ty "tuple") (u := Value.type "tuple") (by rfl) T.m_tuple (by decide +kernel) rfl) pa_nil))) (pe_callB call_isiI (by rfl) T.m_isinstance (by decide +kernel) (pa_cons (pv 1) (pa_cons (pe_bltn (v := V.ty "tuple") (u := Value.type "tuple") (by rfl) T.m_tuple (by decide +kernel) rfl) pa_nil))) (nomark _)) (pw_or1 (pt_cmpR op_ne (pe_callB call_isiI (by rfl) T.m_isinstance (by decide +kernel) (pa_cons (pv 0) (pa_cons (pe_bltn (v := V.ty "list") (u := Value.type "list") (by rfl) T.m_list (by decide +kernel) rfl) pa_nil))) (pe_callB call_isiI (by rfl) T.m_isinstance (by decide +kernel) (pa_cons (pv 1) (pa_cons (pe_bltn (v := V.ty "list") (u := Value.type "list") (by rfl) T.m_list (by decide +kernel) rfl) pa_nil))) (nomark _))))) (pss_one (ps_ret pe_bl)) pss_nil) (pss_one (ps_ret (pe_and (pe_cmpR op_eq (pe_callB call_len_seq (by rfl) T.m_len PySem.boot_len (pa_cons (pv 0) pa_nil)) (pe_callB call_len_seq (by rfl) T.m_len PySem.boot_len (pa_cons (pv 1) pa_nil)) (nomark _)) (pe_one (pe_callB (cr_all rfl) (by rfl) T.m_all (by decide +kernel) (pa_cons (pe_lc (own := [("_law_one", 3), ("_law_other", 4)]) (g := gTup K 2 (gCons (gName 3) (gCons (gName 4) gNil))) (by rfl) sc__law_same.nd (RZ.pi_zipA (by rfl) T.m_zip (pa_cons (pv 0) (pa_cons (pv 1) pa_nil))) (blkOk_by (own := [("_law_one", 3), ("_law_other", 4)]) (N := ["_law_found", "_law_due", "_law_key_now", "_law_one", "_law_other"]) (sc := defScope s__law_same) (by decide +kernel)) (fun _ _ _ _ _ => (pg_tup rfl (pgs_cons (pg_name (i := 3) sc__law_same.nd rfl (.inl rfl)) (pgs_cons (pg_name (i := 4) sc__law_same.nd rfl (.inl rfl)) pgs_nil)))) (fun _ _ _ _ _ => pts_nil) (fun _ _ _ _ _ => (pe_callD D_law_same hr (Nat.le_refl _) (by rfl) (pa_cons (pv 3) (pa_cons (pv 4) pa_nil))))) pa_nil))))))) pss_nil) (pss_cons (ps_if (PW.pt (pw_or (pt_cmpR op_ne (pe_callB call_isiI (by rfl) T.m_isinstance (by decide +kernel) (pa_cons (pv 1) (pa_cons (pe_bltn (v := V.ty "bool") (u := Value.type "bool") (by rfl) T.m_bool (by decide +kernel) rfl) pa_nil))) (pe_callB call_isiI (by rfl) T.m_isinstance (by decide +kernel) (pa_cons (pv 0) (pa_cons (pe_bltn (v := V.ty "bool") (u := Value.type "bool") (by rfl) T.m_bool (by decide +kernel) rfl) pa_nil))) (nomark _)) (pw_or1 (pt_cmpR op_ne (pe_callB call_isiI (by rfl) T.m_isinstance (by decide +kernel) (pa_cons (pv 1) (pa_cons (pe_bltn (v := V.ty "str") (u := Value.type "str") (by rfl) T.m_str (by decide +kernel) rfl) pa_nil))) (pe_callB call_isiI (by rfl) T.m_isinstance (by decide +kernel) (pa_cons (pv 0) (pa_cons (pe_bltn (v := V.ty "str") (u := Value.type "str") (by rfl) T.m_str (by decide +kernel) rfl) pa_nil))) (nomark _))))) (pss_one (ps_ret pe_bl)) pss_nil) (pss_cons (ps_if (pt_cmpR op_ne (pe_callB call_isiI (by rfl) T.m_isinstance (by decide +kernel) (pa_cons (pv 1) (pa_cons (pe_bltn (v := V.ty "int") (u := Value.type "int") (by rfl) T.m_int (by decide +kernel) rfl) pa_nil))) (pe_callB call_isiI (by rfl) T.m_isinstance (by decide +kernel) (pa_cons (pv 0) (pa_cons (pe_bltn (v := V.ty "int") (u := Value.type "int") (by rfl) T.m_int (by decide +kernel) rfl) pa_nil))) (nomark _)) (pss_one (ps_ret pe_bl)) pss_nil) (pss_one (ps_ret (pe_and (pe_cmpR op_eq (pe_cmpR op_isN (pv 1) pe_non (nomark _)) (pe_cmpR op_isN (pv 0) pe_non (nomark _)) (nomark _)) (pe_one (pe_cmpR (op_eqD hr.units) (pv 0) (pv 1) (nomark _)))))))))), ?_⟩
      have nodict : kitB (tyN d) "dict" = some false := by
        cases d with
        | dict _ => exact Bool.noConfusion hd
        | none => exact (show kitB "NoneType" "dict" = some false by decide +kernel)
        | bool _ => exact (show kitB "bool" "dict" = some false by decide +kernel)
        | int _ => exact (show kitB "int" "dict" = some false by decide +kernel)
        | str _ => exact (show kitB "str" "dict" = some false by decide +kernel)
        | list _ => exact (show kitB "list" "dict" = some false by decide +kernel)
        | tuple _ => exact (show kitB "tuple" "dict" = some false by decide +kernel)
      refine ⟨_, rfl, isi_step _ "dict" false hu rfl nodict ⟨_, rfl, ?_⟩⟩
      have go : ∀ (t : String) (b c : Bool), tyN d = t → kitB t "list" = some b → kitB t "tuple" = some c → ∀ p, H p = none → ∀ (R : VK), R (.bl (b || c)) (upd H p (.tup [.ty "list", .ty "tuple"])) → rIsiTI K [u, .ref p] (upd H p (.tup [.ty "list", .ty "tuple"])) R :=
        fun t b c ht hb hc p np R q => isiT_step (Dp.mono (same_new np) _ _ hu) ht upd_same hb hc q
      refine ⟨_, rfl, (show 2 ≤ sizeLine by decide), fun p np => ?_⟩
      have s1 : Same H (upd H p (.tup [.ty "list", .ty "tuple"])) := same_new np
      have hv1 := Dp.mono s1 _ _ hv
      have hu1 := Dp.mono s1 _ _ hu
      cases d with
      | none =>
        refine go "NoneType" false false rfl (by decide +kernel) (by decide +kernel) p np _ ⟨_, rfl, ?_⟩
        refine ⟨_, rfl, isi_step "NoneType" "bool" false hu1 rfl (by decide +kernel) ⟨_, rfl, isi_step "NoneType" "bool" false hv1 rfl (by decide +kernel) ⟨rfl, _, rfl, iteNS rfl ?_⟩⟩⟩
        refine ⟨_, rfl, isi_step "NoneType" "str" false hu1 rfl (by decide +kernel) ⟨_, rfl, isi_step "NoneType" "str" false hv1 rfl (by decide +kernel) ⟨rfl, _, rfl, iteNS rfl ?_⟩⟩⟩
        refine ⟨_, rfl, isi_step "NoneType" "int" false hu1 rfl (by decide +kernel) ⟨_, rfl, isi_step "NoneType" "int" false hv1 rfl (by decide +kernel) ⟨rfl, _, rfl, iteNS rfl ?_⟩⟩⟩
        refine ⟨_, rfl, rfl, _, rfl, rfl, rfl, true, congrArg V.bl (decide_eq_true (by cases hv; cases hu; rfl)), ?_⟩
        refine ⟨_, rfl, _, rfl, _, _, hv1, hu1, rfl, rfl, q _ _ s1 (congrArg V.bl (show _ = true from rfl))⟩
      | bool b =>
        refine go "bool" false false rfl (by decide +kernel) (by decide +kernel) p np _ ⟨_, rfl, ?_⟩
        refine ⟨_, rfl, isi_step "bool" "bool" true hu1 rfl (by decide +kernel) ⟨_, rfl, isi_step "bool" "bool" true hv1 rfl (by decide +kernel) ⟨rfl, _, rfl, iteNS rfl ?_⟩⟩⟩
        refine ⟨_, rfl, isi_step "bool" "str" false hu1 rfl (by decide +kernel) ⟨_, rfl, isi_step "bool" "str" false hv1 rfl (by decide +kernel) ⟨rfl, _, rfl, iteNS rfl ?_⟩⟩⟩
        refine ⟨_, rfl, isi_step "bool" "int" true hu1 rfl (by decide +kernel) ⟨_, rfl, isi_step "bool" "int" true hv1 rfl (by decide +kernel) ⟨rfl, _, rfl, iteNS rfl ?_⟩⟩⟩
        refine ⟨_, rfl, rfl, _, rfl, rfl, rfl, true, congrArg V.bl (decide_eq_true (by cases hv; cases hu; rfl)), ?_⟩
        refine ⟨_, rfl, _, rfl, _, _, hv1, hu1, rfl, rfl, q _ _ s1 (congrArg V.bl (show _ = true from by cases b <;> rfl))⟩
      | int i =>
        refine go "int" false false rfl (by decide +kernel) (by decide +kernel) p np _ ⟨_, rfl, ?_⟩
        refine ⟨_, rfl, isi_step "int" "bool" false hu1 rfl (by decide +kernel) ⟨_, rfl, isi_step "int" "bool" false hv1 rfl (by decide +kernel) ⟨rfl, _, rfl, iteNS rfl ?_⟩⟩⟩
        refine ⟨_, rfl, isi_step "int" "str" false hu1 rfl (by decide +kernel) ⟨_, rfl, isi_step "int" "str" false hv1 rfl (by decide +kernel) ⟨rfl, _, rfl, iteNS rfl ?_⟩⟩⟩
        refine ⟨_, rfl, isi_step "int" "int" true hu1 rfl (by decide +kernel) ⟨_, rfl, isi_step "int" "int" true hv1 rfl (by decide +kernel) ⟨rfl, _, rfl, iteNS rfl ?_⟩⟩⟩
        refine ⟨_, rfl, rfl, _, rfl, rfl, rfl, true, congrArg V.bl (decide_eq_true (by cases hv; cases hu; rfl)), ?_⟩
        refine ⟨_, rfl, _, rfl, _, _, hv1, hu1, rfl, rfl, q _ _ s1 (congrArg V.bl (show _ = true from beq_self_eq_true i))⟩
      | str x =>
        refine go "str" false false rfl (by decide +kernel) (by decide +kernel) p np _ ⟨_, rfl, ?_⟩
        refine ⟨_, rfl, isi_step "str" "bool" false hu1 rfl (by decide +kernel) ⟨_, rfl, isi_step "str" "bool" false hv1 rfl (by decide +kernel) ⟨rfl, _, rfl, iteNS rfl ?_⟩⟩⟩
        refine ⟨_, rfl, isi_step "str" "str" true hu1 rfl (by decide +kernel) ⟨_, rfl, isi_step "str" "str" true hv1 rfl (by decide +kernel) ⟨rfl, _, rfl, iteNS rfl ?_⟩⟩⟩
        refine ⟨_, rfl, isi_step "str" "int" false hu1 rfl (by decide +kernel) ⟨_, rfl, isi_step "str" "int" false hv1 rfl (by decide +kernel) ⟨rfl, _, rfl, iteNS rfl ?_⟩⟩⟩
        refine ⟨_, rfl, rfl, _, rfl, rfl, rfl, true, congrArg V.bl (decide_eq_true (by cases hv; cases hu; rfl)), ?_⟩
        refine ⟨_, rfl, _, rfl, _, _, hv1, hu1, hd, hd, q _ _ s1 (congrArg V.bl (show _ = true from beq_self_eq_true x))⟩
      | list ds =>
        have hd2 : ds.length ≤ 1000 ∧ ∀ e ∈ ds, dle n e = true := by
          have h := hd
          simp only [dle, Bool.and_eq_true, decide_eq_true_eq, List.all_eq_true] at h
          exact h
        refine go "list" true false rfl (by decide +kernel) (by decide +kernel) p np _ ⟨_, rfl, ?_⟩
        refine ⟨_, rfl, isi_step "list" "tuple" false hv1 rfl (by decide +kernel) ⟨_, rfl, isi_step "list" "tuple" false hu1 rfl (by decide +kernel) ⟨rfl, _, rfl, iteNS rfl ?_⟩⟩⟩
        refine ⟨_, rfl, isi_step "list" "list" true hv1 rfl (by decide +kernel) ⟨_, rfl, isi_step "list" "list" true hu1 rfl (by decide +kernel) ⟨rfl, _, rfl, iteNS rfl ?_⟩⟩⟩
        cases hv1 with
        | @lst a xs _ ha hxs =>
        cases hu1 with
        | @lst b ys _ hb hys =>
        have lx := dpAll_len hxs
        have ly := dpAll_len hys
        refine ⟨_, rfl, a, xs, rfl, .inl ha, _, rfl, b, ys, rfl, .inl hb, rfl, true, congrArg V.bl (decide_eq_true (by rw [lx, ly])), ?_⟩
        refine ⟨_, rfl, _, rfl, a, b, xs, ys, rfl, .inl ⟨ha, hb, fun D nD => ?_⟩⟩
        refine ⟨fun i m H' => i + m = ds.length ∧ Same (upd H p (.tup [.ty "list", .ty "tuple"])) H' ∧ H' D = some (.lst ((List.replicate i true).map V.bl)), ⟨ds.length, by omega, same_new nD, upd_same⟩, ?_⟩
        rintro i m H' ⟨him, sH, hD⟩
        have ha' := seqL_same sH ha
        have hb' := seqL_same sH hb
        by_cases hi : i < ds.length
        · refine .inr ⟨⟨xs, ys, xs[i], ys[i], ha', hb', List.getElem?_eq_getElem (by omega), List.getElem?_eq_getElem (by omega)⟩, fun H2 => (i + 1) + (m - 1) = ds.length ∧ Same (upd H p (.tup [.ty "list", .ty "tuple"])) H2 ∧ H2 D = some (.lst ((List.replicate (i + 1) true).map V.bl)), fun H2 z => ⟨m - 1, by omega, z⟩, ?_⟩
          rintro z H2 ⟨t, x, y, rfl, nt, rfl, hx, hy⟩
          have hx := hx xs ha'
          have hy := hy ys hb'
          obtain ⟨e, he, hxe⟩ := dpAll_get hxs hx
          obtain ⟨e', he', hye⟩ := dpAll_get hys hy
          rw [he] at he'
          cases he'
          have s2 : Same (upd H p (.tup [.ty "list", .ty "tuple"])) (upd H' t (.tup [x, y])) := sH.trans (same_new nt)
          have ntD : D ≠ t := ne_of_none hD nt
          refine ⟨t, [x, y], rfl, SqT.of upd_same, rfl, x, [y], rfl, y, [], rfl, rfl, rfl, ?_⟩
          refine ⟨_, rfl, _, rfl, same_step (Dp.mono s2 _ _ hxe) (Dp.mono s2 _ _ hye) (hd2.2 e (List.mem_of_getElem? he)) fun H3 s3 => ?_⟩
          have hD3 : H3 D = some (.lst ((List.replicate i true).map V.bl)) := s3 _ _ (by rw [upd_ne ntD]; exact hD)
          refine ⟨_, hD3, ?_, by omega, ?_, ?_⟩
          · rw [List.length_map, List.length_replicate]
            exact small1000 (by omega)
          · intro b o hbo
            have hbD : b ≠ D := ne_of_none hbo nD
            rw [upd_ne hbD]
            exact s3 _ _ (s2 _ _ hbo)
          · rw [upd_same, List.replicate_succ', List.map_append]
            rfl
        · refine .inl ⟨⟨xs, ys, ha', hb', .inl (by omega)⟩, ?_⟩
          have ei : i = ds.length := by omega
          refine ⟨D, List.replicate i true, rfl, SqL.of hD, q _ _ (s1.trans sH) ?_⟩
          rw [show (List.replicate i true).all id = true from List.all_eq_true.mpr fun b hb => List.eq_of_mem_replicate hb]
      | tuple ds =>
        have hd2 : ds.length ≤ 1000 ∧ ∀ e ∈ ds, dle n e = true := by
          have h := hd
          simp only [dle, Bool.and_eq_true, decide_eq_true_eq, List.all_eq_true] at h
          exact h
        refine go "tuple" false true rfl (by decide +kernel) (by decide +kernel) p np _ ⟨_, rfl, ?_⟩
        refine ⟨_, rfl, isi_step "tuple" "tuple" true hv1 rfl (by decide +kernel) ⟨_, rfl, isi_step "tuple" "tuple" true hu1 rfl (by decide +kernel) ⟨rfl, _, rfl, iteNS rfl ?_⟩⟩⟩
        refine ⟨_, rfl, isi_step "tuple" "list" false hv1 rfl (by decide +kernel) ⟨_, rfl, isi_step "tuple" "list" false hu1 rfl (by decide +kernel) ⟨rfl, _, rfl, iteNS rfl ?_⟩⟩⟩
        cases hv1 with
        | @tup a xs _ ha hxs =>
        cases hu1 with
        | @tup b ys _ hb hys =>
        have lx := dpAll_len hxs
        have ly := dpAll_len hys
        refine ⟨_, rfl, a, xs, rfl, .inr ha, _, rfl, b, ys, rfl, .inr hb, rfl, true, congrArg V.bl (decide_eq_true (by rw [lx, ly])), ?_⟩
        refine ⟨_, rfl, _, rfl, a, b, xs, ys, rfl, .inr ⟨ha, hb, fun D nD => ?_⟩⟩
        refine ⟨fun i m H' => i + m = ds.length ∧ Same (upd H p (.tup [.ty "list", .ty "tuple"])) H' ∧ H' D = some (.lst ((List.replicate i true).map V.bl)), ⟨ds.length, by omega, same_new nD, upd_same⟩, ?_⟩
        rintro i m H' ⟨him, sH, hD⟩
        have ha' := seqT_same sH ha
        have hb' := seqT_same sH hb
        by_cases hi : i < ds.length
        · refine .inr ⟨⟨xs, ys, xs[i], ys[i], ha', hb', List.getElem?_eq_getElem (by omega), List.getElem?_eq_getElem (by omega)⟩, fun H2 => (i + 1) + (m - 1) = ds.length ∧ Same (upd H p (.tup [.ty "list", .ty "tuple"])) H2 ∧ H2 D = some (.lst ((List.replicate (i + 1) true).map V.bl)), fun H2 z => ⟨m - 1, by omega, z⟩, ?_⟩
          rintro z H2 ⟨t, x, y, rfl, nt, rfl, hx, hy⟩
          have hx := hx xs ha'
          have hy := hy ys hb'
          obtain ⟨e, he, hxe⟩ := dpAll_get hxs hx
          obtain ⟨e', he', hye⟩ := dpAll_get hys hy
          rw [he] at he'
          cases he'
          have s2 : Same (upd H p (.tup [.ty "list", .ty "tuple"])) (upd H' t (.tup [x, y])) := sH.trans (same_new nt)
          have ntD : D ≠ t := ne_of_none hD nt
          refine ⟨t, [x, y], rfl, SqT.of upd_same, rfl, x, [y], rfl, y, [], rfl, rfl, rfl, ?_⟩
          refine ⟨_, rfl, _, rfl, same_step (Dp.mono s2 _ _ hxe) (Dp.mono s2 _ _ hye) (hd2.2 e (List.mem_of_getElem? he)) fun H3 s3 => ?_⟩
          have hD3 : H3 D = some (.lst ((List.replicate i true).map V.bl)) := s3 _ _ (by rw [upd_ne ntD]; exact hD)
          refine ⟨_, hD3, ?_, by omega, ?_, ?_⟩
          · rw [List.length_map, List.length_replicate]
            exact small1000 (by omega)
          · intro b o hbo
            have hbD : b ≠ D := ne_of_none hbo nD
            rw [upd_ne hbD]
            exact s3 _ _ (s2 _ _ hbo)
          · rw [upd_same, List.replicate_succ', List.map_append]
            rfl
        · refine .inl ⟨⟨xs, ys, ha', hb', .inl (by omega)⟩, ?_⟩
          have ei : i = ds.length := by omega
          refine ⟨D, List.replicate i true, rfl, SqL.of hD, q _ _ (s1.trans sH) ?_⟩
          rw [show (List.replicate i true).all id = true from List.all_eq_true.mpr fun b hb => List.eq_of_mem_replicate hb]
      | dict kvs => exact Bool.noConfusion hd
theorem ok_law_gcd (T : Tops K mg)  : DefOk P w K mg base 1 "_law_gcd" ps__law_gcd spGcd := by
  refine T.d_law_gcd.ok sc__law_gcd (fun vs H Q E h => ?_) (fun f cdv A outer s H vs Q E hr h => ?_)
  · obtain ⟨a, c, rfl, _⟩ := h
    rfl
  · obtain ⟨a, c, rfl, ha, hc, q⟩ := h
    refine ⟨_, (pss_cons (ps_while PassesOwn.never (pt_cmpR op_gt (pv 1) pe_int (nomark _)) (pss_one (ps_par (i := 0) (j := 1) (by rfl) sc__law_gcd.nd rfl rfl (by decide) rfl rfl (pa_cons (pv 1) (pa_cons (pe_op op_mod (pv 0) (pv 1)) pa_nil)) (by rfl)))) (pss_one (ps_ret (pv 0)))), ?_⟩
    refine ⟨fun m σ H' => H' = H ∧ ∃ x y : Int, σ = [some (.int x), some (.int y)] ∧ 0 ≤ x ∧ 0 ≤ y ∧ Int.gcd x y = Int.gcd a c ∧ m = y.toNat, ⟨_, rfl, a, c, rfl, ha, hc, rfl, rfl⟩, ?_⟩
    rintro m σ H' ⟨rfl, x, y, rfl, hx, hy, hg, hm⟩
    refine ⟨_, rfl, _, _, rfl, rfl, _, rfl, ?_⟩
    refine ite2 (fun hd => ?_) (fun hd => ?_)
    · have hy0 : 0 < y := of_decide_eq_true hd
      refine ⟨fun σ' H'' => H'' = H' ∧ ∃ x' y' : Int, σ' = [some (.int x'), some (.int y')] ∧ 0 ≤ x' ∧ 0 ≤ y' ∧ Int.gcd x' y' = Int.gcd a c ∧ y'.toNat < m, fun σ' H'' h => ?_, ?_⟩
      · obtain ⟨rfl, x', y', rfl, h1, h2, h3, h4⟩ := h
        exact ⟨_, h4, rfl, x', y', rfl, h1, h2, h3, rfl⟩
      · refine ⟨_, rfl, _, rfl, _, rfl, _, _, rfl, rfl, hy0, _, _, rfl, rfl, y, x % y, rfl, hy, Int.emod_nonneg x (by omega), ?_, ?_⟩
        · rw [← hg, gcd_step]
        · have := Int.emod_lt_of_pos x hy0
          have := Int.emod_nonneg x (show y ≠ 0 by omega)
          omega
    · have hy0 : y = 0 := by
        have : ¬ 0 < y := fun z => hd (decide_eq_true z)
        omega
      subst hy0
      refine ⟨_, rfl, ?_⟩
      have e : ((Int.gcd a c : Nat) : Int) = x := by
        rw [← hg, Int.gcd_zero_right]
        omega
      rw [e] at q
      exact q
theorem ok_law_part (T : Tops K mg) (D_law_gcd : DefOk P w K mg base 1 "_law_gcd" ps__law_gcd spGcd) : DefOk P w K mg base 2 "_law_part" ps__law_part (spPart K) := by
  refine T.d_law_part.ok sc__law_part (fun vs H Q E h => ?_) (fun f cdv A outer s H vs Q E hr h => ?_)
  · obtain ⟨a, c, rfl, _⟩ := h
    rfl
  · obtain ⟨a, c, rfl, hc0, ha, hc, q⟩ := h
    refine ⟨_, (C8.pss_cut (ps_if (pt_cmpR op_lt (pv 1) pe_int (nomark _)) (pss_one (ps_par (i := 0) (j := 1) (by rfl) sc__law_part.nd rfl rfl (by decide) rfl rfl (pa_cons (pe_op op_sub pe_int (pv 0)) (pa_cons (pe_op op_sub pe_int (pv 1)) pa_nil)) (by rfl))) pss_nil) (pss_cons (ps_set (i := 2) sc__law_part.nd rfl (.inl rfl) (pe_callD D_law_gcd hr (by decide) (by rfl) (pa_cons (pe_callB call_abs (by rfl) T.m_abs (by decide +kernel) (pa_cons (pv 0) pa_nil)) (pa_cons (pv 1) pa_nil)))) (pss_one (ps_ret (pe_tup (pa_cons (pe_op op_fdivA (pv 0) (pv 2)) (pa_cons (pe_op op_fdivA (pv 1) (pv 2)) pa_nil))))))), ?_⟩
    refine ⟨fun σ' H' => H' = H ∧ ∃ a' c' : Int, σ' = [some (.int a'), some (.int c'), none] ∧ 0 < c' ∧ Rat.divInt a' c' = Rat.divInt a c ∧ a'.natAbs = a.natAbs ∧ c'.natAbs = c.natAbs, ?_, ?_⟩
    · repeat (walk_at "rd")
      refine iteD (fun hd => ?_) (fun hd => ?_)
      · refine ⟨_, rfl, _, _, rfl, rfl, _, rfl, _, _, rfl, rfl, _, _, rfl, rfl, 0 - a, 0 - c, rfl, by omega, ?_, by omega, by omega⟩
        rw [Int.zero_sub, Int.zero_sub, Rat.neg_divInt_neg]
      · exact ⟨rfl, a, c, rfl, by omega, rfl, rfl, rfl⟩
    · rintro σ' H' ⟨rfl, a', c', rfl, hc', he, ea, ec⟩
      refine ⟨_, rfl, _, rfl, _, rfl, _, c', rfl, ?_, by omega, ?_⟩
      · split <;> omega
      have eg : Int.gcd (if a' < 0 then -a' else a') c' = Int.gcd a' c' := by
        split
        · rw [Int.neg_gcd]
        · rfl
      rw [eg]
      have g0 : (0 : Int) < ((Int.gcd a' c' : Nat) : Int) := by
        have := Int.gcd_pos_of_ne_zero_right a' (show c' ≠ 0 by omega)
        omega
      have g1 : ((Int.gcd a' c' : Nat) : Int) ≤ c' := Int.gcd_le_right a' hc'
      have gw : CDivA a' ((Int.gcd a' c' : Nat) : Int) := ⟨by omega, Nat.lt_of_le_of_lt (show _ ≤ c.natAbs by omega) (pow_mono_lt hc (by decide))⟩
      obtain ⟨e1, e2⟩ := divInt_num_eq (a := a') hc'
      refine ⟨_, rfl, _, rfl, _, _, rfl, rfl, gw, _, rfl, _, rfl, _, _, rfl, rfl, gw, (show 2 ≤ sizeLine by decide), fun p np => ?_⟩
      refine q _ _ (same_new np) (PtV.new ?_ ?_)
      · rw [← he, e1, Int.fdiv_eq_ediv_of_nonneg a' (by omega)]
      · rw [← he, e2, Int.fdiv_eq_ediv_of_nonneg c' (by omega)]
theorem ok_law_plus (T : Tops K mg) (D_law_part : DefOk P w K mg base 2 "_law_part" ps__law_part (spPart K)) : DefOk P w K mg base 3 "_law_plus" ps__law_plus (spTwo K (fun _ _ => True) fun x y => x + y) := by
  refine T.d_law_plus.ok sc__law_plus (fun vs H Q E h => ?_) (fun f cdv A outer s H vs Q E hr h => ?_)
  · unfold spTwo at h
    obtain ⟨_, _, _, _, rfl, _⟩ := h
    rfl
  · unfold spTwo at h
    obtain ⟨v, u, x, y, rfl, ⟨a, rfl, ha⟩, ⟨b, rfl, hb⟩, sx, sy, _, q⟩ := h
    refine ⟨_, (pss_one (ps_ret (pe_callD D_law_part hr (by decide) (by rfl) (pa_cons (pe_op op_add (pe_op op_mulA (pe_ix ix_tup (pv 0) pe_int (fun _ _ => rfl)) (pe_ix ix_tup (pv 1) pe_int (fun _ _ => rfl))) (pe_op op_mulA (pe_ix ix_tup (pv 1) pe_int (fun _ _ => rfl)) (pe_ix ix_tup (pv 0) pe_int (fun _ _ => rfl)))) (pa_cons (pe_op op_mulA (pe_ix ix_tup (pv 0) pe_int (fun _ _ => rfl)) (pe_ix ix_tup (pv 1) pe_int (fun _ _ => rfl))) pa_nil))))), ?_⟩
    obtain ⟨x1, x2⟩ := sz_abs sx
    obtain ⟨y1, y2⟩ := sz_abs sy
    repeat (walk_at "rd")
    refine ⟨_, _, rfl, Int.ne_of_gt (Int.mul_pos (den_pos x) (den_pos y)), pow_mono_lt (natAbs_add_lt (natAbs_mul_lt x1 y2) (natAbs_mul_lt y1 x2)) (by decide), pow_mono_lt (natAbs_mul_lt x2 y2) (by decide), fun v H' s hv => q v H' s ?_⟩
    rw [dv_add] at hv
    exact hv
theorem ok_law_minus (T : Tops K mg) (D_law_part : DefOk P w K mg base 2 "_law_part" ps__law_part (spPart K)) : DefOk P w K mg base 3 "_law_minus" ps__law_minus (spTwo K (fun _ _ => True) fun x y => x - y) := by
  refine T.d_law_minus.ok sc__law_minus (fun vs H Q E h => ?_) (fun f cdv A outer s H vs Q E hr h => ?_)
  · unfold spTwo at h
    obtain ⟨_, _, _, _, rfl, _⟩ := h
    rfl
  · unfold spTwo at h
    obtain ⟨v, u, x, y, rfl, ⟨a, rfl, ha⟩, ⟨b, rfl, hb⟩, sx, sy, _, q⟩ := h
    refine ⟨_, (pss_one (ps_ret (pe_callD D_law_part hr (by decide) (by rfl) (pa_cons (pe_op op_sub (pe_op op_mulA (pe_ix ix_tup (pv 0) pe_int (fun _ _ => rfl)) (pe_ix ix_tup (pv 1) pe_int (fun _ _ => rfl))) (pe_op op_mulA (pe_ix ix_tup (pv 1) pe_int (fun _ _ => rfl)) (pe_ix ix_tup (pv 0) pe_int (fun _ _ => rfl)))) (pa_cons (pe_op op_mulA (pe_ix ix_tup (pv 0) pe_int (fun _ _ => rfl)) (pe_ix ix_tup (pv 1) pe_int (fun _ _ => rfl))) pa_nil))))), ?_⟩
    obtain ⟨x1, x2⟩ := sz_abs sx
    obtain ⟨y1, y2⟩ := sz_abs sy
    repeat (walk_at "rd")
    refine ⟨_, _, rfl, Int.ne_of_gt (Int.mul_pos (den_pos x) (den_pos y)), pow_mono_lt (natAbs_sub_lt (natAbs_mul_lt x1 y2) (natAbs_mul_lt y1 x2)) (by decide), pow_mono_lt (natAbs_mul_lt x2 y2) (by decide), fun v H' s hv => q v H' s ?_⟩
    rw [dv_sub] at hv
    exact hv
theorem ok_law_times (T : Tops K mg) (D_law_part : DefOk P w K mg base 2 "_law_part" ps__law_part (spPart K)) : DefOk P w K mg base 3 "_law_times" ps__law_times (spTwo K (fun _ _ => True) fun x y => x * y) := by
  refine T.d_law_times.ok sc__law_times (fun vs H Q E h => ?_) (fun f cdv A outer s H vs Q E hr h => ?_)
  · unfold spTwo at h
    obtain ⟨_, _, _, _, rfl, _⟩ := h
    rfl
  · unfold spTwo at h
    obtain ⟨v, u, x, y, rfl, ⟨a, rfl, ha⟩, ⟨b, rfl, hb⟩, sx, sy, _, q⟩ := h
    refine ⟨_, (pss_one (ps_ret (pe_callD D_law_part hr (by decide) (by rfl) (pa_cons (pe_op op_mulA (pe_ix ix_tup (pv 0) pe_int (fun _ _ => rfl)) (pe_ix ix_tup (pv 1) pe_int (fun _ _ => rfl))) (pa_cons (pe_op op_mulA (pe_ix ix_tup (pv 0) pe_int (fun _ _ => rfl)) (pe_ix ix_tup (pv 1) pe_int (fun _ _ => rfl))) pa_nil))))), ?_⟩
    obtain ⟨x1, x2⟩ := sz_abs sx
    obtain ⟨y1, y2⟩ := sz_abs sy
    repeat (walk_at "rd")
    refine ⟨_, _, rfl, Int.ne_of_gt (Int.mul_pos (den_pos x) (den_pos y)), pow_mono_lt (natAbs_mul_lt x1 y1) (by decide), pow_mono_lt (natAbs_mul_lt x2 y2) (by decide), fun v H' s hv => q v H' s ?_⟩
    rw [dv_mul] at hv
    exact hv
theorem ok_law_less (T : Tops K mg)  : DefOk P w K mg base 1 "_law_less" ps__law_less (spLess K) := by
  refine T.d_law_less.ok sc__law_less (fun vs H Q E h => ?_) (fun f cdv A outer s H vs Q E hr h => ?_)
  · unfold spLess at h
    obtain ⟨_, _, _, _, rfl, _⟩ := h
    rfl
  · unfold spLess at h
    obtain ⟨v, u, x, y, rfl, ⟨a, rfl, ha⟩, ⟨b, rfl, hb⟩, sx, sy, q⟩ := h
    refine ⟨_, (pss_one (ps_ret (pe_cmpR op_lt (pe_op op_mulA (pe_ix ix_tup (pv 0) pe_int (fun _ _ => rfl)) (pe_ix ix_tup (pv 1) pe_int (fun _ _ => rfl))) (pe_op op_mulA (pe_ix ix_tup (pv 1) pe_int (fun _ _ => rfl)) (pe_ix ix_tup (pv 0) pe_int (fun _ _ => rfl))) (nomark _)))), ?_⟩
    obtain ⟨x1, x2⟩ := sz_abs sx
    obtain ⟨y1, y2⟩ := sz_abs sy
    repeat (walk_at "rd")
    have e : decide (x < y) = decide (x.num * y.den < y.num * x.den) := decide_eq_decide.mpr (Rat.lt_iff x y)
    refine q _ ?_
    rw [e]
theorem ok_law_number (T : Tops K mg) (D_law_get : DefOk P w K mg base 1 "_law_get" ps__law_get spGet) (D_law_far : DefOk P w K mg base 2 "_law_far" ps__law_far spFar) : DefOk P w K mg base 3 "_law_number" ps__law_number spNumber := by
  refine T.d_law_number.ok sc__law_number (fun vs H Q E h => ?_) (fun f cdv A outer s H vs Q E hr h => ?_)
  · obtain ⟨a, rfl, _⟩ := h
    rfl
  · obtain ⟨b, rfl, hB, q⟩ := h
    refine ⟨_, (pss_cons (ps_set (i := 1) sc__law_number.nd rfl (.inl rfl) (pe_callD D_law_get hr (by decide) (by rfl) (pa_cons (pv 0) (pa_cons pe_int pa_nil)))) (pss_cons (ps_if (pt_cmpR op_lt (pv 1) pe_int (nomark _)) (pss_one (ps_ret (pe_op op_sub (pe_callD D_law_get hr (by decide) (by rfl) (pa_cons (pv 0) (pa_cons pe_int pa_nil))) pe_int))) pss_nil) (pss_cons (ps_if (pt_cmpR op_eq (pv 1) pe_int (nomark _)) (pss_one (ps_ret (pe_op op_sub (pe_callD D_law_get hr (by decide) (by rfl) (pa_cons (pv 0) (pa_cons pe_int pa_nil))) pe_int))) pss_nil) (pss_one (ps_ret (pe_op op_mulA (pe_op op_add (pe_callD D_law_far hr (by decide) (by rfl) (pa_cons (pv 0) (pa_cons (pe_ix ix_list (pe_lst (pa_cons pe_int (pa_cons pe_int pa_nil))) (pe_op op_sub (pv 1) pe_int) (fun _ _ => rfl)) pa_nil))) pe_int) (pe_op op_sub pe_int (pe_op op_mulA pe_int (pe_callD D_law_get hr (by decide) (by rfl) (pa_cons (pv 0) (pa_cons pe_int pa_nil))))))))))), ?_⟩
    have small : ∀ r : Int, -1000 ≤ r → r ≤ 2000 → r.natAbs < 2 ^ 200 := fun r h1 h2 => Nat.lt_of_lt_of_le (show r.natAbs < 2 ^ 11 by omega) (Nat.pow_le_pow_right (by decide) (by decide))
    refine ⟨_, rfl, b, 5, rfl, hB, by decide, by decide, fun r H1 h0 h1 hB1 k1 => ?_⟩
    repeat (walk_at "rd")
    refine iteD (fun hd => ?_) (fun hd => ?_)
    · refine ⟨_, rfl, b, 9, rfl, hB1, by decide, by decide, fun r2 H2 h2 h3 hB2 k2 => ?_⟩
      refine ⟨_, _, rfl, rfl, q _ H2 (small _ (by omega) (by omega)) hB2 (k1.trans k2)⟩
    · refine ⟨_, rfl, rfl, _, rfl, ?_⟩
      refine iteD (fun hd2 => ?_) (fun hd2 => ?_)
      · refine ⟨_, rfl, b, 2001, rfl, hB1, by decide, by decide, fun r2 H2 h2 h3 hB2 k2 => ?_⟩
        refine ⟨_, _, rfl, rfl, q _ H2 (small _ (by omega) (by omega)) hB2 (k1.trans k2)⟩
      · have hr3 : r = 3 ∨ r = 4 := by
          have : ¬ r = 2 := fun z => hd2 (by rw [z])
          omega
        refine ⟨_, rfl, (show 2 ≤ sizeLine by decide), fun p np => ?_⟩
        have hBp := hB1.same (same_new (o := .lst [.int 3, .int 20]) np)
        refine ⟨_, rfl, _, _, rfl, rfl, ?_⟩
        rcases hr3 with rfl | rfl
        all_goals
          refine ⟨p, _, _, _, rfl, rfl, SqL.of upd_same, rfl, b, _, rfl, hBp, (by decide), fun r2 H2 h2 h3 hB2 k2 => ?_⟩
          refine ⟨_, _, rfl, rfl, _, rfl, b, 2, rfl, hB2, by decide, by decide, fun r3 H3 h4 h5 hB3 k3 => ?_⟩
          refine ⟨_, _, rfl, rfl, cmul_l ⟨by decide, by decide⟩, _, _, rfl, rfl, _, _, rfl, rfl, cmul_r ⟨by omega, by omega⟩, ?_⟩
          refine q _ H3 ?_ hB3 (k1.trans ((Kp.of (same_new np)).trans (k2.trans k3)))
          exact far_size h2 h3 (by decide) (by omega)
theorem ok_law_some_part (T : Tops K mg) (D_law_get : DefOk P w K mg base 1 "_law_get" ps__law_get spGet) (D_law_part : DefOk P w K mg base 2 "_law_part" ps__law_part (spPart K)) (D_law_number : DefOk P w K mg base 3 "_law_number" ps__law_number spNumber) : DefOk P w K mg base 4 "_law_some_part" ps__law_some_part (spSomePart K) := by
  refine T.d_law_some_part.ok sc__law_some_part (fun vs H Q E h => ?_) (fun f cdv A outer s H vs Q E hr h => ?_)
  · obtain ⟨a, rfl, _⟩ := h
    rfl
  · obtain ⟨b, rfl, hB, q⟩ := h
    refine ⟨_, (pss_cons (ps_set (i := 1) sc__law_some_part.nd rfl (.inl rfl) (pe_op op_add (pe_callB call_abs (by rfl) T.m_abs (by decide +kernel) (pa_cons (pe_callD D_law_number hr (by decide) (by rfl) (pa_cons (pv 0) pa_nil)) pa_nil)) pe_int)) (pss_one (ps_ret (pe_callD D_law_part hr (by decide) (by rfl) (pa_cons (pe_callD D_law_number hr (by decide) (by rfl) (pa_cons (pv 0) pa_nil)) (pa_cons (pe_ifExp (pt_cmpR op_gt (pe_callD D_law_get hr (by decide) (by rfl) (pa_cons (pv 0) (pa_cons pe_int pa_nil))) pe_int (nomark _)) (pv 1) pe_int) pa_nil)))))), ?_⟩
    refine ⟨_, rfl, b, rfl, hB, fun r H1 hr1 hB1 k1 => ?_⟩
    refine ⟨_, rfl, _, _, rfl, rfl, ?_⟩
    refine ⟨_, rfl, b, rfl, hB1, fun r2 H2 hr2 hB2 k2 => ?_⟩
    refine ⟨_, rfl, b, 3, rfl, hB2, by decide, by decide, fun r3 H3 h4 h5 hB3 k3 => ?_⟩
    have k := k1.trans (k2.trans k3.k0)
    have p201 : (2 : Nat) ^ 201 = 2 ^ 200 * 2 := by rw [← Nat.pow_succ]
    have p0 : 0 < (2 : Nat) ^ 200 := Nat.pow_pos (by decide)
    have b1 : (if r < 0 then -r else r) + 1 ≠ 0 ∧ ((if r < 0 then -r else r) + 1).natAbs < 2 ^ 201 := by
      rw [p201]
      generalize (2 : Nat) ^ 200 = N at *
      split <;> omega
    have b2 : r2.natAbs < 2 ^ 201 := pow_mono_lt hr2 (by decide)
    have b3 : (1 : Int) ≠ 0 ∧ (1 : Int).natAbs < 2 ^ 201 := ⟨by decide, by
      rw [p201]
      generalize (2 : Nat) ^ 200 = N at *
      omega⟩
    repeat (walk_at "rd")
    refine iteD (fun hd => ?_) (fun hd => ?_)
    · refine ⟨_, rfl, _, _, rfl, b1.1, pow_mono_lt b2 (by decide), pow_mono_lt b1.2 (by decide), fun v H4 s4 hv => ?_⟩
      exact q v _ H4 hv (size_divInt b1.1 b2 b1.2) (hB3.same s4) (k.trans (Kp.of s4))
    · refine ⟨_, _, rfl, b3.1, pow_mono_lt b2 (by decide), pow_mono_lt b3.2 (by decide), fun v H4 s4 hv => ?_⟩
      exact q v _ H4 hv (size_divInt b3.1 b2 b3.2) (hB3.same s4) (k.trans (Kp.of s4))
theorem ok_law_above (T : Tops K mg) (D_law_part : DefOk P w K mg base 2 "_law_part" ps__law_part (spPart K)) (D_law_some_part : DefOk P w K mg base 4 "_law_some_part" ps__law_some_part (spSomePart K)) : DefOk P w K mg base 5 "_law_above" ps__law_above (spAbove K) := by
  refine T.d_law_above.ok sc__law_above (fun vs H Q E h => ?_) (fun f cdv A outer s H vs Q E hr h => ?_)
  · unfold spAbove at h
    obtain ⟨_, rfl, _⟩ := h
    rfl
  · unfold spAbove at h
    obtain ⟨c, rfl, hC, q⟩ := h
    refine ⟨_, (pss_cons (ps_set (i := 1) sc__law_above.nd rfl (.inl rfl) (pe_callD D_law_some_part hr (by decide) (by rfl) (pa_cons (pv 0) pa_nil))) (pss_one (ps_ret (pe_callD D_law_part hr (by decide) (by rfl) (pa_cons (pe_op op_add (pe_callB call_abs (by rfl) T.m_abs (by decide +kernel) (pa_cons (pe_ix ix_tup (pv 1) pe_int (fun _ _ => rfl)) pa_nil)) pe_int) (pa_cons (pe_ix ix_tup (pv 1) pe_int (fun _ _ => rfl)) pa_nil)))))), ?_⟩
    refine ⟨_, rfl, c, rfl, hC, fun v x H1 hx sx hC1 k1 => ?_⟩
    obtain ⟨a, rfl, ha⟩ := hx
    obtain ⟨x1, x2⟩ := sz_abs sx
    refine ⟨_, rfl, a, _, _, _, rfl, rfl, ha, rfl, _, rfl, _, _, rfl, rfl, ?_⟩
    refine ⟨_, rfl, a, _, _, _, rfl, rfl, ha, rfl, ?_⟩
    have p202 : (2 : Nat) ^ 202 = 2 ^ 201 * 2 := by rw [← Nat.pow_succ]
    have e0 : 0 < (if x.num < 0 then -x.num else x.num) + 1 := by split <;> omega
    have e1 : ((if x.num < 0 then -x.num else x.num) + 1).natAbs < 2 ^ 202 := by
      rw [p202]
      have h1 := x1
      have h2 : 0 < (2 : Nat) ^ 201 := Nat.pow_pos (by decide)
      generalize (2 : Nat) ^ 201 = N at *
      split <;> omega
    have e2 : ((x.den : Nat) : Int).natAbs < 2 ^ 202 := pow_mono_lt x2 (by decide)
    have d0 : ((x.den : Nat) : Int) ≠ 0 := Int.ne_of_gt (den_pos x)
    refine ⟨_, _, rfl, d0, pow_mono_lt e1 (by decide), pow_mono_lt e2 (by decide), fun u H2 s2 hu => ?_⟩
    refine q u _ H2 hu ?_ (size_divInt d0 e1 e2) (hC1.same s2) (k1.trans (Kp.of s2))
    exact divInt_pos e0 (den_pos x)
theorem ok_law_plain_box (T : Tops K mg) (D_law_get : DefOk P w K mg base 1 "_law_get" ps__law_get spGet) (D_law_above : DefOk P w K mg base 5 "_law_above" ps__law_above (spAbove K)) : DefOk P w K mg base 6 "_law_plain_box" ps__law_plain_box (spPlainBox K) := by
  refine T.d_law_plain_box.ok sc__law_plain_box (fun vs H Q E h => ?_) (fun f cdv A outer s H vs Q E hr h => ?_)
  · unfold spPlainBox at h
    obtain ⟨_, rfl, _⟩ := h
    rfl
  · unfold spPlainBox at h
    obtain ⟨c, rfl, hC, q⟩ := h
    refine ⟨_, (pss_cons (ps_par (i := 1) (j := 2) (by rfl) sc__law_plain_box.nd rfl rfl (by decide) rfl rfl (pa_cons (pe_callD D_law_above hr (by decide) (by rfl) (pa_cons (pv 0) pa_nil)) (pa_cons (pe_callD D_law_above hr (by decide) (by rfl) (pa_cons (pv 0) pa_nil)) pa_nil)) (by rfl)) (C8.pss_cut (ps_if (pt_cmpR op_gt (pe_callD D_law_get hr (by decide) (by rfl) (pa_cons (pv 0) (pa_cons pe_int pa_nil))) pe_int (nomark _)) (pss_one (ps_par (i := 1) (j := 2) (by rfl) sc__law_plain_box.nd rfl rfl (by decide) rfl rfl (pa_cons (pe_tup (pa_cons (pe_op op_add pe_int (pe_callD D_law_get hr (by decide) (by rfl) (pa_cons (pv 0) (pa_cons pe_int pa_nil)))) (pa_cons pe_int pa_nil))) (pa_cons (pe_tup (pa_cons (pe_op op_add pe_int (pe_callD D_law_get hr (by decide) (by rfl) (pa_cons (pv 0) (pa_cons pe_int pa_nil)))) (pa_cons pe_int pa_nil))) pa_nil)) (by rfl))) pss_nil) (pss_one (ps_ret (pe_tup (pa_cons (pe_tup (pa_cons pe_int (pa_cons pe_int pa_nil))) (pa_cons (pe_tup (pa_cons pe_int (pa_cons pe_int pa_nil))) (pa_cons (pv 1) (pa_cons (pv 2) pa_nil))))))))), ?_⟩
    refine ⟨_, rfl, above_step hC fun v1 x1 H1 g1 p1 z1 hC1 k1 => ?_⟩
    refine ⟨_, rfl, above_step hC1 fun v2 x2 H2 g2 p2 z2 hC2 k2 => ?_⟩
    have g1 := g1.bag k2 hC1
    refine ⟨_, _, rfl, ?_⟩
    refine ⟨fun σ' H' => ∃ (u1 u2 : V) (y1 y2 : Rat), σ' = [some (.ref c), some u1, some u2] ∧ PtV K H' u1 y1 ∧ PtV K H' u2 y2 ∧ 0 < y1 ∧ 0 < y2 ∧ Sz 202 y1 ∧ Sz 202 y2 ∧ Bag H' c ∧ Kp c H H', ?_, ?_⟩
    · refine ⟨_, rfl, c, 3, rfl, hC2, by decide, by decide, fun r H3 h0 h1 hC3 k3 => ?_⟩
      have k13 : Kp c H H3 := k1.trans (k2.trans k3.k0)
      refine ⟨_, _, rfl, rfl, _, rfl, iteD (fun e => ?_) (fun e => ?_)⟩
      · refine ⟨_, rfl, c, 60, rfl, hC3, by decide, by decide, fun a H4 h2 h3 hC4 k4 => ⟨_, _, rfl, rfl, (show 2 ≤ sizeLine by decide), fun p np => ?_⟩⟩
        have s4 := same_new (o := .tup [.int (1 + a), .int 1]) np
        refine ⟨_, rfl, c, 60, rfl, hC4.same s4, by decide, by decide, fun b H5 h4 h5 hC5 k5 => ⟨_, _, rfl, rfl, (show 2 ≤ sizeLine by decide), fun p' np' => ?_⟩⟩
        have s6 := same_new (o := .tup [.int (1 + b), .int 1]) np'
        refine ⟨_, _, rfl, ?_⟩
        refine ⟨_, _, _, _, rfl, ((ptv_int np (1 + a)).bag k5.k0 (hC4.same s4)).same s6, ptv_int np' (1 + b), int_pos (by omega), int_pos (by omega), int_sz (by omega), int_sz (by omega), hC5.same s6, ?_⟩
        exact k13.trans (k4.k0.trans ((Kp.of s4).trans (k5.k0.trans (Kp.of s6))))
      · exact ⟨_, _, _, _, rfl, g1.bag k3.k0 hC2, g2.bag k3.k0 hC2, p1, p2, z1, z2, hC3, k13⟩
    rintro σ' H3 ⟨u1, u2, y1, y2, rfl, g1, g2, p1, p2, z1, z2, hC3, k3⟩
    refine ⟨(show 2 ≤ sizeLine by decide), fun q1 n1 => ?_⟩
    have s1 := same_new (o := .tup [.int 0, .int 1]) n1
    refine ⟨(show 2 ≤ sizeLine by decide), fun q2 n2 => ?_⟩
    have s2 := same_new (o := .tup [.int 0, .int 1]) n2
    refine ⟨_, rfl, _, rfl, (show 4 ≤ sizeLine by decide), fun q3 n3 => ?_⟩
    have s3 := same_new (o := .tup [.ref q1, .ref q2, u1, u2]) n3
    have e0 : PtV K (upd H3 q1 (.tup [.int 0, .int 1])) (.ref q1) 0 := PtV.new (q := 0) rfl rfl
    have e1 : PtV K (upd (upd H3 q1 (.tup [.int 0, .int 1])) q2 (.tup [.int 0, .int 1])) (.ref q2) 0 := PtV.new (q := 0) rfl rfl
    have z0 : Sz 202 (0 : Rat) := ⟨Nat.two_pow_pos _, Nat.one_lt_two_pow (by decide)⟩
    have s12 := s1.trans s2
    exact q _ ⟨0, 0, y1, y2⟩ _ (BxV.mk n3 (e0.same s2) e1 (g1.same s12) (g2.same s12)) ⟨p1, p2, z0, z0, z1, z2⟩ rfl rfl (hC3.same (s12.trans s3)) (k3.trans (Kp.of (s12.trans s3)))
theorem ok_law_weight (T : Tops K mg) (D_law_get : DefOk P w K mg base 1 "_law_get" ps__law_get spGet) : DefOk P w K mg base 2 "_law_weight" ps__law_weight spWeight := by
  refine T.d_law_weight.ok sc__law_weight (fun vs H Q E h => ?_) (fun f cdv A outer s H vs Q E hr h => ?_)
  · unfold spWeight at h
    obtain ⟨_, _, rfl, _⟩ := h
    rfl
  · unfold spWeight at h
    obtain ⟨c, k, rfl, hC, q⟩ := h
    refine ⟨_, (pss_cons (ps_if (pt_cmpR op_eq (pv 1) pe_int (nomark _)) (pss_one (ps_ret (pe_op op_add pe_int (pe_callD D_law_get hr (by decide) (by rfl) (pa_cons (pv 0) (pa_cons pe_int pa_nil)))))) pss_nil) (pss_cons (ps_if (pt_cmpR op_eq (pv 1) pe_int (nomark _)) (pss_one (ps_ret (pe_op op_add pe_int (pe_callD D_law_get hr (by decide) (by rfl) (pa_cons (pv 0) (pa_cons pe_int pa_nil)))))) pss_nil) (pss_cons (ps_if (pt_cmpR op_eq (pv 1) pe_int (nomark _)) (pss_one (ps_ret pe_int)) pss_nil) (pss_one (ps_ret (pe_ix ix_list (pe_lst (pa_cons pe_int (pa_cons pe_int (pa_cons pe_int (pa_cons pe_int (pa_cons pe_int pa_nil)))))) (pe_callD D_law_get hr (by decide) (by rfl) (pa_cons (pv 0) (pa_cons pe_int pa_nil))) (fun _ _ => rfl))))))), ?_⟩
    refine ⟨_, rfl, rfl, _, rfl, ?_⟩
    refine iteB (fun _ => ?_) (fun _ => ?_)
    · refine ⟨_, rfl, c, 5, rfl, hC, by decide, by decide, fun r H1 h0 h1 hC1 k1 => ⟨_, _, rfl, rfl, q _ H1 (by omega) (by omega) hC1 k1⟩⟩
    refine ⟨_, rfl, rfl, _, rfl, ?_⟩
    refine iteB (fun _ => ?_) (fun _ => ?_)
    · refine ⟨_, rfl, c, 400000, rfl, hC, by decide, by decide, fun r H1 h0 h1 hC1 k1 => ⟨_, _, rfl, rfl, q _ H1 (by omega) (by omega) hC1 k1⟩⟩
    refine ⟨_, rfl, rfl, _, rfl, ?_⟩
    refine iteB (fun _ => q _ H (by decide) (by decide) hC (Kp.refl _ _)) (fun _ => ?_)
    refine ⟨(show 5 ≤ sizeLine by decide), fun p np => ?_⟩
    have s1 : Same H (upd H p (.lst [.int 1, .int 400000, .int 399999, .int 2, .int 3000])) := same_new np
    have hC1 := hC.same s1
    have hpc : p ≠ c := fun z => by
      obtain ⟨ys, hy⟩ := hC.lst
      rw [z, hy] at np
      cases np
    refine ⟨_, rfl, c, 5, rfl, hC1, by decide, by decide, fun r H2 h0 h1 hC2 k2 => ?_⟩
    have hp : H2 p = some (.lst [.int 1, .int 400000, .int 399999, .int 2, .int 3000]) := k2 _ _ upd_same hpc
    have hr : r = 0 ∨ r = 1 ∨ r = 2 ∨ r = 3 ∨ r = 4 := by omega
    have kk := (Kp.of (b := c) s1).trans k2.k0
    rcases hr with rfl | rfl | rfl | rfl | rfl
    all_goals exact ⟨p, _, _, _, rfl, rfl, SqL.of hp, rfl, q _ H2 (by decide) (by decide) hC2 kk⟩
theorem ok_law_weights (T : Tops K mg) (D_law_get : DefOk P w K mg base 1 "_law_get" ps__law_get spGet) (D_law_weight : DefOk P w K mg base 2 "_law_weight" ps__law_weight spWeight) : DefOk P w K mg base 3 "_law_weights" ps__law_weights (spWeights K) := by
  refine T.d_law_weights.ok sc__law_weights (fun vs H Q E h => ?_) (fun f cdv A outer s H vs Q E hr h => ?_)
  · unfold spWeights at h
    obtain ⟨_, _, rfl, _⟩ := h
    rfl
  · unfold spWeights at h
    obtain ⟨c, m, rfl, hC, hm0, hm1, q⟩ := h
    refine ⟨_, (pss_cons (ps_asg (pe_tup (pa_cons (pe_op op_add pe_int (pe_callD D_law_get hr (by decide) (by rfl) (pa_cons (pv 0) (pa_cons (pv 1) pa_nil)))) (pa_cons (pe_callD D_law_get hr (by decide) (by rfl) (pa_cons (pv 0) (pa_cons pe_int pa_nil))) pa_nil))) (pg_tup rfl (pgs_cons (pg_name (i := 2) sc__law_weights.nd rfl (.inl rfl)) (pgs_cons (pg_name (i := 3) sc__law_weights.nd rfl (.inr rfl)) pgs_nil)))) (pss_one (ps_ret (pe_lc (own := [("_law_k", 4)]) (g := gName 4) (by rfl) sc__law_weights.nd (pi_range1 rfl T.m_range (pa_cons (pv 2) pa_nil)) (blkOk_by (own := [("_law_k", 4)]) (N := ["_law_bag_here", "_law_most", "_law_many", "_law_kind", "_law_k"]) (sc := defScope s__law_weights) (by decide +kernel)) (fun _ _ _ _ _ => (pg_name (i := 4) sc__law_weights.nd rfl (.inl rfl))) (fun _ _ _ _ _ => pts_nil) (fun _ _ _ _ _ => (pe_callD D_law_weight hr (by decide) (by rfl) (pa_cons (pv 0) (pa_cons (pe_ifExp (pt_cmpR op_lt (pv 3) pe_int (nomark _)) (pv 3) (pe_callD D_law_get hr (by decide) (by rfl) (pa_cons (pv 0) (pa_cons pe_int pa_nil)))) pa_nil)))))))), ?_⟩
    refine ⟨_, rfl, _, rfl, c, m, rfl, hC, by omega, by omega, fun r H1 h0 h1 hC1 k1 => ?_⟩
    refine ⟨_, _, rfl, rfl, _, rfl, c, 5, rfl, hC1, by decide, by decide, fun kd H2 h2 h3 hC2 k2 => ?_⟩
    refine ⟨(show 2 ≤ sizeLine by decide), fun p np => ?_⟩
    have hC3 := hC2.same (same_new (o := .tup [.int (1 + r), .int kd]) np)
    have k3 := k1.trans (k2.trans (Kp.of (same_new (o := .tup [.int (1 + r), .int kd]) np)))
    refine ⟨p, _, rfl, SqT.of upd_same, rfl, _, _, rfl, _, _, rfl, rfl, ?_⟩
    -- the weights
    refine ⟨_, rfl, 1 + r, rfl, by omega, by omega, fun D nD => ?_⟩
    have nHD : H D = none := by
      have h2n := (same_new (H := H2) (o := .tup [.int (1 + r), .int kd]) np).free nD
      cases e : H D with
      | none => rfl
      | some o =>
        exfalso
        by_cases z : D = c
        · obtain ⟨ys, hy⟩ := hC2.lst
          rw [z, hy] at h2n
          cases h2n
        · have := (k1.trans k2.k0) _ _ e z
          rw [this] at h2n
          cases h2n
    have hDc : D ≠ c := fun z => by
      obtain ⟨ys, hy⟩ := hC3.lst
      rw [z] at nD
      exact absurd (nD.symm.trans hy) (by simp)
    refine lc_range (lo := 0) (n := (1 + r).toNat) (fun i H' => ∃ ws : List Int, ws.length = i ∧ (∀ x ∈ ws, 1 ≤ x ∧ x ≤ 400000) ∧ H' D = some (.lst (ws.map V.int)) ∧ Bag H' c ∧ Kp c H H') ⟨[], rfl, by simp, upd_same, hC3.same (same_new nD), k3.trans (Kp.of (same_new nD))⟩ ?_ ?_
    · rintro i H' hi ⟨ws, hl, hw, hD, hB, kk⟩
      refine ⟨rfl, _, rfl, ?_⟩
      have wt : ∀ (kx : Int) H4, Bag H4 c → Kp c H' H4 → spWeight [.ref c, .int kx] H4 (fun y H5 => ∃ acc, H5 D = some (.lst acc) ∧ acc.length < sizeLine ∧ ∃ ws : List Int, ws.length = i + 1 ∧ (∀ x ∈ ws, 1 ≤ x ∧ x ≤ 400000) ∧ (upd H5 D (.lst (acc ++ [y]))) D = some (.lst (ws.map V.int)) ∧ Bag (upd H5 D (.lst (acc ++ [y]))) c ∧ Kp c H (upd H5 D (.lst (acc ++ [y])))) E0 := by
        intro kx H4 hB4 k4
        refine weight_step hB4 fun w1 H5 w0 w1' hB5 k5 => ?_
        have hD5 : H5 D = some (.lst (ws.map V.int)) := k5 _ _ (k4 _ _ hD hDc) hDc
        refine ⟨_, hD5, ?_, ws ++ [w1], by rw [List.length_append, hl]; rfl, ?_, ?_, ?_, ?_⟩
        · rw [List.length_map]
          exact small1000 (by omega)
        · intro x hx
          rcases List.mem_append.mp hx with hx | hx
          · exact hw x hx
          · rw [List.mem_singleton.mp hx]
            exact ⟨w0, w1'⟩
        · rw [upd_same, List.map_append]
          rfl
        · have hz := hB5.write (D := D) (zs := ws ++ [w1]) hDc (by rw [List.length_append, hl]; show i + 1 ≤ 63; omega)
          rw [List.map_append] at hz
          exact hz
        · intro b o hb hbc
          have hbD : b ≠ D := ne_of_none hb nHD
          rw [upd_ne hbD]
          exact k5 _ _ (k4 _ _ (kk _ _ hb hbc) hbc) hbc
      refine ⟨_, rfl, _, _, rfl, rfl, _, rfl, ?_⟩
      refine iteD (fun e => ?_) (fun e => ?_)
      · exact ⟨_, rfl, wt _ H' hB (Kp.refl _ _)⟩
      · refine ⟨_, rfl, c, 4, rfl, hB, by decide, by decide, fun k4 H4 _ _ hB4 kp4 => wt _ H4 hB4 kp4⟩
    · rintro H' ⟨ws, hl, hw, hD, hB, kk⟩
      exact q D ws H' nHD hD ⟨by omega, by omega, hw⟩ hB kk
theorem ok_law_sizes (T : Tops K mg) (D_law_get : DefOk P w K mg base 1 "_law_get" ps__law_get spGet) : DefOk P w K mg base 2 "_law_sizes" ps__law_sizes (spLSizes K) := by
  refine T.d_law_sizes.ok sc__law_sizes (fun vs H Q E h => ?_) (fun f cdv A outer s H vs Q E hr h => ?_)
  · unfold spLSizes at h
    obtain ⟨_, _, rfl, _⟩ := h
    rfl
  · unfold spLSizes at h
    obtain ⟨c, n, rfl, hC, hn0, hn1, q⟩ := h
    refine ⟨_, (pss_cons (ps_set (i := 2) sc__law_sizes.nd rfl (.inl rfl) (pe_lst pa_nil)) (pss_cons (ps_set (i := 3) sc__law_sizes.nd rfl (.inl rfl) (pv 1)) (pss_cons (ps_set (i := 4) sc__law_sizes.nd rfl (.inl rfl) (pe_callD D_law_get hr (by decide) (by rfl) (pa_cons (pv 0) (pa_cons pe_int pa_nil)))) (pss_cons (ps_while PassesOwn.never (pt_cmpR op_gt (pv 3) pe_int (nomark _)) (pss_cons (ps_set (i := 5) sc__law_sizes.nd rfl (.inl rfl) (pe_ix ix_list (pe_lst (pa_cons (pe_op op_add pe_int (pe_callD D_law_get hr (by decide) (by rfl) (pa_cons (pv 0) (pa_cons (pv 3) pa_nil)))) (pa_cons pe_int (pa_cons (pe_op op_add pe_int (pe_callD D_law_get hr (by decide) (by rfl) (pa_cons (pv 0) (pa_cons (pe_callB (call_min2 rfl) (by rfl) T.m_min (by decide +kernel) (pa_cons (pv 3) (pa_cons pe_int pa_nil))) pa_nil)))) pa_nil)))) (pv 4) (fun _ _ => rfl))) (pss_cons (ps_expr (pe_bm PySem.F.plainAttrs_list PySem.F.slot_list_append PySem.F.type_list_append mt_append (pv 2) (pa_cons (pv 5) pa_nil))) (pss_one (ps_set (i := 3) sc__law_sizes.nd rfl (.inl rfl) (pe_op op_sub (pv 3) (pv 5))))))) (pss_one (ps_ret (pe_callTy call_tuple_of (by rfl) T.m_tuple (by decide +kernel) (pa_cons (pv 2) pa_nil)))))))), ?_⟩
    refine ⟨Nat.zero_le _, fun F nF => ?_⟩
    have sF : Same H (upd H F (.lst [])) := same_new nF
    have hFc : F ≠ c := fun z => by
      obtain ⟨ys, hy⟩ := hC.lst
      rw [z, hy] at nF
      cases nF
    refine ⟨_, rfl, _, rfl, c, 3, rfl, hC.same sF, by decide, by decide, fun kd H1 hk0 hk1 hB1 k1 => ?_⟩
    have hF1 : H1 F = some (.lst []) := k1 _ _ upd_same hFc
    have kk1 := (Kp.of (b := c) sF).trans k1.k0
    have hk : kd = 0 ∨ kd = 1 ∨ kd = 2 := by omega
    refine ⟨fun m σ H' => ∃ (v5 : Option V) (left : Int) (ss : List Int), σ = [some (.ref c), some (.int n), some (.ref F), some (.int left), some (.int kd), v5] ∧ 0 ≤ left ∧ ss.sum + left = n ∧ (∀ x ∈ ss, 1 ≤ x) ∧ H' F = some (.lst (ss.map V.int)) ∧ Bag H' c ∧ Kp c H H' ∧ m = left.toNat, ⟨_, none, n, [], rfl, by omega, by simp, by simp, hF1, hB1, kk1, rfl⟩, ?_⟩
    rintro m σ H' ⟨v5, left, ss, rfl, hl0, hsum, hw, hF, hB, kk, hm⟩
    refine ⟨_, rfl, _, _, rfl, rfl, _, rfl, ?_⟩
    refine ite2 (fun hd => ?_) (fun hd => ?_)
    · have hl : 0 < left := of_decide_eq_true hd
      have hsl := sum_nn hw
      refine ⟨fun σ' H'' => ∃ (v5 : Option V) (left' : Int) (ss' : List Int), σ' = [some (.ref c), some (.int n), some (.ref F), some (.int left'), some (.int kd), v5] ∧ 0 ≤ left' ∧ ss'.sum + left' = n ∧ (∀ x ∈ ss', 1 ≤ x) ∧ H'' F = some (.lst (ss'.map V.int)) ∧ Bag H'' c ∧ Kp c H H'' ∧ left'.toNat < m, fun σ' H'' h => ?_, ?_⟩
      · obtain ⟨v5, left', ss', rfl, h1, h2, h3, h4, h5, h6, h7⟩ := h
        exact ⟨_, h7, v5, left', ss', rfl, h1, h2, h3, h4, h5, h6, rfl⟩
      · refine ⟨_, rfl, _, rfl, c, left, rfl, hB, by omega, by omega, fun r1 H2 h0 h1 hB2 k2 => ?_⟩
        have hm3 : 0 < (if (3 : Int) < left then 3 else left) ∧ (if (3 : Int) < left then 3 else left) ≤ left := by split <;> omega
        refine ⟨_, _, rfl, rfl, _, rfl, _, rfl, left, 3, rfl, c, _, rfl, hB2, hm3.1, by omega, fun r2 H3 h2 h3 hB3 k3 => ?_⟩
        refine ⟨_, _, rfl, rfl, (show 3 ≤ sizeLine by decide), fun p np => ?_⟩
        have sp := same_new (o := .lst [.int (1 + r1), .int 1, .int (1 + r2)]) np
        have hB4 := hB3.same sp
        have hF4 := sp _ _ ((k2.trans k3) _ _ hF hFc)
        have k4 := kk.trans (k2.trans (k3.trans (Kp.of sp)))
        have nHF : H F = none := nF
        refine ⟨_, rfl, ?_⟩
        rcases hk with rfl | rfl | rfl
        · refine ⟨p, _, _, _, rfl, rfl, SqL.of upd_same, rfl, ?_⟩
          refine ⟨_, rfl, .inl ⟨rfl, _, SqL.of hF4⟩, _, rfl, F, _, _, rfl, rfl, hF4, small1000 (by rw [List.length_map]; omega), ?_⟩
          refine ⟨_, rfl, _, rfl, _, _, rfl, rfl, ?_⟩
          refine ⟨some _, _, ss ++ [1 + r1], rfl, ?_, ?_, ?_, ?_, ?_, ?_, ?_⟩
          · show 0 ≤ left - _
            omega
          · rw [List.sum_append, List.sum_cons, List.sum_nil]
            show _ + (left - _) = _
            omega
          · intro x hx
            rcases List.mem_append.mp hx with hx | hx
            · exact hw x hx
            · rw [List.mem_singleton.mp hx]
              omega
          · rw [upd_same, List.map_append]
            rfl
          · have hz := hB4.write (D := F) (zs := ss ++ [1 + r1]) hFc (by rw [List.length_append]; show ss.length + 1 ≤ 63; omega)
            rw [List.map_append] at hz
            exact hz
          · intro b o hb hbc
            have hbF : b ≠ F := ne_of_none hb nHF
            rw [upd_ne hbF]
            exact k4 _ _ hb hbc
          · show (left - _).toNat < m
            omega
        · refine ⟨p, _, _, _, rfl, rfl, SqL.of upd_same, rfl, ?_⟩
          refine ⟨_, rfl, .inl ⟨rfl, _, SqL.of hF4⟩, _, rfl, F, _, _, rfl, rfl, hF4, small1000 (by rw [List.length_map]; omega), ?_⟩
          refine ⟨_, rfl, _, rfl, _, _, rfl, rfl, ?_⟩
          refine ⟨some _, _, ss ++ [1], rfl, ?_, ?_, ?_, ?_, ?_, ?_, ?_⟩
          · show 0 ≤ left - _
            omega
          · rw [List.sum_append, List.sum_cons, List.sum_nil]
            show _ + (left - _) = _
            omega
          · intro x hx
            rcases List.mem_append.mp hx with hx | hx
            · exact hw x hx
            · rw [List.mem_singleton.mp hx]
              omega
          · rw [upd_same, List.map_append]
            rfl
          · have hz := hB4.write (D := F) (zs := ss ++ [1]) hFc (by rw [List.length_append]; show ss.length + 1 ≤ 63; omega)
            rw [List.map_append] at hz
            exact hz
          · intro b o hb hbc
            have hbF : b ≠ F := ne_of_none hb nHF
            rw [upd_ne hbF]
            exact k4 _ _ hb hbc
          · show (left - _).toNat < m
            omega
        · refine ⟨p, _, _, _, rfl, rfl, SqL.of upd_same, rfl, ?_⟩
          refine ⟨_, rfl, .inl ⟨rfl, _, SqL.of hF4⟩, _, rfl, F, _, _, rfl, rfl, hF4, small1000 (by rw [List.length_map]; omega), ?_⟩
          refine ⟨_, rfl, _, rfl, _, _, rfl, rfl, ?_⟩
          refine ⟨some _, _, ss ++ [1 + r2], rfl, ?_, ?_, ?_, ?_, ?_, ?_, ?_⟩
          · show 0 ≤ left - _
            omega
          · rw [List.sum_append, List.sum_cons, List.sum_nil]
            show _ + (left - _) = _
            omega
          · intro x hx
            rcases List.mem_append.mp hx with hx | hx
            · exact hw x hx
            · rw [List.mem_singleton.mp hx]
              omega
          · rw [upd_same, List.map_append]
            rfl
          · have hz := hB4.write (D := F) (zs := ss ++ [1 + r2]) hFc (by rw [List.length_append]; show ss.length + 1 ≤ 63; omega)
            rw [List.map_append] at hz
            exact hz
          · intro b o hb hbc
            have hbF : b ≠ F := ne_of_none hb nHF
            rw [upd_ne hbF]
            exact k4 _ _ hb hbc
          · show (left - _).toNat < m
            omega
    · have hl : left = 0 := by
        have : ¬ 0 < left := fun z => hd (decide_eq_true z)
        omega
      refine ⟨_, rfl, F, _, rfl, .inl ⟨SqL.of hF, fun l nl => ?_⟩⟩
      have sl := same_new (o := .tup (ss.map V.int)) nl
      exact q l ss _ upd_same ⟨hw, by omega⟩ (hB.same sl) (kk.trans (Kp.of sl))
theorem ok_law_lean (T : Tops K mg) (D_law_get : DefOk P w K mg base 1 "_law_get" ps__law_get spGet) : DefOk P w K mg base 2 "_law_lean" ps__law_lean spLean := by
  refine T.d_law_lean.ok sc__law_lean (fun vs H Q E h => ?_) (fun f cdv A outer s H vs Q E hr h => ?_)
  · unfold spLean at h
    obtain ⟨_, rfl, _⟩ := h
    rfl
  · unfold spLean at h
    obtain ⟨c, rfl, hC, q⟩ := h
    refine ⟨_, (pss_one (ps_ret (pe_ix ix_list (pe_lst (pa_cons pe_str (pa_cons pe_str pa_nil))) (pe_callD D_law_get hr (by decide) (by rfl) (pa_cons (pv 0) (pa_cons pe_int pa_nil))) (fun _ _ => rfl)))), ?_⟩
    refine ⟨(show 2 ≤ sizeLine by decide), fun p np => ?_⟩
    have s1 : Same H (upd H p (.lst [.str "down", .str "across"])) := same_new np
    have hpc : p ≠ c := fun z => by
      obtain ⟨ys, hy⟩ := hC.lst
      rw [z, hy] at np
      cases np
    refine ⟨_, rfl, c, 2, rfl, hC.same s1, by decide, by decide, fun r H2 h0 h1 hC2 k2 => ?_⟩
    have hp : H2 p = some (.lst [.str "down", .str "across"]) := k2 _ _ upd_same hpc
    have kk := (Kp.of (b := c) s1).trans k2.k0
    have hr : r = 0 ∨ r = 1 := by omega
    rcases hr with rfl | rfl
    · exact ⟨p, _, _, _, rfl, rfl, SqL.of hp, rfl, q true H2 hC2 kk⟩
    · exact ⟨p, _, _, _, rfl, rfl, SqL.of hp, rfl, q false H2 hC2 kk⟩
theorem ok_law_split (T : Tops K mg) (D_law_part : DefOk P w K mg base 2 "_law_part" ps__law_part (spPart K)) (D_law_plus : DefOk P w K mg base 3 "_law_plus" ps__law_plus (spTwo K (fun _ _ => True) fun x y => x + y)) (D_law_times : DefOk P w K mg base 3 "_law_times" ps__law_times (spTwo K (fun _ _ => True) fun x y => x * y)) : DefOk P w K mg base 4 "_law_split" ps__law_split (spShares K) := by
  refine T.d_law_split.ok sc__law_split (fun vs H Q E h => ?_) (fun f cdv A outer s H vs Q E hr h => ?_)
  · unfold spShares at h
    obtain ⟨_, _, _, _, _, rfl, _⟩ := h
    rfl
  · unfold spShares at h
    obtain ⟨v, a, b, ws, d, rfl, hV, hO, hI, hW, q⟩ := h
    refine ⟨_, (pss_cons (ps_asg (pv 0) (pg_tup rfl (pgs_cons (pg_name (i := 3) sc__law_split.nd rfl (.inl rfl)) (pgs_cons (pg_name (i := 4) sc__law_split.nd rfl (.inl rfl)) (pgs_cons (pg_name (i := 5) sc__law_split.nd rfl (.inl rfl)) (pgs_cons (pg_name (i := 6) sc__law_split.nd rfl (.inl rfl)) pgs_nil)))))) (pss_cons (ps_set (i := 7) sc__law_split.nd rfl (.inl rfl) (pe_lst pa_nil)) (pss_cons (ps_set (i := 8) sc__law_split.nd rfl (.inl rfl) pe_int) (pss_cons (ps_for PassesOwn.never rfl (pi_or (pi_list (pv 1)) (pi_tup (pv 1))) (pg_name (i := 9) sc__law_split.nd rfl (.inl rfl)) (pss_cons (ps_par (i := 10) (j := 11) (by rfl) sc__law_split.nd rfl rfl (by decide) rfl rfl (pa_cons (pe_callD D_law_part hr (by decide) (by rfl) (pa_cons (pv 8) (pa_cons (pe_callB (cr_sumA rfl) (by rfl) T.m_sum (by decide +kernel) (pa_cons (pv 1) pa_nil)) pa_nil))) (pa_cons (pe_callD D_law_part hr (by decide) (by rfl) (pa_cons (pv 9) (pa_cons (pe_callB (cr_sumA rfl) (by rfl) T.m_sum (by decide +kernel) (pa_cons (pv 1) pa_nil)) pa_nil))) pa_nil)) (by rfl)) (C8.pss_cut (ps_if (pt_cmpR op_eq (pv 2) pe_str (nomark _)) (pss_one (ps_expr (pe_bm PySem.F.plainAttrs_list PySem.F.slot_list_append PySem.F.type_list_append mt_append (pv 7) (pa_cons (pe_tup (pa_cons (pv 3) (pa_cons (pe_callD D_law_plus hr (by decide) (by rfl) (pa_cons (pv 4) (pa_cons (pe_callD D_law_times hr (by decide) (by rfl) (pa_cons (pv 6) (pa_cons (pv 10) pa_nil))) pa_nil))) (pa_cons (pv 5) (pa_cons (pe_callD D_law_times hr (by decide) (by rfl) (pa_cons (pv 6) (pa_cons (pv 11) pa_nil))) pa_nil))))) pa_nil)))) (pss_one (ps_expr (pe_bm PySem.F.plainAttrs_list PySem.F.slot_list_append PySem.F.type_list_append mt_append (pv 7) (pa_cons (pe_tup (pa_cons (pe_callD D_law_plus hr (by decide) (by rfl) (pa_cons (pv 3) (pa_cons (pe_callD D_law_times hr (by decide) (by rfl) (pa_cons (pv 5) (pa_cons (pv 10) pa_nil))) pa_nil))) (pa_cons (pv 4) (pa_cons (pe_callD D_law_times hr (by decide) (by rfl) (pa_cons (pv 5) (pa_cons (pv 11) pa_nil))) (pa_cons (pv 6) pa_nil))))) pa_nil))))) (pss_one (ps_set (i := 8) sc__law_split.nd rfl (.inl rfl) (pe_op op_add (pv 8) (pv 9))))))) (pss_one (ps_ret (pv 7))))))), ?_⟩
    have hsum := hW.sum
    obtain ⟨av, u1, u2, u3, u4, rfl, hA⟩ := hV
    refine ⟨_, rfl, av, _, rfl, hA.1, rfl, _, _, rfl, _, _, rfl, _, _, rfl, _, _, rfl, rfl, ?_⟩
    refine ⟨Nat.zero_le _, fun F nF => ?_⟩
    have sF : Same H (upd H F (.lst [])) := same_new nF
    have hI0 := hI
    rcases hI0 with hs | hs
    · refine .inl ⟨_, rfl, a, rfl, ⟨_, seqL_same sF hs⟩, ?_⟩
      refine for_list (xs := ws.map V.int) (fun i σ H' => ∃ (v9 v10 v11 : Option V) (us : List V), σ = [some (.ref av), some (.ref a), some (.str (sd d)), some u1, some u2, some u3, some u4, some (.ref F), some (.int (ws.take i).sum), v9, v10, v11] ∧ Same H H' ∧ H' F = some (.lst us) ∧ Bxs K H' us ((cutM b ws d).take i)) ⟨none, none, none, [], rfl, sF, upd_same, .nil⟩ (fun i σ H' _ ⟨_, _, _, _, _, z, _⟩ => seqL_same z hs) ?_ ?_
      · rintro i x σ H' hx ⟨v9, v10, v11, us, rfl, sH, hF, hBs⟩
        obtain ⟨w1, rfl, hw1, hi, hgd⟩ : ∃ w1, x = V.int w1 ∧ w1 ∈ ws ∧ i < ws.length ∧ ws.getD i 0 = w1 := by
          rw [List.getElem?_map] at hx
          obtain ⟨w1, h1, h2⟩ := Option.map_eq_some_iff.mp hx
          exact ⟨w1, h2.symm, List.mem_of_getElem? h1, (List.getElem?_eq_some_iff.mp h1).1, by rw [List.getD_eq_getElem?_getD, h1]; rfl⟩
        have hw2 := hW.mem hw1
        have ht := hW.take i
        have hc0 : ws.sum ≠ 0 := by omega
        have z0 : ws.sum.natAbs < 2 ^ 8000 := pow_mono_lt (sz23 (by omega)) (by decide)
        refine ⟨_, rfl, _, rfl, sum_step (hI.same sH) ⟨_, _, rfl, hc0, pow_mono_lt (sz23 (by omega)) (by decide), z0, fun v2 G1 e1 g2 => ?_⟩⟩
        refine ⟨_, rfl, _, rfl, sum_step (hI.same (sH.trans e1)) ⟨_, _, rfl, hc0, pow_mono_lt (sz23 (by omega)) (by decide), z0, fun v3 G2 e2 g3 => ?_⟩⟩
        have e12 := e1.trans e2
        have g2 := g2.same e2
        have zx := sz_share ht hsum
        have zy := sz_share (a := w1) (by omega) hsum
        have hA := hA.same (sH.trans e12)
        refine ⟨_, _, rfl, ?_⟩
        have hlen := hBs.len
        rw [List.length_take, cutM_len] at hlen
        -- the box is laid behind the others
        have put : ∀ v G3, Same G2 G3 → BxV K G3 v (slab b (Rat.divInt (ws.take i).sum ws.sum) (Rat.divInt w1 ws.sum) d) → G3 F = some (.lst us) ∧ us.length < sizeLine ∧ Same H (upd G3 F (.lst (us ++ [v]))) ∧ Bxs K (upd G3 F (.lst (us ++ [v]))) (us ++ [v]) ((cutM b ws d).take (i + 1)) := by
          intro v G3 e3 hv
          have e13 := e12.trans e3
          have hF3 := e13 _ _ hF
          refine ⟨hF3, small1000 (by have := hW.l1; omega), same_write nF (sH.trans e13), ?_⟩
          rw [cutM_succ hi]
          refine Bxs.snoc (BxV.kp (c := F) ?_ Kp.upd hF3) (Bxs.kp (c := F) Kp.upd hF3 (hBs.same e13))
          unfold cutAt
          rw [hgd]
          exact hv
        refine ⟨fun σ' H2 => ∃ us2, σ' = [some (.ref av), some (.ref a), some (.str (sd d)), some u1, some u2, some u3, some u4, some (.ref F), some (.int (ws.take i).sum), some (.int w1), some v2, some v3] ∧ Same H H2 ∧ H2 F = some (.lst us2) ∧ Bxs K H2 us2 ((cutM b ws d).take (i + 1)), ?_, ?_⟩
        · refine ⟨_, rfl, rfl, _, rfl, ?_⟩
          rw [sd_eq]
          refine iteB (fun e => ?_) (fun e => ?_)
          · subst e
            refine ⟨_, rfl, .inl ⟨rfl, _, SqL.of (e12 _ _ hF)⟩, ?_⟩
            refine ⟨_, rfl, _, rfl, _, rfl, _, rfl, two_step hA.2.2.2.2 g2 hO.sh zx (by decide) (by decide) trivial fun y1 J1 f1 k1 => ?_⟩
            have hA1 := hA.same f1
            refine two_step hA1.2.2.1 k1 hO.st (sz_mul hO.sh zx (Nat.le_refl _)) (by decide) (by decide) trivial fun y2 J2 f2 k2 => ?_
            have hA2 := hA1.same f2
            refine ⟨_, rfl, _, rfl, _, rfl, two_step hA2.2.2.2.2 ((g3.same f1).same f2) hO.sh zy (by decide) (by decide) trivial fun y3 J3 f3 k3 => ?_⟩
            have hA3 := hA2.same f3
            refine ⟨(show 4 ≤ sizeLine by decide), fun p np => ?_⟩
            have f4 := f1.trans (f2.trans (f3.trans (same_new (o := .tup [u1, y2, u3, y3]) np)))
            obtain ⟨p1, p2, p3, p4⟩ := put (.ref p) _ f4 (BxV.mk np hA3.2.1 (k2.same f3) hA3.2.2.2.1 k3)
            exact ⟨F, us, _, rfl, rfl, p1, p2, us ++ [.ref p], rfl, p3, upd_same, p4⟩
          · subst e
            refine ⟨_, rfl, .inl ⟨rfl, _, SqL.of (e12 _ _ hF)⟩, ?_⟩
            refine ⟨_, rfl, _, rfl, _, rfl, two_step hA.2.2.2.1 g2 hO.sw zx (by decide) (by decide) trivial fun y1 J1 f1 k1 => ?_⟩
            have hA1 := hA.same f1
            refine two_step hA1.2.1 k1 hO.sl (sz_mul hO.sw zx (Nat.le_refl _)) (by decide) (by decide) trivial fun y2 J2 f2 k2 => ?_
            have hA2 := hA1.same f2
            refine ⟨_, rfl, _, rfl, _, rfl, two_step hA2.2.2.2.1 ((g3.same f1).same f2) hO.sw zy (by decide) (by decide) trivial fun y3 J3 f3 k3 => ?_⟩
            have hA3 := hA2.same f3
            refine ⟨_, rfl, (show 4 ≤ sizeLine by decide), fun p np => ?_⟩
            have f4 := f1.trans (f2.trans (f3.trans (same_new (o := .tup [y2, u2, y3, u4]) np)))
            obtain ⟨p1, p2, p3, p4⟩ := put (.ref p) _ f4 (BxV.mk np (k2.same f3) hA3.2.2.1 k3 hA3.2.2.2.2)
            exact ⟨F, us, _, rfl, rfl, p1, p2, us ++ [.ref p], rfl, p3, upd_same, p4⟩
        · rintro σ' H2 ⟨us2, rfl, s2, hF2, hB2⟩
          refine ⟨_, rfl, _, rfl, _, _, rfl, rfl, ?_⟩
          refine ⟨some (.int w1), some v2, some v3, us2, ?_, s2, hF2, hB2⟩
          rw [take_sum hi, hgd]
          rfl
      · rintro σ H' ⟨v9, v10, v11, us, rfl, sH, hF, hBs⟩
        rw [List.length_map, List.take_of_length_le (by rw [cutM_len]; exact Nat.le_refl _)] at hBs
        exact ⟨_, rfl, q F us H' nF sH hF hBs⟩
    · refine .inr ⟨_, rfl, a, rfl, ⟨_, seqT_same sF hs⟩, ?_⟩
      refine for_tup (xs := ws.map V.int) (fun i σ H' => ∃ (v9 v10 v11 : Option V) (us : List V), σ = [some (.ref av), some (.ref a), some (.str (sd d)), some u1, some u2, some u3, some u4, some (.ref F), some (.int (ws.take i).sum), v9, v10, v11] ∧ Same H H' ∧ H' F = some (.lst us) ∧ Bxs K H' us ((cutM b ws d).take i)) ⟨none, none, none, [], rfl, sF, upd_same, .nil⟩ (fun i σ H' _ ⟨_, _, _, _, _, z, _⟩ => seqT_same z hs) ?_ ?_
      · rintro i x σ H' hx ⟨v9, v10, v11, us, rfl, sH, hF, hBs⟩
        obtain ⟨w1, rfl, hw1, hi, hgd⟩ : ∃ w1, x = V.int w1 ∧ w1 ∈ ws ∧ i < ws.length ∧ ws.getD i 0 = w1 := by
          rw [List.getElem?_map] at hx
          obtain ⟨w1, h1, h2⟩ := Option.map_eq_some_iff.mp hx
          exact ⟨w1, h2.symm, List.mem_of_getElem? h1, (List.getElem?_eq_some_iff.mp h1).1, by rw [List.getD_eq_getElem?_getD, h1]; rfl⟩
        have hw2 := hW.mem hw1
        have ht := hW.take i
        have hc0 : ws.sum ≠ 0 := by omega
        have z0 : ws.sum.natAbs < 2 ^ 8000 := pow_mono_lt (sz23 (by omega)) (by decide)
        refine ⟨_, rfl, _, rfl, sum_step (hI.same sH) ⟨_, _, rfl, hc0, pow_mono_lt (sz23 (by omega)) (by decide), z0, fun v2 G1 e1 g2 => ?_⟩⟩
        refine ⟨_, rfl, _, rfl, sum_step (hI.same (sH.trans e1)) ⟨_, _, rfl, hc0, pow_mono_lt (sz23 (by omega)) (by decide), z0, fun v3 G2 e2 g3 => ?_⟩⟩
        have e12 := e1.trans e2
        have g2 := g2.same e2
        have zx := sz_share ht hsum
        have zy := sz_share (a := w1) (by omega) hsum
        have hA := hA.same (sH.trans e12)
        refine ⟨_, _, rfl, ?_⟩
        have hlen := hBs.len
        rw [List.length_take, cutM_len] at hlen
        -- the box is laid behind the others
        have put : ∀ v G3, Same G2 G3 → BxV K G3 v (slab b (Rat.divInt (ws.take i).sum ws.sum) (Rat.divInt w1 ws.sum) d) → G3 F = some (.lst us) ∧ us.length < sizeLine ∧ Same H (upd G3 F (.lst (us ++ [v]))) ∧ Bxs K (upd G3 F (.lst (us ++ [v]))) (us ++ [v]) ((cutM b ws d).take (i + 1)) := by
          intro v G3 e3 hv
          have e13 := e12.trans e3
          have hF3 := e13 _ _ hF
          refine ⟨hF3, small1000 (by have := hW.l1; omega), same_write nF (sH.trans e13), ?_⟩
          rw [cutM_succ hi]
          refine Bxs.snoc (BxV.kp (c := F) ?_ Kp.upd hF3) (Bxs.kp (c := F) Kp.upd hF3 (hBs.same e13))
          unfold cutAt
          rw [hgd]
          exact hv
        refine ⟨fun σ' H2 => ∃ us2, σ' = [some (.ref av), some (.ref a), some (.str (sd d)), some u1, some u2, some u3, some u4, some (.ref F), some (.int (ws.take i).sum), some (.int w1), some v2, some v3] ∧ Same H H2 ∧ H2 F = some (.lst us2) ∧ Bxs K H2 us2 ((cutM b ws d).take (i + 1)), ?_, ?_⟩
        · refine ⟨_, rfl, rfl, _, rfl, ?_⟩
          rw [sd_eq]
          refine iteB (fun e => ?_) (fun e => ?_)
          · subst e
            refine ⟨_, rfl, .inl ⟨rfl, _, SqL.of (e12 _ _ hF)⟩, ?_⟩
            refine ⟨_, rfl, _, rfl, _, rfl, _, rfl, two_step hA.2.2.2.2 g2 hO.sh zx (by decide) (by decide) trivial fun y1 J1 f1 k1 => ?_⟩
            have hA1 := hA.same f1
            refine two_step hA1.2.2.1 k1 hO.st (sz_mul hO.sh zx (Nat.le_refl _)) (by decide) (by decide) trivial fun y2 J2 f2 k2 => ?_
            have hA2 := hA1.same f2
            refine ⟨_, rfl, _, rfl, _, rfl, two_step hA2.2.2.2.2 ((g3.same f1).same f2) hO.sh zy (by decide) (by decide) trivial fun y3 J3 f3 k3 => ?_⟩
            have hA3 := hA2.same f3
            refine ⟨(show 4 ≤ sizeLine by decide), fun p np => ?_⟩
            have f4 := f1.trans (f2.trans (f3.trans (same_new (o := .tup [u1, y2, u3, y3]) np)))
            obtain ⟨p1, p2, p3, p4⟩ := put (.ref p) _ f4 (BxV.mk np hA3.2.1 (k2.same f3) hA3.2.2.2.1 k3)
            exact ⟨F, us, _, rfl, rfl, p1, p2, us ++ [.ref p], rfl, p3, upd_same, p4⟩
          · subst e
            refine ⟨_, rfl, .inl ⟨rfl, _, SqL.of (e12 _ _ hF)⟩, ?_⟩
            refine ⟨_, rfl, _, rfl, _, rfl, two_step hA.2.2.2.1 g2 hO.sw zx (by decide) (by decide) trivial fun y1 J1 f1 k1 => ?_⟩
            have hA1 := hA.same f1
            refine two_step hA1.2.1 k1 hO.sl (sz_mul hO.sw zx (Nat.le_refl _)) (by decide) (by decide) trivial fun y2 J2 f2 k2 => ?_
            have hA2 := hA1.same f2
            refine ⟨_, rfl, _, rfl, _, rfl, two_step hA2.2.2.2.1 ((g3.same f1).same f2) hO.sw zy (by decide) (by decide) trivial fun y3 J3 f3 k3 => ?_⟩
            have hA3 := hA2.same f3
            refine ⟨_, rfl, (show 4 ≤ sizeLine by decide), fun p np => ?_⟩
            have f4 := f1.trans (f2.trans (f3.trans (same_new (o := .tup [y2, u2, y3, u4]) np)))
            obtain ⟨p1, p2, p3, p4⟩ := put (.ref p) _ f4 (BxV.mk np (k2.same f3) hA3.2.2.1 k3 hA3.2.2.2.2)
            exact ⟨F, us, _, rfl, rfl, p1, p2, us ++ [.ref p], rfl, p3, upd_same, p4⟩
        · rintro σ' H2 ⟨us2, rfl, s2, hF2, hB2⟩
          refine ⟨_, rfl, _, rfl, _, _, rfl, rfl, ?_⟩
          refine ⟨some (.int w1), some v2, some v3, us2, ?_, s2, hF2, hB2⟩
          rw [take_sum hi, hgd]
          rfl
      · rintro σ H' ⟨v9, v10, v11, us, rfl, sH, hF, hBs⟩
        rw [List.length_map, List.take_of_length_le (by rw [cutM_len]; exact Nat.le_refl _)] at hBs
        exact ⟨_, rfl, q F us H' nF sH hF hBs⟩
theorem ok_law_turned_lean (T : Tops K mg)  : DefOk P w K mg base 1 "_law_turned_lean" ps__law_turned_lean spTurned := by
  refine T.d_law_turned_lean.ok sc__law_turned_lean (fun vs H Q E h => ?_) (fun f cdv A outer s H vs Q E hr h => ?_)
  · unfold spTurned at h
    obtain ⟨_, rfl, _⟩ := h
    rfl
  · unfold spTurned at h
    obtain ⟨d, rfl, q⟩ := h
    refine ⟨_, (pss_one (ps_ret (pe_ifExp (pt_cmpR op_eq (pv 0) pe_str (nomark _)) pe_str pe_str))), ?_⟩
    refine ⟨_, rfl, rfl, _, rfl, ?_⟩
    rw [sd_eq]
    cases d with
    | true => exact q _ rfl
    | false => exact q _ rfl
theorem ok_law_parted (T : Tops K mg)  : DefOk P w K mg base 1 "_law_parted" ps__law_parted (spParted K) := by
  refine T.d_law_parted.ok sc__law_parted (fun vs H Q E h => ?_) (fun f cdv A outer s H vs Q E hr h => ?_)
  · unfold spParted at h
    obtain ⟨_, _, _, _, rfl, _⟩ := h
    rfl
  · unfold spParted at h
    obtain ⟨a, t, ws, ss, rfl, hA, hT, hS, hn, q⟩ := h
    refine ⟨_, (pss_cons (ps_set (i := 2) sc__law_parted.nd rfl (.inl rfl) (pe_lst pa_nil)) (pss_cons (ps_set (i := 3) sc__law_parted.nd rfl (.inl rfl) pe_int) (pss_cons (ps_for PassesOwn.never rfl (pi_or (pi_list (pv 1)) (pi_tup (pv 1))) (pg_name (i := 4) sc__law_parted.nd rfl (.inl rfl)) (pss_cons (ps_expr (pe_bm PySem.F.plainAttrs_list PySem.F.slot_list_append PySem.F.type_list_append mt_append (pv 2) (pa_cons (pe_callTy call_list_of (by rfl) T.m_list (by decide +kernel) (pa_cons (pe_slice sl_list (pv 0) (po_some (pv 3)) (po_some (pe_op op_add (pv 3) (pv 4)))) pa_nil)) pa_nil))) (pss_one (ps_set (i := 3) sc__law_parted.nd rfl (.inl rfl) (pe_op op_add (pv 3) (pv 4)))))) (pss_one (ps_ret (pv 2)))))), ?_⟩
    have hl := hS.len
    refine ⟨Nat.zero_le _, fun F nF => ?_⟩
    have sF : Same H (upd H F (.lst [])) := same_new nF
    rcases hT with hs | hs
    · refine .inl ⟨_, rfl, t, rfl, ⟨_, seqL_same sF hs⟩, ?_⟩
      refine for_list (xs := ss.map V.int) (fun i σ H' => ∃ (v4 : Option V) (us : List V), σ = [some (.ref a), some (.ref t), some (.ref F), some (.int (ss.take i).sum), v4] ∧ Same H H' ∧ H' F = some (.lst us) ∧ Al (RwN K F H') us ((rowsM ws ss).take i)) ⟨none, [], rfl, sF, upd_same, .nil⟩ (fun i σ H' _ ⟨_, _, _, z, _⟩ => seqL_same z hs) ?_ ?_
      · rintro i x σ H' hx ⟨v4, us, rfl, sH, hF, hBs⟩
        obtain ⟨w1, rfl, hi, hgd⟩ : ∃ w1, x = V.int w1 ∧ i < ss.length ∧ ss.getD i 0 = w1 := by
          rw [List.getElem?_map] at hx
          obtain ⟨w1, h1, h2⟩ := Option.map_eq_some_iff.mp hx
          exact ⟨w1, h2.symm, (List.getElem?_eq_some_iff.mp h1).1, by rw [List.getD_eq_getElem?_getD, h1]; rfl⟩
        have hcut := cut_row hS hi
        rw [hgd] at hcut
        have hlen := hBs.len
        rw [List.length_take, rows_len] at hlen
        refine ⟨_, rfl, .inl ⟨rfl, _, SqL.of hF⟩, ?_⟩
        refine ⟨_, rfl, _, rfl, _, rfl, _, rfl, _, rfl, _, _, rfl, rfl, _, rfl, a, _, rfl, seqL_same sH hA, fun p np => ?_⟩
        have sp := same_new (o := .lst (cutV (ws.map V.int) (some (ss.take i).sum) (some ((ss.take i).sum + w1)))) np
        refine ⟨p, _, rfl, .inl (SqL.of upd_same), fun l nl => ?_⟩
        have sl := same_new (o := .lst (cutV (ws.map V.int) (some (ss.take i).sum) (some ((ss.take i).sum + w1)))) nl
        have s2 := sp.trans sl
        have hF2 := s2 _ _ hF
        refine ⟨F, us, _, rfl, rfl, hF2, small1000 (by omega), ?_⟩
        refine ⟨_, rfl, _, rfl, _, _, rfl, rfl, ?_⟩
        refine ⟨some (.int w1), us ++ [.ref l], ?_, same_write nF (sH.trans s2), upd_same, ?_⟩
        · rw [take_sum hi, hgd]
          rfl
        · rw [List.take_add_one, rows_get hi]
          refine Al.snoc (RwN.kp Kp.upd hF2 ⟨l, rfl, .inl ⟨?_, fun z => ?_⟩⟩) (Al.mono (fun v x h => RwN.kp Kp.upd hF2 h) (Al.mono (fun v x h => RwN.same s2 h) hBs))
          · rw [← hcut]
            exact SqL.of upd_same
          · rw [z, sp _ _ hF] at nl
            cases nl
      · rintro σ H' ⟨v4, us, rfl, sH, hF, hBs⟩
        rw [List.length_map, List.take_of_length_le (by rw [rows_len]; exact Nat.le_refl _)] at hBs
        exact ⟨_, rfl, q F us H' nF sH hF (Al.mono (fun v x h => h.rw) hBs)⟩
    · refine .inr ⟨_, rfl, t, rfl, ⟨_, seqT_same sF hs⟩, ?_⟩
      refine for_tup (xs := ss.map V.int) (fun i σ H' => ∃ (v4 : Option V) (us : List V), σ = [some (.ref a), some (.ref t), some (.ref F), some (.int (ss.take i).sum), v4] ∧ Same H H' ∧ H' F = some (.lst us) ∧ Al (RwN K F H') us ((rowsM ws ss).take i)) ⟨none, [], rfl, sF, upd_same, .nil⟩ (fun i σ H' _ ⟨_, _, _, z, _⟩ => seqT_same z hs) ?_ ?_
      · rintro i x σ H' hx ⟨v4, us, rfl, sH, hF, hBs⟩
        obtain ⟨w1, rfl, hi, hgd⟩ : ∃ w1, x = V.int w1 ∧ i < ss.length ∧ ss.getD i 0 = w1 := by
          rw [List.getElem?_map] at hx
          obtain ⟨w1, h1, h2⟩ := Option.map_eq_some_iff.mp hx
          exact ⟨w1, h2.symm, (List.getElem?_eq_some_iff.mp h1).1, by rw [List.getD_eq_getElem?_getD, h1]; rfl⟩
        have hcut := cut_row hS hi
        rw [hgd] at hcut
        have hlen := hBs.len
        rw [List.length_take, rows_len] at hlen
        refine ⟨_, rfl, .inl ⟨rfl, _, SqL.of hF⟩, ?_⟩
        refine ⟨_, rfl, _, rfl, _, rfl, _, rfl, _, rfl, _, _, rfl, rfl, _, rfl, a, _, rfl, seqL_same sH hA, fun p np => ?_⟩
        have sp := same_new (o := .lst (cutV (ws.map V.int) (some (ss.take i).sum) (some ((ss.take i).sum + w1)))) np
        refine ⟨p, _, rfl, .inl (SqL.of upd_same), fun l nl => ?_⟩
        have sl := same_new (o := .lst (cutV (ws.map V.int) (some (ss.take i).sum) (some ((ss.take i).sum + w1)))) nl
        have s2 := sp.trans sl
        have hF2 := s2 _ _ hF
        refine ⟨F, us, _, rfl, rfl, hF2, small1000 (by omega), ?_⟩
        refine ⟨_, rfl, _, rfl, _, _, rfl, rfl, ?_⟩
        refine ⟨some (.int w1), us ++ [.ref l], ?_, same_write nF (sH.trans s2), upd_same, ?_⟩
        · rw [take_sum hi, hgd]
          rfl
        · rw [List.take_add_one, rows_get hi]
          refine Al.snoc (RwN.kp Kp.upd hF2 ⟨l, rfl, .inl ⟨?_, fun z => ?_⟩⟩) (Al.mono (fun v x h => RwN.kp Kp.upd hF2 h) (Al.mono (fun v x h => RwN.same s2 h) hBs))
          · rw [← hcut]
            exact SqL.of upd_same
          · rw [z, sp _ _ hF] at nl
            cases nl
      · rintro σ H' ⟨v4, us, rfl, sH, hF, hBs⟩
        rw [List.length_map, List.take_of_length_le (by rw [rows_len]; exact Nat.le_refl _)] at hBs
        exact ⟨_, rfl, q F us H' nF sH hF (Al.mono (fun v x h => h.rw) hBs)⟩
theorem ok_law_laid (T : Tops K mg) (D_law_split : DefOk P w K mg base 4 "_law_split" ps__law_split (spShares K)) (D_law_turned_lean : DefOk P w K mg base 1 "_law_turned_lean" ps__law_turned_lean spTurned) (D_law_parted : DefOk P w K mg base 1 "_law_parted" ps__law_parted (spParted K)) : DefOk P w K mg base 5 "_law_laid" ps__law_laid (spLLaid K) := by
  refine T.d_law_laid.ok sc__law_laid (fun vs H Q E h => ?_) (fun f cdv A outer s H vs Q E hr h => ?_)
  · unfold spLLaid at h
    obtain ⟨_, _, _, _, _, _, _, rfl, _⟩ := h
    rfl
  · unfold spLLaid at h
    obtain ⟨v, a, t, b, ws, ss, d, rfl, hV, hO, hA, hW, hT, hS, q⟩ := h
    refine ⟨_, (pss_cons (ps_set (i := 4) sc__law_laid.nd rfl (.inl rfl) (pe_callD D_law_parted hr (by decide) (by rfl) (pa_cons (pv 1) (pa_cons (pv 2) pa_nil)))) (pss_cons (ps_set (i := 5) sc__law_laid.nd rfl (.inl rfl) (pe_lst pa_nil)) (pss_cons (ps_for PassesOwn.never rfl (RZ.pi_zipA (by rfl) T.m_zip (pa_cons (pv 4) (pa_cons (pe_callD D_law_split hr (by decide) (by rfl) (pa_cons (pv 0) (pa_cons (pe_lc (own := [("_law_row", 6)]) (g := gName 6) (by rfl) sc__law_laid.nd (pi_list (pv 4)) (blkOk_by (own := [("_law_row", 6)]) (N := ["_law_box", "_law_weights_here", "_law_sizes_here", "_law_lean_here", "_law_rows", "_law_found", "_law_row", "_law_inner"]) (sc := defScope s__law_laid) (by decide +kernel)) (fun _ _ _ _ _ => (pg_name (i := 6) sc__law_laid.nd rfl (.inl rfl))) (fun _ _ _ _ _ => pts_nil) (fun _ _ _ _ _ => (pe_callB (kk_call (K := K) (r := rSumA) rfl (cr_sumA rfl)) (by rfl) T.m_sum (by decide +kernel) (pa_cons (pv 6) pa_nil)))) (pa_cons (pv 3) pa_nil)))) pa_nil))) (pg_tup rfl (pgs_cons (pg_name (i := 6) sc__law_laid.nd rfl (.inl rfl)) (pgs_cons (pg_name (i := 7) sc__law_laid.nd rfl (.inl rfl)) pgs_nil))) (pss_one (ps_set (i := 5) sc__law_laid.nd rfl (.inl rfl) (pe_op op_cat (pv 5) (pe_callD D_law_split hr (by decide) (by rfl) (pa_cons (pv 7) (pa_cons (pv 6) (pa_cons (pe_callD D_law_turned_lean hr (by decide) (by rfl) (pa_cons (pv 3) pa_nil)) pa_nil)))))))) (pss_one (ps_ret (pv 5)))))), ?_⟩
    have hl1 := hW.l1
    have hsl := hS.len
    refine ⟨_, rfl, _, rfl, parted_step hA hT hS hl1 fun R rs H1 nR s1 hR hRs => ?_⟩
    have hrl := hRs.len
    rw [rows_len] at hrl
    refine ⟨Nat.zero_le _, fun F nF => ?_⟩
    have sF : Same H1 (upd H1 F (.lst [])) := same_new nF
    have hR0 := sF _ _ hR
    refine ⟨_, rfl, _, rfl, _, rfl, R, rfl, ⟨_, SqL.of hR0⟩, fun D nD => ?_⟩
    refine lc_list (xs := rs) (fun i H' => Same (upd H1 F (.lst [])) H' ∧ H' D = some (.lst (((sumsM ws ss).take i).map V.int))) ⟨same_new nD, upd_same⟩ (fun i H' _ z => SqL.of (z.1 _ _ hR0)) ?_ ?_
    · rintro i x H' hx ⟨sH, hD⟩
      obtain ⟨row, h1, h2⟩ := hRs.get hx
      obtain ⟨hi, rfl⟩ := rows_get' h1
      obtain ⟨a', rfl, h3⟩ := h2.same (sF.trans sH)
      refine ⟨rfl, _, rfl, sum_step h3 ?_⟩
      refine ⟨_, hD, ?_, same_write nD sH, ?_⟩
      · rw [List.length_map, List.length_take, sums_len]
        exact small1000 (by omega)
      · rw [upd_same, List.take_add_one, sums_get hi, List.map_append]
        rfl
    rintro H5 ⟨s5, hD⟩
    rw [hrl, List.take_of_length_le (by rw [sums_len]; exact Nat.le_refl _)] at hD
    have s15 := s1.trans (sF.trans s5)
    have hG := sums_ok hW hS
    refine ⟨_, rfl, shares_step (d := d) (hV.same s15) hO (by decide) (.inl (SqL.of hD)) hG fun S us' H6 nS s6 hSl hB => ?_⟩
    have s16 := s15.trans s6
    have hR6 := (s5.trans s6) _ _ hR0
    have hlu := hB.len
    rw [cutM_len, sums_len] at hlu
    refine ⟨R, S, rs, us', rfl, .inl ⟨SqL.of hR6, SqL.of hSl, ?_⟩⟩
    refine RZ.for_zipL (by rw [hlu, hrl]) (fun j σ H7 => ∃ (v6 v7 : Option V) (G : Addr) (fs : List V), σ = [some v, some (.ref a), some (.ref t), some (.str (sd d)), some (.ref R), some (.ref G), v6, v7] ∧ Same H6 H7 ∧ H G = none ∧ H7 G = some (.lst fs) ∧ Bxs K H7 fs (laidTo b ws ss d j)) ⟨_, _, F, [], rfl, Same.refl _, s1.free nF, (s5.trans s6) _ _ upd_same, .nil⟩ (fun j σ H7 ⟨_, _, _, _, _, z, _⟩ => ⟨SqL.of (z _ _ hR6), SqL.of (z _ _ hSl)⟩) ?_ ?_
    · rintro j x y u σ H8 hx hy ⟨v6, v7, G, fs, rfl, s8, nG, hF, hBF⟩ nt
      have st := same_new (o := .tup [x, y]) nt
      have s9 := s8.trans st
      obtain ⟨bj, h1, hy2⟩ := bxs_get (hB.same s9) hy
      obtain ⟨hj, rfl⟩ := cutM_get h1
      rw [sums_len] at hj
      obtain ⟨row, h2, hx2⟩ := hRs.get hx
      obtain ⟨_, rfl⟩ := rows_get' h2
      obtain ⟨a', rfl, h3⟩ := hx2.same (sF.trans (s5.trans (s6.trans s9)))
      refine ⟨u, _, rfl, SqT.of upd_same, rfl, _, _, rfl, _, _, rfl, rfl, ?_⟩
      have hF9 := st _ _ hF
      refine ⟨_, rfl, _, rfl, _, rfl, _, rfl, turned_step (shares_step (d := !d) hy2 (slab_okG hO hG (by rw [sums_len]; exact hj)) (by decide) h3 (row_ok hW hS hj).g fun M ms H10 nM s10 hM hBM => ?_)⟩
      have hF10 := s10 _ _ hF9
      have hlf := hBF.len
      rw [laidTo_len b d hS j (by omega)] at hlf
      have hlm := hBM.len
      rw [cutM_len, row_len hS hj] at hlm
      have hsz := hS.size_le hj
      refine ⟨G, M, fs, ms, rfl, rfl, hF10, hM, by have : (1000 : Nat) ≤ sizeLine := (by decide); omega, fun p np => ?_⟩
      have sp := same_new (o := .lst (fs ++ ms)) np
      refine ⟨_, _, p, fs ++ ms, rfl, s9.trans (s10.trans sp), (s16.trans (s9.trans s10)).free np, upd_same, ?_⟩
      rw [laidTo_succ]
      exact (Bxs.append hBM ((hBF.same st).same s10)).same sp
    · rintro σ H7 ⟨v6, v7, G, fs, rfl, s7, nG, hF, hBF⟩
      rw [hrl] at hBF
      exact ⟨_, rfl, q G fs H7 nG (s16.trans s7) hF hBF⟩
theorem ok_law_ends (T : Tops K mg) (D_law_plus : DefOk P w K mg base 3 "_law_plus" ps__law_plus (spTwo K (fun _ _ => True) fun x y => x + y)) : DefOk P w K mg base 4 "_law_ends" ps__law_ends (spEnds K) := by
  refine T.d_law_ends.ok sc__law_ends (fun vs H Q E h => ?_) (fun f cdv A outer s H vs Q E hr h => ?_)
  · unfold spEnds at h
    obtain ⟨_, _, rfl, _⟩ := h
    rfl
  · unfold spEnds at h
    obtain ⟨v, b, rfl, ⟨a, v1, v2, v3, v4, rfl, hA⟩, hO, q⟩ := h
    refine ⟨_, (pss_one (ps_ret (pe_tup (pa_cons (pe_ix ix_tup (pv 0) pe_int (fun _ _ => rfl)) (pa_cons (pe_callD D_law_plus hr (by decide) (by rfl) (pa_cons (pe_ix ix_tup (pv 0) pe_int (fun _ _ => rfl)) (pa_cons (pe_ix ix_tup (pv 0) pe_int (fun _ _ => rfl)) pa_nil))) (pa_cons (pe_ix ix_tup (pv 0) pe_int (fun _ _ => rfl)) (pa_cons (pe_callD D_law_plus hr (by decide) (by rfl) (pa_cons (pe_ix ix_tup (pv 0) pe_int (fun _ _ => rfl)) (pa_cons (pe_ix ix_tup (pv 0) pe_int (fun _ _ => rfl)) pa_nil))) pa_nil))))))), ?_⟩
    refine ⟨_, rfl, a, _, _, _, rfl, rfl, hA.1, rfl, ?_⟩
    refine ⟨_, rfl, a, _, _, _, rfl, rfl, hA.1, rfl, _, rfl, a, _, _, _, rfl, rfl, hA.1, rfl, two_step hA.2.1 hA.2.2.2.1 hO.sl hO.sw (by decide) (by decide) trivial fun u1 H1 s1 g1 => ?_⟩
    have hA := hA.same s1
    refine ⟨_, rfl, a, _, _, _, rfl, rfl, hA.1, rfl, ?_⟩
    refine ⟨_, rfl, a, _, _, _, rfl, rfl, hA.1, rfl, _, rfl, a, _, _, _, rfl, rfl, hA.1, rfl, two_step hA.2.2.1 hA.2.2.2.2 hO.st hO.sh (by decide) (by decide) trivial fun u2 H2 s2 g2 => ?_⟩
    have hA := hA.same s2
    refine ⟨(show 4 ≤ sizeLine by decide), fun p np => ?_⟩
    have s3 := same_new (o := .tup [v1, u1, v2, u2]) np
    exact q p v1 u1 v2 u2 _ (s1.trans (s2.trans s3)) ⟨SqT.of upd_same, hA.2.1.same s3, (g1.same s2).same s3, hA.2.2.1.same s3, g2.same s3⟩
theorem ok_law_common (T : Tops K mg) (D_law_minus : DefOk P w K mg base 3 "_law_minus" ps__law_minus (spTwo K (fun _ _ => True) fun x y => x - y)) (D_law_less : DefOk P w K mg base 1 "_law_less" ps__law_less (spLess K)) : DefOk P w K mg base 4 "_law_common" ps__law_common (spCmn K) := by
  refine T.d_law_common.ok sc__law_common (fun vs H Q E h => ?_) (fun f cdv A outer s H vs Q E hr h => ?_)
  · unfold spCmn at h
    obtain ⟨_, _, _, _, _, _, _, _, rfl, _⟩ := h
    rfl
  · unfold spCmn at h
    obtain ⟨v1, v2, v3, v4, x, l, y, m, rfl, h1, h2, h3, h4, s1, s2, s3, s4, q⟩ := h
    refine ⟨_, (C8.pss_cut (ps_set (i := 4) sc__law_common.nd rfl (.inl rfl) (pe_ifExp (pt_val (pe_callD D_law_less hr (by decide) (by rfl) (pa_cons (pv 0) (pa_cons (pv 2) pa_nil)))) (pv 2) (pv 0))) (C8.pss_cut (ps_set (i := 5) sc__law_common.nd rfl (.inl rfl) (pe_ifExp (pt_val (pe_callD D_law_less hr (by decide) (by rfl) (pa_cons (pv 1) (pa_cons (pv 3) pa_nil)))) (pv 1) (pv 3))) (pss_one (ps_ret (pe_ifExp (pt_val (pe_callD D_law_less hr (by decide) (by rfl) (pa_cons (pv 4) (pa_cons (pv 5) pa_nil)))) (pe_callD D_law_minus hr (by decide) (by rfl) (pa_cons (pv 5) (pa_cons (pv 4) pa_nil))) (pe_tup (pa_cons pe_int (pa_cons pe_int pa_nil)))))))), ?_⟩
    refine ⟨fun σ' H' => ∃ vb, σ' = [some v1, some v2, some v3, some v4, some vb, none] ∧ H' = H ∧ PtV K H vb (gr x y), ?_, ?_⟩
    · refine ⟨_, rfl, _, rfl, less_step h1 h3 s1 s3 (by decide) (by decide) ⟨_, rfl, ?_⟩⟩
      by_cases c : x < y
      · rw [decide_eq_true c]
        exact ⟨_, rfl, _, rfl, rfl, by unfold gr; rw [if_pos c]; exact h3⟩
      · rw [decide_eq_false c]
        exact ⟨_, rfl, _, rfl, rfl, by unfold gr; rw [if_neg c]; exact h1⟩
    rintro σ' H' ⟨vb, rfl, rfl, hb⟩
    refine ⟨fun σ' H'' => ∃ ve, σ' = [some v1, some v2, some v3, some v4, some vb, some ve] ∧ H'' = H' ∧ PtV K H' ve (ls l m), ?_, ?_⟩
    · refine ⟨_, rfl, _, rfl, less_step h2 h4 s2 s4 (by decide) (by decide) ⟨_, rfl, ?_⟩⟩
      by_cases c : l < m
      · rw [decide_eq_true c]
        exact ⟨_, rfl, _, rfl, rfl, by unfold ls; rw [if_pos c]; exact h2⟩
      · rw [decide_eq_false c]
        exact ⟨_, rfl, _, rfl, rfl, by unfold ls; rw [if_neg c]; exact h4⟩
    rintro σ' H'' ⟨ve, rfl, rfl, he⟩
    have z1 := sz_gr s1 s3
    have z2 := sz_ls s2 s4
    refine ⟨_, rfl, _, rfl, less_step hb he z1 z2 (by decide) (by decide) ⟨_, rfl, ?_⟩⟩
    by_cases c : gr x y < ls l m
    · rw [decide_eq_true c]
      refine ⟨_, rfl, _, rfl, two_step he hb z2 z1 (by decide) (by decide) trivial fun u G e g => q u G e ?_⟩
      unfold cmn
      rw [if_pos c]
      exact g
    · rw [decide_eq_false c]
      refine ⟨(show 2 ≤ sizeLine by decide), fun p np => q _ _ (same_new np) ?_⟩
      unfold cmn
      rw [if_neg c]
      exact PtV.new (q := 0) rfl rfl
theorem ok_law_edge (T : Tops K mg) (D_law_plus : DefOk P w K mg base 3 "_law_plus" ps__law_plus (spTwo K (fun _ _ => True) fun x y => x + y)) (D_law_ends : DefOk P w K mg base 4 "_law_ends" ps__law_ends (spEnds K)) (D_law_common : DefOk P w K mg base 4 "_law_common" ps__law_common (spCmn K)) : DefOk P w K mg base 5 "_law_edge" ps__law_edge (spEdge K edgeM) := by
  refine T.d_law_edge.ok sc__law_edge (fun vs H Q E h => ?_) (fun f cdv A outer s H vs Q E hr h => ?_)
  · unfold spEdge at h
    obtain ⟨_, _, _, _, rfl, _⟩ := h
    rfl
  · unfold spEdge at h
    obtain ⟨v, w, p, q', rfl, hv, hw, hp, hq, q⟩ := h
    refine ⟨_, (pss_cons (ps_asg (pe_callD D_law_ends hr (by decide) (by rfl) (pa_cons (pv 0) pa_nil)) (pg_tup rfl (pgs_cons (pg_name (i := 2) sc__law_edge.nd rfl (.inl rfl)) (pgs_cons (pg_name (i := 3) sc__law_edge.nd rfl (.inl rfl)) (pgs_cons (pg_name (i := 4) sc__law_edge.nd rfl (.inl rfl)) (pgs_cons (pg_name (i := 5) sc__law_edge.nd rfl (.inl rfl)) pgs_nil)))))) (pss_cons (ps_asg (pe_callD D_law_ends hr (by decide) (by rfl) (pa_cons (pv 1) pa_nil)) (pg_tup rfl (pgs_cons (pg_name (i := 6) sc__law_edge.nd rfl (.inl rfl)) (pgs_cons (pg_name (i := 7) sc__law_edge.nd rfl (.inl rfl)) (pgs_cons (pg_name (i := 8) sc__law_edge.nd rfl (.inl rfl)) (pgs_cons (pg_name (i := 9) sc__law_edge.nd rfl (.inl rfl)) pgs_nil)))))) (pss_cons (ps_set (i := 10) sc__law_edge.nd rfl (.inl rfl) (pe_tup (pa_cons pe_int (pa_cons pe_int pa_nil)))) (C8.pss_cut (ps_if (PW.pt (pw_or (pt_cmpR (op_eqD hr.units) (pv 3) (pv 6) (nomark _)) (pw_or1 (pt_cmpR (op_eqD hr.units) (pv 7) (pv 2) (nomark _))))) (pss_one (ps_set (i := 10) sc__law_edge.nd rfl (.inl rfl) (pe_callD D_law_plus hr (by decide) (by rfl) (pa_cons (pv 10) (pa_cons (pe_callD D_law_common hr (by decide) (by rfl) (pa_cons (pv 4) (pa_cons (pv 5) (pa_cons (pv 8) (pa_cons (pv 9) pa_nil))))) pa_nil))))) pss_nil) (C8.pss_cut (ps_if (PW.pt (pw_or (pt_cmpR (op_eqD hr.units) (pv 5) (pv 8) (nomark _)) (pw_or1 (pt_cmpR (op_eqD hr.units) (pv 9) (pv 4) (nomark _))))) (pss_one (ps_set (i := 10) sc__law_edge.nd rfl (.inl rfl) (pe_callD D_law_plus hr (by decide) (by rfl) (pa_cons (pv 10) (pa_cons (pe_callD D_law_common hr (by decide) (by rfl) (pa_cons (pv 2) (pa_cons (pv 3) (pa_cons (pv 6) (pa_cons (pv 7) pa_nil))))) pa_nil))))) pss_nil) (pss_one (ps_ret (pv 10)))))))), ?_⟩
    refine ⟨_, rfl, ends_step hv hp (by decide) fun a1 u1 u2 u3 u4 G1 e1 hA => ?_⟩
    refine ⟨a1, _, rfl, hA.1, rfl, _, _, rfl, _, _, rfl, _, _, rfl, _, _, rfl, rfl, ?_⟩
    refine ⟨_, rfl, ends_step (hw.same e1) hq (by decide) fun a2 w1 w2 w3 w4 G2 e2 hB => ?_⟩
    refine ⟨a2, _, rfl, hB.1, rfl, _, _, rfl, _, _, rfl, _, _, rfl, _, _, rfl, rfl, ?_⟩
    have hA := hA.same e2
    refine ⟨(show 2 ≤ sizeLine by decide), fun p0 np0 => ?_⟩
    have e3 := same_new (o := .tup [.int 0, .int 1]) np0
    have hA := hA.same e3
    have hB := hB.same e3
    have h0 : PtV K (upd G2 p0 (.tup [.int 0, .int 1])) (.ref p0) 0 := PtV.new (q := 0) rfl rfl
    have e13 := e1.trans (e2.trans e3)
    generalize upd G2 p0 (.tup [.int 0, .int 1]) = G3 at *
    have z0 : Sz 1 (0 : Rat) := ⟨Nat.two_pow_pos _, Nat.one_lt_two_pow (by decide)⟩
    have sl := hp.sl.mono (show 900 ≤ 1801 by decide)
    have sr := sz_add hp.sl hp.sw (Nat.le_refl _)
    have st := hp.st.mono (show 900 ≤ 1801 by decide)
    have sb := sz_add hp.st hp.sh (Nat.le_refl _)
    have tl := hq.sl.mono (show 900 ≤ 1801 by decide)
    have tr := sz_add hq.sl hq.sw (Nat.le_refl _)
    have tt := hq.st.mono (show 900 ≤ 1801 by decide)
    have tb := sz_add hq.st hq.sh (Nat.le_refl _)
    have zc : ∀ {x l y m : Rat}, Sz 1801 x → Sz 1801 l → Sz 1801 y → Sz 1801 m → Sz 3603 (cmn x l y m) := fun a b c d => by
      unfold cmn
      split
      · exact sz_sub (sz_ls b d) (sz_gr a c) (by decide)
      · exact ⟨Nat.two_pow_pos _, Nat.one_lt_two_pow (by decide)⟩
    have i0 : Rat := if p.l + p.w = q'.l ∨ q'.l + q'.w = p.l then 0 + cmn p.t (p.t + p.h) q'.t (q'.t + q'.h) else 0
    refine ⟨fun σ' H' => ∃ vf, σ' = [some v, some w, some u1, some u2, some u3, some u4, some w1, some w2, some w3, some w4, some vf] ∧ Same G3 H' ∧ PtV K H' vf (if p.l + p.w = q'.l ∨ q'.l + q'.w = p.l then 0 + cmn p.t (p.t + p.h) q'.t (q'.t + q'.h) else 0), ?_, ?_⟩
    · have yes : (p.l + p.w = q'.l ∨ q'.l + q'.w = p.l) → ∀ {Z : V → Hp → Prop}, (∀ vf H', Same G3 H' → PtV K H' vf (if p.l + p.w = q'.l ∨ q'.l + q'.w = p.l then 0 + cmn p.t (p.t + p.h) q'.t (q'.t + q'.h) else 0) → Z vf H') → spCmn K [u3, u4, w3, w4] G3 (fun x H1 => spTwo K (fun _ _ => True) (fun x y => x + y) [.ref p0, x] H1 Z E0) E0 := fun c Z k => by
        refine cmn_step hA.2.2.2.1 hA.2.2.2.2 hB.2.2.2.1 hB.2.2.2.2 st sb tt tb fun y1 G4 e4 g4 => ?_
        refine two_step (h0.same e4) g4 z0 (zc st sb tt tb) (by decide) (by decide) trivial fun y2 G5 e5 g5 => k y2 G5 (e4.trans e5) ?_
        rw [if_pos c]
        exact g5
      refine ⟨_, rfl, _, rfl, ?_⟩
      refine eqD_step hA.2.2.1 hB.2.1 ?_
      refine ⟨_, rfl, iteD (fun c => ?_) (fun c => ?_)⟩
      · exact ⟨_, rfl, _, rfl, _, rfl, _, rfl, _, rfl, yes (.inl c) fun vf H' s hf => ⟨vf, rfl, s, hf⟩⟩
      · refine ⟨_, rfl, _, rfl, ?_⟩
        refine eqD_step hB.2.2.1 hA.2.1 ?_
        refine ⟨_, rfl, iteD (fun c2 => ?_) (fun c2 => ?_)⟩
        · exact ⟨_, rfl, _, rfl, _, rfl, _, rfl, _, rfl, yes (.inr c2) fun vf H' s hf => ⟨vf, rfl, s, hf⟩⟩
        · refine ⟨_, rfl, Same.refl _, ?_⟩
          rw [if_neg (fun z => z.elim c c2)]
          exact h0
    rintro σ' G4 ⟨vf, rfl, e4, hf⟩
    have zf : Sz 3606 (if p.l + p.w = q'.l ∨ q'.l + q'.w = p.l then 0 + cmn p.t (p.t + p.h) q'.t (q'.t + q'.h) else 0) := by
      split
      · exact sz_add z0 (zc st sb tt tb) (by decide)
      · exact ⟨Nat.two_pow_pos _, Nat.one_lt_two_pow (by decide)⟩
    have hA := hA.same e4
    have hB := hB.same e4
    have edge : ∀ {c : Prop} [Decidable c] {r : Rat}, edgeM p q' = (if p.l + p.w = q'.l ∨ q'.l + q'.w = p.l then 0 + cmn p.t (p.t + p.h) q'.t (q'.t + q'.h) else 0) + (if p.t + p.h = q'.t ∨ q'.t + q'.h = p.t then cmn p.l (p.l + p.w) q'.l (q'.l + q'.w) else 0) := fun {_ _ _} => rfl
    have ed := edge (c := True) (r := 0)
    clear edge i0
    generalize (if p.l + p.w = q'.l ∨ q'.l + q'.w = p.l then 0 + cmn p.t (p.t + p.h) q'.t (q'.t + q'.h) else 0) = f0 at *
    refine ⟨fun σ' H' => ∃ vf, σ' = [some v, some w, some u1, some u2, some u3, some u4, some w1, some w2, some w3, some w4, some vf] ∧ Same G4 H' ∧ PtV K H' vf (edgeM p q'), ?_, ?_⟩
    · have yes : (p.t + p.h = q'.t ∨ q'.t + q'.h = p.t) → ∀ {Z : V → Hp → Prop}, (∀ vf H', Same G4 H' → PtV K H' vf (edgeM p q') → Z vf H') → spCmn K [u1, u2, w1, w2] G4 (fun x H1 => spTwo K (fun _ _ => True) (fun x y => x + y) [vf, x] H1 Z E0) E0 := fun c Z k => by
        refine cmn_step hA.2.1 hA.2.2.1 hB.2.1 hB.2.2.1 sl sr tl tr fun y1 G5 e5 g5 => ?_
        refine two_step (hf.same e5) g5 zf (zc sl sr tl tr) (by decide) (by decide) trivial fun y2 G6 e6 g6 => k y2 G6 (e5.trans e6) ?_
        rw [ed, if_pos c]
        exact g6
      refine ⟨_, rfl, _, rfl, ?_⟩
      refine eqD_step hA.2.2.2.2 hB.2.2.2.1 ?_
      refine ⟨_, rfl, iteD (fun c => ?_) (fun c => ?_)⟩
      · exact ⟨_, rfl, _, rfl, _, rfl, _, rfl, _, rfl, yes (.inl c) fun vf H' s hf => ⟨vf, rfl, s, hf⟩⟩
      · refine ⟨_, rfl, _, rfl, ?_⟩
        refine eqD_step hB.2.2.2.2 hA.2.2.2.1 ?_
        refine ⟨_, rfl, iteD (fun c2 => ?_) (fun c2 => ?_)⟩
        · exact ⟨_, rfl, _, rfl, _, rfl, _, rfl, _, rfl, yes (.inr c2) fun vf H' s hf => ⟨vf, rfl, s, hf⟩⟩
        · refine ⟨_, rfl, Same.refl _, ?_⟩
          rw [ed, if_neg (fun z => z.elim c c2)]
          have : f0 + 0 = f0 := by grind
          rw [this]
          exact hf
    rintro σ' G5 ⟨vf2, rfl, e5, hf2⟩
    exact ⟨_, rfl, q vf2 G5 (e13.trans (e4.trans e5)) hf2⟩
theorem ok_law_names (T : Tops K mg) (D_law_get : DefOk P w K mg base 1 "_law_get" ps__law_get spGet) (D_law_pick : DefOk P w K mg base 2 "_law_pick" ps__law_pick spPick) : DefOk P w K mg base 3 "_law_names" ps__law_names spNames := by
  refine T.d_law_names.ok sc__law_names (fun vs H Q E h => ?_) (fun f cdv A outer s H vs Q E hr h => ?_)
  · unfold spNames at h
    obtain ⟨_, _, rfl, _⟩ := h
    rfl
  · unfold spNames at h
    obtain ⟨c, m, rfl, hC0, hm, q⟩ := h
    obtain ⟨cc, hC⟩ := hC0.c
    refine ⟨_, (pss_cons (ps_set (i := 2) sc__law_names.nd rfl (.inr rfl) pe_str) (pss_cons (ps_if (pt_cmpR op_gt (pv 1) pe_int (nomark _)) (pss_one ps_never) pss_nil) (pss_cons (ps_set (i := 4) sc__law_names.nd rfl (.inl rfl) (pe_op op_add pe_int (pe_callD D_law_get hr (by decide) (by rfl) (pa_cons (pv 0) (pa_cons pe_int pa_nil))))) (pss_cons (ps_set (i := 5) sc__law_names.nd rfl (.inl rfl) (pe_callD D_law_get hr (by decide) (by rfl) (pa_cons (pv 0) (pa_cons (pv 4) pa_nil)))) (pss_cons (ps_setLc (i := 6) (own := [("_law_k", 3)]) (g := gName 3) (by rfl) sc__law_names.nd rfl rfl (sw_true rfl rfl rfl (by decide +kernel)) (pi_range1 rfl T.m_range (pa_cons (pv 4) pa_nil)) (blkOk_by (own := [("_law_k", 3)]) (N := ["_law_bag_here", "_law_many", "_law_letters", "_law_k", "_law_size", "_law_place", "_law_same_here", "_law_unlike", "_law_begin", "_law_step", "_law_found", "_law_row", "_law_at"]) (sc := defScope s__law_names) (by decide +kernel)) (fun _ _ _ _ _ => (pg_name (i := 3) sc__law_names.nd rfl (.inl rfl))) (fun _ _ _ _ _ => pts_nil) (fun _ _ _ _ _ => (pe_ix (kk_ix (K := K) (r := rIx) rfl ix_seq) (pv 2) (pe_callD D_law_get hr (by decide) (by rfl) (pa_cons (pv 0) (pa_cons pe_int pa_nil))) (fun _ _ => rfl)))) (pss_cons (ps_par3 (i := 7) (j := 8) (l := 9) (by rfl) sc__law_names.nd rfl rfl rfl (by decide) (by decide) (by decide) rfl rfl rfl (pa_cons (pe_callD D_law_get hr (by decide) (by rfl) (pa_cons (pv 0) (pa_cons pe_int pa_nil))) (pa_cons (pe_callD D_law_get hr (by decide) (by rfl) (pa_cons (pv 0) (pa_cons pe_int pa_nil))) (pa_cons (pe_callD D_law_pick hr (by decide) (by rfl) (pa_cons (pv 0) (pa_cons (pe_lst (pa_cons pe_int (pa_cons pe_int (pa_cons pe_int (pa_cons pe_int (pa_cons pe_int (pa_cons pe_int (pa_cons pe_int (pa_cons pe_int pa_nil))))))))) pa_nil))) pa_nil))) (by rfl)) (pss_cons (ps_set (i := 10) sc__law_names.nd rfl (.inl rfl) (pe_lst pa_nil)) (pss_cons (ps_for PassesOwn.never rfl (pi_range1 rfl T.m_range (pa_cons (pv 1) pa_nil)) (pg_name (i := 3) sc__law_names.nd rfl (.inl rfl)) (pss_cons (ps_set (i := 11) sc__law_names.nd rfl (.inl rfl) (pe_callTy call_list_of (by rfl) T.m_list (by decide +kernel) (pa_cons (pv 6) pa_nil))) (C8.pss_cut (ps_if (pt_cmpR op_eq (pv 7) pe_int (nomark _)) (pss_one (ps_setLc (i := 11) (own := [("_law_at", 12)]) (g := gName 12) (by rfl) sc__law_names.nd rfl rfl (sw_true rfl rfl rfl (by decide +kernel)) (pi_range1 rfl T.m_range (pa_cons (pe_op op_add (pe_op op_add (pv 5) pe_int) (pe_callD D_law_get hr (by decide) (by rfl) (pa_cons (pv 0) (pa_cons (pe_op op_sub pe_int (pv 5)) pa_nil)))) pa_nil)) (blkOk_by (own := [("_law_at", 12)]) (N := ["_law_bag_here", "_law_many", "_law_letters", "_law_k", "_law_size", "_law_place", "_law_same_here", "_law_unlike", "_law_begin", "_law_step", "_law_found", "_law_row", "_law_at"]) (sc := defScope s__law_names) (by decide +kernel)) (fun _ _ _ _ _ => (pg_name (i := 12) sc__law_names.nd rfl (.inl rfl))) (fun _ _ _ _ _ => pts_nil) (fun _ _ _ _ _ => (pe_ix (kk_ix (K := K) (r := rIx) rfl ix_seq) (pv 2) (pe_callD D_law_get hr (by decide) (by rfl) (pa_cons (pv 0) (pa_cons pe_int pa_nil))) (fun _ _ => rfl))))) pss_nil) (pss_cons (ps_asg (pe_ix ix_seq (pv 2) (pe_op op_mod (pe_op op_add (pv 8) (pe_op op_mulA (pv 9) (pv 3))) pe_int) (fun _ _ => rfl)) (pg_sub (pv 11) (pv 5) set_list)) (pss_one (ps_expr (pe_bm PySem.F.plainAttrs_list PySem.F.slot_list_append PySem.F.type_list_append mt_append (pv 10) (pa_cons (pe_join pe_str (pv 11)) pa_nil)))))))) (pss_one (ps_ret (pv 10))))))))))), ?_⟩
    refine ⟨_, rfl, _, _, rfl, rfl, _, rfl, iteDF (by omega) ?_⟩
    refine ⟨_, rfl, c, 8, rfl, hC.1, by decide, by decide, fun r H1 h0 h1 hB1 k1 => ⟨_, _, rfl, rfl, ?_⟩⟩
    have hC1 := hC.kp k1 hB1
    refine ⟨_, rfl, _, rfl, c, 1 + r, rfl, hC1.1, by omega, by omega, fun pl H2 h2 h3 hB2 k2 => ?_⟩
    have hC2 := hC1.kp k2 hB2
    have k12 : Kp c H H2 := k1.k0.trans k2.k0
    -- the letters that all have
    refine ⟨_, rfl, 1 + r, rfl, by omega, by omega, fun D nD => ?_⟩
    obtain ⟨nDc, nDcc⟩ := hC2.ne nD
    have nHD := kp_none k12 nD nDc
    refine lc_range (lo := 0) (n := (1 + r).toNat) (fun i H' => ∃ cs : List Nat, (cs.length = i ∧ ∀ x ∈ cs, x < 256) ∧ H' D = some (.lst (cs.map fun c => V.str ⟨#[c]⟩)) ∧ BagC H' c cc ∧ Kp c H H') ⟨[], ⟨rfl, by simp⟩, upd_same, hC2.put nDc nDcc, kp_put k12 nHD⟩ ?_ ?_
    · rintro i H' hi ⟨cs, ⟨hl, hlo⟩, hD, hB, kk⟩
      refine ⟨rfl, _, rfl, _, rfl, c, 26, rfl, hB.1, by decide, by decide, fun x H3 h4 h5 hB3 k3 => ?_⟩
      obtain ⟨ch, hch⟩ := letters_at h4 h5
      refine .inr (.inr ⟨letters, x, ch, rfl, rfl, letters_line, hch, ?_⟩)
      refine ⟨_, k3 _ _ hD nDc, by rw [List.length_map]; exact small1000 (by omega), cs ++ [ch], ⟨by rw [List.length_append, hl]; rfl, lo_snoc hlo (letter_low hch)⟩, ?_, (hB.kp k3 hB3).put nDc nDcc, kp_put (kk.trans k3.k0) nHD⟩
      rw [upd_same, signs_snoc]
    rintro H3 ⟨cs, ⟨hcs, hcl⟩, hD, hC3, k3⟩
    refine ⟨_, rfl, c, 2, rfl, hC3.1, by decide, by decide, fun ul H4 h4 h5 hB4 k4 => ?_⟩
    refine ⟨_, rfl, c, 26, rfl, hB4, by decide, by decide, fun bg H5 h6 h7 hB5 k5 => ?_⟩
    refine ⟨_, rfl, (show 8 ≤ sizeLine by decide), fun L nL => ?_⟩
    have s6 : Same H5 (upd H5 L (.lst [.int 1, .int 3, .int 5, .int 7, .int 9, .int 11, .int 15, .int 25])) := same_new nL
    refine pick_step (hB5.same s6) upd_same (bag_ne hB5 nL) (by decide) (by decide) fun v H7 hv hB7 k7 => ?_
    obtain ⟨st, rfl, hst0, hst1, hst⟩ : ∃ st : Int, v = .int st ∧ 0 ≤ st ∧ st ≤ 25 ∧ ∀ i j : Int, 0 ≤ i → i < 26 → 0 ≤ j → j < 26 → (bg + st * (0 + i)) % 26 = (bg + st * (0 + j)) % 26 → i = j := by
      simp only [List.mem_cons, List.not_mem_nil, or_false] at hv
      rcases hv with rfl | rfl | rfl | rfl | rfl | rfl | rfl | rfl <;> exact ⟨_, rfl, by decide, by decide, fun i j _ _ _ _ e => by omega⟩
    refine ⟨_, _, _, rfl, ?_⟩
    have hD := k7 _ _ (s6 _ _ (k5 _ _ (k4 _ _ hD nDc) nDc)) nDc
    have k7 : Kp c H H7 := k3.trans (k4.k0.trans (k5.k0.trans ((Kp.of s6).trans k7)))
    obtain ⟨cd, hC7⟩ := hB7.c
    -- the names
    refine ⟨Nat.zero_le _, fun F nF => ?_⟩
    obtain ⟨nFc, nFd⟩ := hC7.ne nF
    have nHF := kp_none k7 nF nFc
    have nFD : F ≠ D := fun z => by rw [z, hD] at nF; cases nF
    have nDd : D ≠ cd := fun z => by
      obtain ⟨c', ns, p', r', x', q', e1, e2, _⟩ := hC7.1
      obtain ⟨r2, e3⟩ := hC7.2.1
      rw [e3] at e1
      cases e1
      rw [← z, hD] at e2
      have e4 := congrArg (fun o => match o with | some (HO.lst xs) => xs | _ => []) e2
      have e5 : (cs.map fun c => V.str ⟨#[c]⟩) = ns.map V.int := e4
      cases cs with
      | nil => simp at hcs; omega
      | cons a r' =>
        cases ns with
        | nil => simp at e5
        | cons b r2 => simp at e5
    refine ⟨_, rfl, (m : Int), rfl, by omega, by omega, for_range (lo := 0) (n := (m : Int).toNat) (fun i σ H' => ∃ (v3 v11 v12 : Option V) (zs : List Str), σ = [some (.ref c), some (.int m), some (.str letters), v3, some (.int (1 + r)), some (.int pl), some (.ref D), some (.int ul), some (.int bg), some (.int st), some (.ref F), v11, v12] ∧ ((∀ (j : Nat) z, zs[j]? = some z → ∃ ch, atI letters.cps.toList ((bg + st * (0 + (j : Int))) % 26) = some ch ∧ z.cps.toList[pl.toNat]? = some ch) ∧ ∀ z ∈ zs, 1 ≤ z.cps.toList.length ∧ z.cps.toList.length ≤ 8 ∧ ∀ x ∈ z.cps.toList, x < 256) ∧ zs.length = i ∧ H' F = some (.lst (zs.map V.str)) ∧ H' D = some (.lst (cs.map fun c => V.str ⟨#[c]⟩)) ∧ BagC H' c cd ∧ Kp c H H') ⟨none, none, none, [], rfl, ⟨fun _ _ e => (by simp at e), fun _ e => (by simp at e)⟩, rfl, upd_same, by rw [upd_ne nFD.symm]; exact hD, hC7.put nFc nFd, kp_put k7 nHF⟩ ?_ ?_⟩
    · rintro i σ H8 hi ⟨v3, v11, v12, zs, rfl, hnm, hz, hF, hD, hC8, k8⟩
      refine ⟨_, rfl, D, _, rfl, .inl (SqL.of hD), fun R nR => ?_⟩
      obtain ⟨nRc, nRd⟩ := hC8.ne nR
      have nHR := kp_none k8 nR nRc
      have nRF : R ≠ F := fun z => by rw [z, hF] at nR; cases nR
      have nRD : R ≠ D := fun z => by rw [z, hD] at nR; cases nR
      refine ⟨fun σ' H' => ∃ (v12 : Option V) (R : Addr) (rs : List Nat), σ' = [some (.ref c), some (.int m), some (.str letters), some (.int (0 + i)), some (.int (1 + r)), some (.int pl), some (.ref D), some (.int ul), some (.int bg), some (.int st), some (.ref F), some (.ref R), v12] ∧ (pl < rs.length ∧ ∀ x ∈ rs, x < 256) ∧ rs.length ≤ 8 ∧ H' R = some (.lst (rs.map fun c => V.str ⟨#[c]⟩)) ∧ H R = none ∧ R ≠ c ∧ R ≠ cd ∧ R ≠ F ∧ R ≠ D ∧ H' F = some (.lst (zs.map V.str)) ∧ H' D = some (.lst (cs.map fun c => V.str ⟨#[c]⟩)) ∧ BagC H' c cd ∧ Kp c H H', ?_, ?_⟩
      · have keep : ∀ {o : HO}, (upd H8 R o) F = some (.lst (zs.map V.str)) ∧ (upd H8 R o) D = some (.lst (cs.map fun c => V.str ⟨#[c]⟩)) ∧ BagC (upd H8 R o) c cd ∧ Kp c H (upd H8 R o) := fun {o} => ⟨by rw [upd_ne nRF.symm]; exact hF, by rw [upd_ne nRD.symm]; exact hD, hC8.put nRc nRd, kp_put k8 nHR⟩
        refine ⟨_, rfl, rfl, _, rfl, iteD (fun e => ?_) (fun e => ?_)⟩
        · obtain ⟨kF, kD, kC, kk⟩ := keep (o := .lst (cs.map fun c => V.str ⟨#[c]⟩))
          refine ⟨_, rfl, _, _, rfl, rfl, _, rfl, _, rfl, _, _, rfl, rfl, c, 8 - pl, rfl, kC.1, by omega, by omega, fun y H9 h8 h9 hB9 k9 => ?_⟩
          have hC9 := kC.kp k9 hB9
          refine ⟨_, _, rfl, rfl, pl + 1 + y, rfl, by omega, by omega, fun S nS => ?_⟩
          obtain ⟨nSc, nSd⟩ := hC9.ne nS
          have kk9 := kk.trans k9.k0
          have nHS := kp_none kk9 nS nSc
          have hF9 := k9 _ _ kF nFc
          have hD9 := k9 _ _ kD nDc
          have nSF : S ≠ F := fun z => by rw [z, hF9] at nS; cases nS
          have nSD : S ≠ D := fun z => by rw [z, hD9] at nS; cases nS
          refine lc_range (lo := 0) (n := (pl + 1 + y).toNat) (fun i H' => ∃ rs : List Nat, (rs.length = i ∧ ∀ x ∈ rs, x < 256) ∧ H' S = some (.lst (rs.map fun c => V.str ⟨#[c]⟩)) ∧ H' F = some (.lst (zs.map V.str)) ∧ H' D = some (.lst (cs.map fun c => V.str ⟨#[c]⟩)) ∧ BagC H' c cd ∧ Kp c H H') ⟨[], ⟨rfl, by simp⟩, upd_same, by rw [upd_ne nSF.symm]; exact hF9, by rw [upd_ne nSD.symm]; exact hD9, hC9.put nSc nSd, kp_put kk9 nHS⟩ ?_ ?_
          · rintro j H' hj ⟨rs, ⟨hl, hlo⟩, hS, hF', hD', hB, kq⟩
            refine ⟨rfl, _, rfl, _, rfl, c, 26, rfl, hB.1, by decide, by decide, fun x H3 h4 h5 hB3 k3 => ?_⟩
            obtain ⟨ch, hch⟩ := letters_at h4 h5
            refine .inr (.inr ⟨letters, x, ch, rfl, rfl, letters_line, hch, ?_⟩)
            refine ⟨_, k3 _ _ hS nSc, by rw [List.length_map]; exact small1000 (by omega), rs ++ [ch], ⟨by rw [List.length_append, hl]; rfl, lo_snoc hlo (letter_low hch)⟩, ?_, ?_, ?_, (hB.kp k3 hB3).put nSc nSd, kp_put (kq.trans k3.k0) nHS⟩
            · rw [upd_same, signs_snoc]
            · rw [upd_ne nSF.symm]
              exact k3 _ _ hF' nFc
            · rw [upd_ne nSD.symm]
              exact k3 _ _ hD' nDc
          · rintro H10 ⟨rs, ⟨hl, hlo⟩, hS, hF', hD', hB, kq⟩
            exact ⟨_, S, rs, rfl, ⟨by omega, hlo⟩, by omega, hS, nHS, nSc, nSd, nSF, nSD, hF', hD', hB, kq⟩
        · obtain ⟨kF, kD, kC, kk⟩ := keep (o := .lst (cs.map fun c => V.str ⟨#[c]⟩))
          exact ⟨_, R, cs, rfl, ⟨by omega, hcl⟩, by omega, upd_same, nHR, nRc, nRd, nRF, nRD, kF, kD, kC, kk⟩
      rintro σ' H9 ⟨v12', R, rs, rfl, ⟨hp, hrlo⟩, hrl, hR, nHR, nRc, nRd, nRF, nRD, hF, hD, hC9, k9⟩
      have e0 : (0 : Int) ≤ (bg + st * (0 + (i : Int))) % 26 := Int.emod_nonneg _ (by decide)
      have e1 : (bg + st * (0 + (i : Int))) % 26 < 26 := Int.emod_lt_of_pos _ (by decide)
      obtain ⟨ch, hch⟩ := letters_at e0 e1
      refine ⟨_, rfl, _, rfl, _, rfl, _, rfl, _, _, rfl, rfl, cmul_l ⟨by omega, by omega⟩, _, _, rfl, rfl, _, _, rfl, rfl, (show (0 : Int) < 26 by decide), .inr (.inr ⟨letters, _, ch, rfl, rfl, letters_line, hch, ?_⟩)⟩
      obtain ⟨pn, rfl⟩ := Int.eq_ofNat_of_zero_le h2
      refine ⟨_, rfl, _, rfl, R, _, _, pn, rfl, rfl, hR, ixN_n (by rw [List.length_map]; omega), ?_⟩
      rw [signs_set]
      have kR : (upd H9 R (.lst ((rs.set pn ch).map fun c => V.str ⟨#[c]⟩))) R = _ := upd_same
      have kF : (upd H9 R (.lst ((rs.set pn ch).map fun c => V.str ⟨#[c]⟩))) F = some (.lst (zs.map V.str)) := by rw [upd_ne nRF.symm]; exact hF
      refine ⟨_, rfl, .inl ⟨rfl, _, SqL.of kF⟩, ⟨_, rfl⟩, _, rfl, "", R, (rs.set pn ch).map sign', rfl, rfl, .inl (by rw [← signs_strs]; exact SqL.of kR), ?_, ?_⟩
      · rw [signs_len, List.length_map, List.length_set]
        show rs.length + rs.length * 0 ≤ 16777216
        omega
      refine ⟨F, _, _, rfl, rfl, kF, by rw [List.length_map]; exact small1000 (by omega), ?_⟩
      have hjs := join_signs (rs.set pn ch)
      refine ⟨_, _, _, zs ++ [_], rfl, ⟨fun j z e => ?_, fun z hz' => ?_⟩, by rw [List.length_append, hz]; rfl, by rw [upd_same, List.map_append]; rfl, ?_, ((hC9.put nRc nRd).put nFc nFd), kp_put (kp_put k9 nHR) nHF⟩
      · rcases Nat.lt_trichotomy j zs.length with h1 | h1 | h1
        · rw [List.getElem?_append_left h1] at e
          exact hnm.1 j z e
        · subst h1
          have hz2 : Txt.join "" ((rs.set pn ch).map sign') = z := by simpa using e
          refine ⟨ch, by rw [hz]; exact hch, ?_⟩
          rw [← hz2, hjs, Int.toNat_natCast, List.getElem?_set_self (by omega)]
        · rw [List.getElem?_eq_none (by rw [List.length_append, List.length_singleton]; omega)] at e
          cases e
      · rcases List.mem_append.mp hz' with h1 | h1
        · exact hnm.2 z h1
        · rw [List.mem_singleton.mp h1]
          show 1 ≤ (Txt.join "" ((rs.set pn ch).map sign')).cps.toList.length ∧ (Txt.join "" ((rs.set pn ch).map sign')).cps.toList.length ≤ 8 ∧ ∀ x ∈ (Txt.join "" ((rs.set pn ch).map sign')).cps.toList, x < 256
          rw [hjs, List.length_set]
          exact ⟨by omega, by omega, lo_set hrlo (letter_low hch)⟩
      · rw [upd_ne nFD.symm, upd_ne nRD.symm]
        exact hD
    · rintro σ H8 ⟨v3, v11, v12, zs, rfl, hnm, hz, hF, hD, hC8, k8⟩
      exact ⟨_, rfl, q F zs H8 nHF hF (by omega) ⟨names_nodup (by omega) hst hnm.1, fun z hz' => ⟨(hnm.2 z hz').1, (hnm.2 z hz').2.1⟩, fun z hz' => (hnm.2 z hz').2.2⟩ hC8.1 k8⟩
theorem ok_law_boxes_named (T : Tops K mg) (D_law_plain_box : DefOk P w K mg base 6 "_law_plain_box" ps__law_plain_box (spPlainBox K)) (D_law_weights : DefOk P w K mg base 3 "_law_weights" ps__law_weights (spWeights K)) (D_law_sizes : DefOk P w K mg base 2 "_law_sizes" ps__law_sizes (spLSizes K)) (D_law_lean : DefOk P w K mg base 2 "_law_lean" ps__law_lean spLean) (D_law_laid : DefOk P w K mg base 5 "_law_laid" ps__law_laid (spLLaid K)) (D_law_names : DefOk P w K mg base 3 "_law_names" ps__law_names spNames) : DefOk P w K mg base 7 "_law_boxes_named" ps__law_boxes_named (spBoxesNamed K) := by
  refine T.d_law_boxes_named.ok sc__law_boxes_named (fun vs H Q E h => ?_) (fun f cdv A outer s H vs Q E hr h => ?_)
  · unfold spBoxesNamed at h
    obtain ⟨_, _, rfl, _⟩ := h
    rfl
  · unfold spBoxesNamed at h
    obtain ⟨c, m, rfl, hC, hm0, hm1, q⟩ := h
    refine ⟨_, (pss_cons (ps_set (i := 2) sc__law_boxes_named.nd rfl (.inl rfl) (pe_callD D_law_weights hr (by decide) (by rfl) (pa_cons (pv 0) (pa_cons (pv 1) pa_nil)))) (pss_cons (ps_set (i := 3) sc__law_boxes_named.nd rfl (.inl rfl) (pe_callD D_law_plain_box hr (by decide) (by rfl) (pa_cons (pv 0) pa_nil))) (pss_cons (ps_set (i := 4) sc__law_boxes_named.nd rfl (.inl rfl) (pe_callD D_law_names hr (by decide) (by rfl) (pa_cons (pv 0) (pa_cons (pe_callB call_len_seq (by rfl) T.m_len PySem.boot_len (pa_cons (pv 2) pa_nil)) pa_nil)))) (pss_cons (ps_set (i := 5) sc__law_boxes_named.nd rfl (.inl rfl) (pe_callD D_law_laid hr (by decide) (by rfl) (pa_cons (pv 3) (pa_cons (pv 2) (pa_cons (pe_callD D_law_sizes hr (by decide) (by rfl) (pa_cons (pv 0) (pa_cons (pe_callB call_len_seq (by rfl) T.m_len PySem.boot_len (pa_cons (pv 2) pa_nil)) pa_nil))) (pa_cons (pe_callD D_law_lean hr (by decide) (by rfl) (pa_cons (pv 0) pa_nil)) pa_nil)))))) (pss_one (ps_ret (pe_tup (pa_cons (pv 3) (pa_cons (pe_callTy (call_dictP rfl) (by rfl) T.m_dict (by decide +kernel) (pa_cons (pe_listZip rfl (pa_cons (pv 4) (pa_cons (pv 5) pa_nil)) (by rfl) T.m_list (by decide +kernel) (by rfl) T.m_zip) pa_nil)) pa_nil))))))))), ?_⟩
    refine ⟨_, rfl, _, rfl, weights_step hC hm0 hm1 fun L ws H1 nL hL hW hC1 k1 => ?_⟩
    have hl0 := hW.l0
    have hl1 := hW.l1
    have nLc := bag_ne hC nL
    refine ⟨_, rfl, plainbox_step hC1 fun w bx H2 hw hb l0 t0 hC2 k2 => ?_⟩
    have hL := k2 _ _ hL nLc
    refine ⟨_, rfl, _, rfl, L, _, rfl, .inl (SqL.of hL), ?_⟩
    rw [List.length_map]
    refine names_step (m := ws.length) hC2 (by omega) fun N zs H3 nN hN hzl hzn hC3 k3 => ?_
    have nNc := bag_ne hC2 nN
    have hL := k3 _ _ hL nLc
    have hw := hw.bag k3 hC2
    refine ⟨_, rfl, _, rfl, _, rfl, _, rfl, L, _, rfl, .inl (SqL.of hL), ?_⟩
    rw [List.length_map]
    refine lsizes_step (n := ws.length) hC3 hl0 hl1 fun t ss H4 ht hSz hC4 k4 => ?_
    have hL := k4 _ _ hL nLc
    have hN := k4 _ _ hN nNc
    have hw := hw.bag k4 hC3
    refine ⟨_, rfl, lean_step hC4 fun d H5 hC5 k5 => ?_⟩
    have hL := k5 _ _ hL nLc
    have hN := k5 _ _ hN nNc
    have hw := hw.bag k5 hC4
    have ntc : t ≠ c := fun z => by
      obtain ⟨ys, hy⟩ := hC4.lst
      rw [← z, ht] at hy
      cases hy
    have ht := k5 _ _ ht ntc
    refine llaid_step (d := d) hw hb (by decide) (SqL.of hL) hW (.inr (SqT.of ht)) hSz fun U us H6 nU s6 hU hBs => ?_
    have hN := s6 _ _ hN
    have hul := hBs.len
    rw [laidM_len _ _ hSz] at hul
    refine ⟨_, rfl, _, rfl, _, rfl, N, U, zs.map V.str, us, rfl, SqL.of hN, SqL.of hU, by rw [List.length_map]; omega, by rw [List.length_map]; omega, fun p ts H7 np nts s7 hp htl hts => ?_⟩
    have hkl : ((zs.map (Sum.inr : Str → Key)).zip us).length = ts.length := by
      rw [List.length_zip, List.length_map, htl, List.length_map]
      omega
    refine ⟨p, ts, (zs.map Sum.inr).zip us, rfl, SqL.of hp, ?_, fun D nD => ⟨(show 2 ≤ sizeLine by decide), fun P nP => ?_⟩⟩
    · refine paired_of _ _ hkl.symm fun j t kv h1 h2 => ?_
      obtain ⟨key, v⟩ := kv
      rw [List.getElem?_zip_eq_some] at h2
      obtain ⟨h3, h4⟩ := h2
      rw [List.getElem?_map] at h3
      cases e : zs[j]? with
      | none =>
        rw [e] at h3
        cases h3
      | some z =>
        rw [e] at h3
        cases h3
        exact SqT.of (hts j t (.str z) v h1 (by rw [List.getElem?_map, e]; rfl) h4)
    have k6 : Kp c H H6 := k1.trans (k2.trans (k3.trans (k4.trans (k5.trans (Kp.of s6)))))
    have k7 := k6.trans (Kp.of s7)
    have hC7 := (hC5.same s6).same s7
    have s8 := same_new (o := .dK (mergeK [] ((zs.map Sum.inr).zip us))) nD
    have s9 := same_new (o := .tup [w, .ref D]) nP
    have hC8 := hC7.same s8
    have k8 := k7.trans (Kp.of s8)
    have e8 := s6.trans (s7.trans s8)
    refine q P w D bx zs us ws ss d _ (kp_none k8 nP (bag_ne hC8 nP)) upd_same (kp_none k7 nD (bag_ne hC7 nD)) ⟨(hw.same e8).same s9, hb, l0, t0, hW, hSz, by omega, hzn, ((hBs.same s7).same s8).same s9, ?_⟩ (hC8.same s9) (k8.trans (Kp.of s9))
    exact s9 _ _ upd_same
theorem ok_law_near (T : Tops K mg) (D_law_edge : DefOk P w K mg base 5 "_law_edge" ps__law_edge (spEdge K edgeM)) : DefOk P w K mg base 6 "_law_near" ps__law_near (spNear K) := by
  refine T.d_law_near.ok sc__law_near (fun vs H Q E h => ?_) (fun f cdv A outer s H vs Q E hr h => ?_)
  · unfold spNear at h
    obtain ⟨_, _, _, _, _, rfl, _⟩ := h
    rfl
  · unfold spNear at h
    obtain ⟨D, z, kvs, ns, b, rfl, hD, hN, hb, q⟩ := h
    refine ⟨_, (pss_cons (ps_set (i := 2) sc__law_near.nd rfl (.inl rfl) (pe_lst pa_nil)) (pss_cons (ps_for PassesOwn.never rfl (pi_list (pe_callB (call_sortedD rfl) (by rfl) T.m_sorted (by decide +kernel) (pa_cons (pv 0) pa_nil))) (pg_name (i := 3) sc__law_near.nd rfl (.inl rfl)) (pss_cons (ps_set (i := 4) sc__law_near.nd rfl (.inl rfl) (pe_callD D_law_edge hr (by decide) (by rfl) (pa_cons (pe_dget (u1 hr.units) (pv 0) (pv 1) (fun _ _ => rfl)) (pa_cons (pe_dget (u1 hr.units) (pv 0) (pv 3) (fun _ _ => rfl)) pa_nil)))) (pss_one (ps_if (PW.pt (pw_and (pt_cmpR op_ne (pv 3) (pv 1) (nomark _)) (pw_and1 (pt_cmpR op_gt (pe_ix ix_tup (pv 4) pe_int (fun _ _ => rfl)) pe_int (nomark _))))) (pss_one (ps_expr (pe_bm PySem.F.plainAttrs_list PySem.F.slot_list_append PySem.F.type_list_append mt_append (pv 2) (pa_cons (pe_tup (pa_cons (pv 3) (pa_cons (pv 4) pa_nil))) pa_nil)))) pss_nil)))) (pss_one (ps_ret (pv 2))))), ?_⟩
    obtain ⟨vz, hvz, hbz⟩ := nm_val hD.pr hb
    have hbok := hN.ok _ (bxOf_some hb)
    refine ⟨Nat.zero_le _, fun F nF => ?_⟩
    have sF := same_new (o := .lst []) nF
    have hF : (upd H F (.lst [])) F = some (.lst []) := upd_same
    have ek := pr_keys (fun _ _ x => x.1) hD.pr
    refine ⟨_, rfl, D, kvs, ns.map (·.1), rfl, Rd.same hD.at_ sF, ek, by rw [List.length_map]; have := hN.len; omega, fun ys P hp hs nP => ?_⟩
    have ey := srt_of hp hs
    subst ey
    have sP := same_new (o := .lst ((srt (ns.map (·.1))).map V.str)) nP
    have s0 := sF.trans sP
    have hF := sP _ _ hF
    have hP : (upd (upd H F (.lst [])) P (.lst ((srt (ns.map (·.1))).map V.str))) P = some (.lst ((srt (ns.map (·.1))).map V.str)) := upd_same
    have nPF : P ≠ F := fun e => by
      subst e
      rw [upd_same] at nP
      cases nP
    generalize upd (upd H F (.lst [])) P (.lst ((srt (ns.map (·.1))).map V.str)) = H1 at *
    refine ⟨P, rfl, ⟨_, SqL.of hP⟩, ?_⟩
    have hl : (srt (ns.map (·.1))).length ≤ 20 := by
      rw [(srt_perm _).length_eq, List.length_map]
      exact hN.len
    refine for_list (xs := (srt (ns.map (·.1))).map V.str) (fun i σ H' => ∃ (v3 v4 : Option V) (us : List V), σ = [some (.ref D), some (.str z), some (.ref F), v3, v4] ∧ Same H H' ∧ H' F = some (.lst us) ∧ H' P = some (.lst ((srt (ns.map (·.1))).map V.str)) ∧ Al (SpV K H') us (((srt (ns.map (·.1))).take i).filterMap (nearAt ns b))) ⟨none, none, [], rfl, s0, hF, hP, .nil⟩ (fun i σ H' _ ⟨_, _, _, _, _, _, h, _⟩ => SqL.of h) ?_ ?_
    · rintro i x σ H2 hx ⟨v3, v4, us, rfl, s2, hF2, hP2, hU⟩
      rw [List.getElem?_map] at hx
      obtain ⟨y, hy, rfl⟩ := Option.map_eq_some_iff.mp hx
      obtain ⟨c, hc⟩ := bxOf_key (ns := ns) (z := y) ((srt_perm _).mem_iff.mp (List.mem_of_getElem? hy))
      obtain ⟨vy, hvy, hby⟩ := nm_val hD.pr hc
      have hcok := hN.ok _ (bxOf_some hc)
      have hD2 := hD.same s2
      have et : ((srt (ns.map (·.1))).take (i + 1)).filterMap (nearAt ns b) = ((srt (ns.map (·.1))).take i).filterMap (nearAt ns b) ++ (nearAt ns b y).toList := by
        rw [List.take_add_one, hy, List.filterMap_append]
        show _ ++ List.filterMap _ [y] = _
        rw [List.filterMap_cons]
        cases nearAt ns b y <;> rfl
      have en : nearAt ns b y = if edgeM b c = 0 then none else some (y, edgeM b c) := by
        unfold nearAt
        rw [hc, ← touch_edge hbok hcok]
      have e0 : 0 ≤ edgeM b c := by
        rw [← touch_edge hbok hcok]
        exact touch_nn b c
      have self : y = z → edgeM b c = 0 := fun e => by
        rw [e, hb] at hc
        cases hc
        rw [← touch_edge hbok hbok]
        exact touch_self hbok
      refine ⟨_, rfl, _, rfl, D, vz, rfl, .inl ⟨kvs, Sum.inr z, hD2.at_, rfl, hvz.symm⟩, _, rfl, _, rfl, D, vy, rfl, .inl ⟨kvs, Sum.inr y, hD2.at_, rfl, hvy.symm⟩, ?_⟩
      refine edge_step (hbz.same s2) (hby.same s2) hbok hcok (by decide) (by decide) fun u H3 s3 hu => ?_
      obtain ⟨pu, rfl, hpu⟩ := hu
      have hu : PtV K H3 (.ref pu) (edgeM b c) := ⟨pu, rfl, hpu⟩
      have hU3 := Al.mono (fun v x (h : SpV K H2 v x) => h.same s3) hU
      have hF3 := s3 _ _ hF2
      have hP3 := s3 _ _ hP2
      have s3 := s2.trans s3
      refine ⟨_, rfl, _, rfl, ?_⟩
      have no : ∀ (v3 v4 : Option V), edgeM b c = 0 → ∃ (v3' v4' : Option V) (us' : List V), [some (V.ref D), some (.str z), some (.ref F), v3, v4] = [some (.ref D), some (.str z), some (.ref F), v3', v4'] ∧ Same H H3 ∧ H3 F = some (.lst us') ∧ H3 P = some (.lst ((srt (ns.map (·.1))).map V.str)) ∧ Al (SpV K H3) us' (((srt (ns.map (·.1))).take (i + 1)).filterMap (nearAt ns b)) := fun v3 v4 e => by
        rw [if_pos e] at en
        refine ⟨v3, v4, us, rfl, s3, hF3, hP3, ?_⟩
        rw [et, en]
        simpa using hU3
      refine ⟨rfl, _, rfl, iteB (fun e => ?_) (fun e => ?_)⟩
      · have nyz : y ≠ z := fun q => by rw [q] at e; simp at e
        refine ⟨_, rfl, pu, _, _, _, rfl, rfl, hpu, rfl, ?_⟩
        refine ⟨_, _, rfl, rfl, _, rfl, iteB (fun e2 => ?_) (fun e2 => ?_)⟩
        · have e2 : 0 < (edgeM b c).num := of_decide_eq_true e2
          have ne : ¬ edgeM b c = 0 := fun q => by rw [q] at e2; exact absurd e2 (by decide)
          rw [if_neg ne] at en
          refine ⟨_, rfl, .inl ⟨rfl, _, SqL.of hF3⟩, _, rfl, _, rfl, (show 2 ≤ sizeLine by decide), fun p np => ?_⟩
          have sp := same_new (o := .tup [.str y, .ref pu]) np
          refine ⟨F, us, _, rfl, rfl, sp _ _ hF3, small1000 (by rw [hU.len]; have := List.length_filterMap_le (nearAt ns b) ((srt (ns.map (·.1))).take i); rw [List.length_take] at this; omega), ?_⟩
          have hF4 := sp _ _ hF3
          refine ⟨_, _, us ++ [.ref p], rfl, same_write nF (s3.trans sp), upd_same, by rw [upd_ne nPF]; exact sp _ _ hP3, ?_⟩
          rw [et, en]
          exact (Al.mono (fun v x (h : SpV K H3 v x) => (h.same sp).kp Kp.upd hF4) hU3).snoc ((SpV.mk np hu).kp Kp.upd hF4)
        · have e2 : ¬ 0 < (edgeM b c).num := of_decide_eq_false e2
          exact no _ _ (by have := Rat.num_nonneg.mpr e0; exact Rat.num_eq_zero.mp (by omega))
      · have yz : y = z := by simpa using e
        exact no _ _ (self yz)
    · rintro σ H2 ⟨v3, v4, us, rfl, s2, hF2, hP2, hU⟩
      rw [List.length_map, List.take_length] at hU
      exact ⟨_, rfl, q F us H2 nF s2 hF2 hU⟩
theorem ok_law_lost (T : Tops K mg) : AskD P w K mg base 1 "_law_lost" (tLost K mg) := by
  obtain ⟨c1, e1⟩ : ∃ c, mg "NoName" = some c := by
    obtain ⟨C, fI, fd, Z, _⟩ := T.x_NoName
    exact ⟨_, Z.mgC⟩
  refine ask_D T.d_law_lost sc__law_lost fun g cdv j A outer s H f c' q tl Q hr a hc h => ?_
  obtain ⟨E, R, hE, hR, h⟩ := h
  refine ⟨_, pss_cons (ps_set (i := 1) sc__law_lost.nd rfl (.inl rfl) pe_non)
    (pss_cons (ps_try_named (i := 2) rfl rfl sc__law_lost.nd rfl rfl L2.takes0
      (fun W pn xe tk _ => pss_one (ps_expr (pe_acts (i := 0) a rfl hr tk rfl (.inl rfl))))
      (.cons ⟨rfl, by decide, .inl e1⟩ (fun e oe cls d pn hz hf => pss_one (ps_set (i := 1) sc__law_lost.nd rfl (.inl rfl) (pe_fldx hz hf (pv 2)))) .nil))
      (pss_one (ps_ret (pv 1)))), ?_⟩
  refine ⟨rfl, hc, E, R, fun cls d G hz => ?_, fun v G hv => ?_, h _ (Same.refl _)⟩
  · obtain ⟨y, ⟨C, dd, rfl, hm, xf, no1, no2, tk, rfl, ed⟩, hq⟩ := hE _ _ _ hz
    rw [e1] at hm
    cases hm
    refine ⟨true, tk, fun _ x nx => ?_, fun z => nomatch z⟩
    exact ⟨_, rfl, rfl, C, dd, _, y, rfl, xf, no2, rfl, ed, rfl, _, rfl, hq _ (Same.refl _)⟩
  · exact ⟨_, rfl, hR v G hv _ (Same.refl _)⟩
theorem okx_check_name (T : Tops K mg) (Z_NoName : ExcOkN P w K mg base "NoName") : DefOkX P w K mg base 3 "_check_name" ps__check_name (spCheckNX K mg) := by
  refine T.d_check_name.okX sc__check_name (fun vs H Q E h => ?_) (fun f cdv A outer s H vs Q E hr h => ?_)
  · unfold spCheckNX at h
    obtain ⟨_, _, _, rfl, _⟩ := h
    rfl
  · unfold spCheckNX at h
    obtain ⟨D, z, kvs, rfl, hD, q, hE⟩ := h
    refine ⟨_, (pss_one (ps_if (PW.pt (pw_or (pt_not (pt_val (pe_callB call_isiI (by rfl) T.m_isinstance (by decide +kernel) (pa_cons (pv 1) (pa_cons (pe_bltn (v := V.ty "str") (u := Value.type "str") (by rfl) T.m_str (by decide +kernel) rfl) pa_nil))))) (pw_or1 (pt_cmp (pc_dnotin (u1 hr.units) (pv 1) (pv 0)) (by rfl))))) (pss_one (ps_raise rfl (takes_of rfl rfl rfl rfl) (pmk_n Z_NoName (hr.mono (by decide)) (by rfl) (pa_cons (pv 1) pa_nil)))) pss_nil)), ?_⟩
    have hi : Dp K H (.str z) (.str z) := .str z
    refine ⟨_, rfl, isi_step "str" "str" true hi rfl (by decide +kernel) ⟨true, rfl, iteF ?_⟩⟩
    cases hv : valV kvs (Sum.inr z) with
    | some u =>
      refine ⟨_, rfl, _, rfl, D, some u, rfl, .inl ⟨kvs, Sum.inr z, hD, rfl, hv.symm⟩, _, rfl, ?_⟩
      exact iteF (q ⟨u, hv⟩)
    | none =>
      refine ⟨_, rfl, _, rfl, D, none, rfl, .inl ⟨kvs, Sum.inr z, hD, rfl, hv.symm⟩, _, rfl, ?_⟩
      exact iteT ⟨_, rfl, _, rfl, hE hv⟩
theorem okx_neighbours (T : Tops K mg) (D_touching : DefOk P w K mg base 5 "touching" ps_touching (spEdge K touchM)) (DX_check_name : DefOkX P w K mg base 3 "_check_name" ps__check_name (spCheckNX K mg)) : DefOkX P w K mg base 6 "neighbours" ps_neighbours (spNearX K mg) := by
  refine T.d_neighbours.okX sc_neighbours (fun vs H Q E h => ?_) (fun f cdv A outer s H vs Q E hr h => ?_)
  · unfold spNearX at h
    obtain ⟨_, _, _, rfl, _⟩ := h
    rfl
  · unfold spNearX at h
    obtain ⟨D, z, kvs, rfl, hD, h0, hE⟩ := h
    obtain ⟨na_NOUGHT, mg_NOUGHT, h0N⟩ := T.m_NOUGHT
    refine ⟨_, (pss_cons (ps_expr (pe_callX DX_check_name hr (by decide) (takes_of rfl rfl rfl rfl) (by rfl) (pa_cons (pv 0) (pa_cons (pv 1) pa_nil)))) (pss_cons (ps_set (i := 2) sc_neighbours.nd rfl (.inl rfl) (pe_lst pa_nil)) (pss_cons (ps_for (passes_of rfl) rfl (pi_list (pe_callB cr_sortedS (by rfl) T.m_sorted (by decide +kernel) (pa_cons (pe_callTy (call_list_dKR rfl) (by rfl) T.m_list (by decide +kernel) (pa_cons (pv 0) pa_nil)) pa_nil))) (pg_name (i := 3) sc_neighbours.nd rfl (.inl rfl)) (pss_cons (ps_set (i := 4) sc_neighbours.nd rfl (.inl rfl) (pe_callD D_touching hr (by decide) (by rfl) (pa_cons (pe_dget (u1 hr.units) (pv 0) (pv 1) (fun _ _ => rfl)) (pa_cons (pe_dget (u1 hr.units) (pv 0) (pv 3) (fun _ _ => rfl)) pa_nil)))) (pss_one (ps_if (pt_cmpR (op_neD hr.units) (pv 4) (pe_glob (v := V.ref na_NOUGHT) (by rfl) mg_NOUGHT rfl) (nomark _)) (pss_one (ps_expr (pe_bm PySem.F.plainAttrs_list PySem.F.slot_list_append PySem.F.type_list_append mt_append (pv 2) (pa_cons (pe_tup (pa_cons (pv 3) (pa_cons (pv 4) pa_nil))) pa_nil)))) pss_nil)))) (pss_one (ps_ret (pv 2)))))), ?_⟩
    exact ⟨_, rfl, _, rfl, checknx_step hD (fun ⟨u, e⟩ => by rw [h0] at e; cases e) fun _ => hE⟩
theorem okx_way (T : Tops K mg) (D_next_step : DefOk P w K mg base 7 "_next_step" ps__next_step (spNext K)) (D_steps_to : DefOk P w K mg base 7 "_steps_to" ps__steps_to (spSteps K)) (DX_check_name : DefOkX P w K mg base 3 "_check_name" ps__check_name (spCheckNX K mg)) : DefOkX P w K mg base 8 "way" ps_way (spWayX K mg) := by
  refine T.d_way.okX sc_way (fun vs H Q E h => ?_) (fun f cdv A outer s H vs Q E hr h => ?_)
  · unfold spWayX at h
    obtain ⟨_, _, _, _, rfl, _⟩ := h
    rfl
  · unfold spWayX at h
    obtain ⟨D, y, z, kvs, rfl, hD, h⟩ := h
    refine ⟨_, (pss_cons (ps_expr (pe_callX DX_check_name hr (by decide) (takes_of rfl rfl rfl rfl) (by rfl) (pa_cons (pv 0) (pa_cons (pv 1) pa_nil)))) (pss_cons (ps_expr (pe_callX DX_check_name hr (by decide) (takes_of rfl rfl rfl rfl) (by rfl) (pa_cons (pv 0) (pa_cons (pv 2) pa_nil)))) (pss_cons (ps_set (i := 3) sc_way.nd rfl (.inl rfl) (pe_callD D_steps_to hr (by decide) (by rfl) (pa_cons (pv 0) (pa_cons (pv 2) pa_nil)))) (pss_cons (ps_if (pt_cmp (pc_dnotin (u1 hr.units) (pv 1) (pv 3)) (by rfl)) (pss_one (ps_ret pe_non)) pss_nil) (pss_cons (ps_set (i := 4) sc_way.nd rfl (.inl rfl) (pe_lst (pa_cons (pv 1) pa_nil))) (pss_cons (ps_while (passes_of rfl) (pt_cmpR op_gt (pe_dget (u1 hr.units) (pv 3) (pe_ix ix_list (pv 4) (pe_un un_neg pe_int) (fun _ _ => rfl)) (fun _ _ => rfl)) pe_int (nomark _)) (pss_one (ps_expr (pe_bm PySem.F.plainAttrs_list PySem.F.slot_list_append PySem.F.type_list_append mt_append (pv 4) (pa_cons (pe_callD D_next_step hr (by decide) (by rfl) (pa_cons (pv 0) (pa_cons (pe_ix ix_list (pv 4) (pe_un un_neg pe_int) (fun _ _ => rfl)) (pa_cons (pv 3) pa_nil)))) pa_nil))))) (pss_one (ps_ret (pv 4))))))))), ?_⟩
    rcases h with ⟨h0, hE⟩ | ⟨⟨u, hu⟩, h0, hE⟩
    · exact ⟨_, rfl, _, rfl, checknx_step hD (fun ⟨u, e⟩ => by rw [h0] at e; cases e) fun _ => hE⟩
    · refine ⟨_, rfl, _, rfl, checknx_step hD (fun _ => ?_) fun e => by rw [hu] at e; cases e⟩
      exact ⟨_, rfl, _, rfl, checknx_step hD (fun ⟨u, e⟩ => by rw [h0] at e; cases e) fun _ => hE⟩
end
end Cc
set_option exponentiation.threshold 10000
set_option maxHeartbeats 20000000
namespace Cc
open PySem PySem.Spec PyProof.Rows L2 LamX
local macro_rules | `(tactic| walk_at "sd") => `(tactic| first
  | exact cmul_r ⟨by decide, by decide⟩
  | exact cmul_l ⟨by decide, by decide⟩
  | exact cmul_l ⟨by omega, by omega⟩
  | exact cmul_w (by assumption) (by assumption) (by decide)
  | exact (show CPow 10 18 from ⟨by decide, by decide, by decide⟩)
  | exact (show (0 : Int) < 2147483629 by decide)
  | exact (show CDiv _ _ from ⟨by decide, by decide⟩)
  | exact (show CDiv _ _ from ⟨by assumption, by assumption⟩)
  | assumption)
local macro_rules | `(tactic| walk_at "rd") => `(tactic| first
  | refine ⟨_, rfl, ?_⟩
  | refine ⟨_, _, rfl, rfl, ?_⟩
  | (refine ⟨_, ?_, _, ?_, rfl, rfl, ?_, ?_, ?_⟩; rotate_left 2; (first | exact SqL.of (by assumption) | (show SqT _ _ _ _; assumption) | (show SqL _ _ _ _; assumption)); (first | exact rfl | assumption))
  | (refine ⟨_, ?_, rfl, ?_, ?_⟩; rotate_left 1; (first | exact .inl (SqL.of (by assumption)) | exact .inl (SqL.of upd_same)))
  | (refine And.intro ?_ ?_; (focus (walk_at "sd"))))
section
variable {P : Program} {w : World} {K : PySem.W.Frag} {mg : Str → Option Value} {base : Heap}
theorem gone_not {zs : List Str} (h : NmOk zs) {z : Str} (hz : z = "" ∨ z = "toolonganame") : z ∉ zs := fun q => by
  have := h.len z q
  rcases hz with rfl | rfl
  · exact absurd this.1 (by decide)
  · exact absurd this.2 (by decide)
theorem gone_ok {z : Str} (hz : z = "" ∨ z = "toolonganame") : SeqAt.shaped (.str z) = true := by
  rcases hz with rfl | rfl <;> decide +kernel
theorem tabs_dict {T : List (Addr × Str)} {H H' : Hp} {D : Addr} {kvs : List (Key × V)} (t : Tabs T H) (hD : H D = some (.dK kvs)) (e : Kp D H H') : Tabs T H' := fun p hp => by
  obtain ⟨ps, h1, h2, h3⟩ := t p hp
  refine ⟨ps, e _ _ h1 (ne_of h1 hD (by intro z; cases z)), h2, fun pos cv hc => ?_⟩
  obtain ⟨c, e1, e2⟩ := h3 pos cv hc
  exact ⟨c, e1, e _ _ e2 (ne_of e2 hD (by intro z; unfold CodeO at z; cases z))⟩
theorem nmr_ext {K : PySem.W.Frag} {H H' : Hp} {kvs : List (Key × V)} {ns : List (Str × Bx)} (e : ExtN H H') (h : Paired (NmR K H) kvs ns) : Paired (NmR K H') kvs ns :=
  paired_mono (fun _ _ x => ⟨x.1, by
    obtain ⟨a, v1, v2, v3, v4, ev, h0, h1, h2, h3, h4⟩ := x.2
    exact ⟨a, v1, v2, v3, v4, ev, seqT_ext e h0, h1.ext e, h2.ext e, h3.ext e, h4.ext e⟩⟩) h
theorem ok_law {f cd tab : Addr} {fd : FuncData} (T : Tops K mg) (F : FunC K "law" "law" s_law f fd cd) (TB : TabB base mg cd tab) (D_neighbours : DefOk P w K mg base 6 "neighbours" ps_neighbours (spNear K)) (D_law_bag : DefOk P w K mg base 1 "_law_bag" ps__law_bag (spBag K)) (D_law_get : DefOk P w K mg base 1 "_law_get" ps__law_get spGet) (D_law_mixed : DefOk P w K mg base 2 "_law_mixed" ps__law_mixed (spMixedV K)) (D_law_same : DefOk P w K mg base 6 "_law_same" ps__law_same (spSame K 6)) (D_law_boxes_named : DefOk P w K mg base 7 "_law_boxes_named" ps__law_boxes_named (spBoxesNamed K)) (D_law_near : DefOk P w K mg base 6 "_law_near" ps__law_near (spNear K)) (D_law_lost : AskD P w K mg base 1 "_law_lost" (tLost K mg)) (DX_neighbours : DefOkX P w K mg base 6 "neighbours" ps_neighbours (spNearX K mg)) (DX_way : DefOkX P w K mg base 8 "way" ps_way (spWayX K mg)) : FnOk P w K mg base CX0 11 f fd ps_law (spLawT K tab) := by
  refine F.ok sc_law (fun vs H Q E h => ?_) (fun A outer s H vs Q E hr h => ?_)
  · obtain ⟨_, _, rfl, _⟩ := h
    rfl
  · obtain ⟨a, nsx, rfl, hS, hlen, hT, q⟩ := h
    refine ⟨_, (pss_cons (ps_set (i := 1) sc_law.nd rfl (.inl rfl) (pe_callD D_law_bag hr (by decide) (by rfl) (pa_cons (pv 0) pa_nil))) (pss_cons (ps_for PassesOwn.never rfl (pi_range1 rfl T.m_range (pa_cons pe_int pa_nil)) (pg_name (i := 2) sc_law.nd rfl (.inl rfl)) (pss_cons (ps_asg (pe_callD D_law_boxes_named hr (by decide) (by rfl) (pa_cons (pv 1) (pa_cons pe_int pa_nil))) (pg_tup rfl (pgs_cons (pg_name (i := 3) sc_law.nd rfl (.inl rfl)) (pgs_cons (pg_name (i := 10) sc_law.nd rfl (.inr rfl)) pgs_nil)))) (pss_cons (ps_set (i := 4) sc_law.nd rfl (.inl rfl) pe_dnewK) (pss_cons (ps_for PassesOwn.never rfl (pi_list (pe_callD D_law_mixed hr (by decide) (by rfl) (pa_cons (pv 1) (pa_cons (pe_callTy (call_list_dKR rfl) (by rfl) T.m_list (by decide +kernel) (pa_cons (pv 10) pa_nil)) pa_nil)))) (pg_name (i := 5) sc_law.nd rfl (.inl rfl)) (pss_one (ps_dput (u1 hr.units) (pv 4) (pv 5) (pe_dget (u1 hr.units) (pv 10) (pv 5) (fun _ _ => rfl)) rfl))) (pss_cons (ps_lock (ps_for PassesOwn.never rfl (pi_keys (pv 10)) (pg_name (i := 5) sc_law.nd rfl (.inl rfl)) (pss_cons (ps_set (i := 6) sc_law.nd rfl (.inl rfl) (pe_callD D_law_near hr (by decide) (by rfl) (pa_cons (pv 10) (pa_cons (pv 5) pa_nil)))) (pss_one (ps_for PassesOwn.never rfl (pi_range1 rfl T.m_range (pa_cons pe_int pa_nil)) (pg_name (i := 7) sc_law.nd rfl (.inl rfl)) (pss_cons (ps_set (i := 8) sc_law.nd rfl (.inl rfl) (pe_callD D_neighbours hr (by decide) (by rfl) (pa_cons (pv 4) (pa_cons (pv 5) pa_nil)))) (pss_cons (ps_if (PW.pt (pw_or (pt_not (pt_val (pe_callD D_law_same hr (by decide) (by rfl) (pa_cons (pv 8) (pa_cons (pv 6) pa_nil))))) (pw_or1 (pt_cmpR (op_neR (Nat.lt_of_succ_lt (u1 hr.units))) (pv 4) (pv 10) (nomark _))))) (pss_one (ps_ret pe_bl)) pss_nil) (pss_one (ps_expr (pe_bm PySem.F.plainAttrs_list PySem.F.slot_list_append PySem.F.type_list_append mt_append (pv 8) (pa_cons pe_str pa_nil))))))))))) (C8.pss_cut (ps_set (i := 9) sc_law.nd rfl (.inr rfl) (pe_ifExp (pt_cmpR op_eq (pe_callD D_law_get hr (by decide) (by rfl) (pa_cons (pv 1) (pa_cons pe_int pa_nil))) pe_int (nomark _)) pe_str pe_str)) (pss_cons (ps_if (pt_cmpR (op_neD hr.units) (pe_asklamD (j := 8) (T := [(tab, lamName)]) D_law_lost rfl TB rfl (List.mem_singleton.mpr rfl) tab_one hr (by decide) (show LamS (defScope s_law) _ from lamS_by (by decide +kernel)) rfl (fun _ _ _ _ _ => rfl) (fun _ _ _ _ _ _ _ hr2 => (pe_callX DX_neighbours hr2 (by decide) (takes_of rfl rfl rfl rfl) (by rfl) (pa_cons (pv 10) (pa_cons (pv 9) pa_nil))))) (pv 9) (nomark _)) (pss_one (ps_ret pe_bl)) pss_nil) (pss_cons (ps_if (pt_cmpR (op_neD hr.units) (pe_asklamD (j := 8) (T := [(tab, lamName)]) D_law_lost rfl TB rfl (List.mem_singleton.mpr rfl) tab_one hr (by decide) (show LamS (defScope s_law) _ from lamS_by (by decide +kernel)) rfl (fun _ _ _ _ _ => rfl) (fun _ _ _ _ _ _ _ hr2 => (pe_callX DX_way hr2 (by decide) (takes_of rfl rfl rfl rfl) (by rfl) (pa_cons (pv 10) (pa_cons (pv 9) (pa_cons pe_str pa_nil)))))) (pv 9) (nomark _)) (pss_one (ps_ret pe_bl)) pss_nil) (pss_one (ps_if (pt_cmpR (op_neD hr.units) (pe_asklamD (j := 8) (T := [(tab, lamName)]) D_law_lost rfl TB rfl (List.mem_singleton.mpr rfl) tab_one hr (by decide) (show LamS (defScope s_law) _ from lamS_by (by decide +kernel)) rfl (fun _ _ _ _ _ => rfl) (fun _ _ _ _ _ _ _ hr2 => (pe_callX DX_way hr2 (by decide) (takes_of rfl rfl rfl rfl) (by rfl) (pa_cons (pv 10) (pa_cons (pe_ix (kk_ix (K := K) (r := rIxL) rfl ix_list) (pe_callTy (call_list_dKR rfl) (by rfl) T.m_list (by decide +kernel) (pa_cons (pv 10) pa_nil)) pe_int (fun _ _ => rfl)) (pa_cons (pv 9) pa_nil)))))) (pv 9) (nomark _)) (pss_one (ps_ret pe_bl)) pss_nil)))))))))) (pss_one (ps_ret pe_bl)))), ?_⟩
    refine ⟨_, rfl, a, nsx, rfl, hS, hlen, fun b H1 nb s1 hB => ?_⟩
    have hT := hT.ext s1
    refine ⟨2, rfl, by decide, by decide, for_range (lo := 0) (n := 2) (fun i σ H' => ∃ (v2 v3 v4 v5 v6 v7 v8 v9 v10 : Option V), σ = [some (.ref a), some (.ref b), v2, v3, v4, v5, v6, v7, v8, v9, v10] ∧ Bag H' b ∧ Tabs [(tab, lamName)] H') ⟨none, none, none, none, none, none, none, none, none, rfl, hB, hT⟩ ?_ ?_⟩
    · rintro i σ H2 hi ⟨v2, v3, v4, v5, v6, v7, v8, v9, v10, rfl, hB2, hT2⟩
      refine ⟨_, rfl, boxesnamed_step (m := 12) hB2 (by decide) (by decide) fun p w D bx zs us ws ss d H3 np hp nD hCut hB3 k3 => ?_⟩
      have hT3 := tabs_bag hT2 k3 hB2
      refine ⟨p, _, rfl, SqT.of hp, rfl, _, _, rfl, _, _, rfl, rfl, ?_⟩
      have hzs := hCut.zn
      obtain ⟨kvs, ns, hD, hpr, hN, -, hb1⟩ := hCut.named
      have hn1 : 1 ≤ ns.length := by
        have := hCut.zl
        have := hCut.wo.l0
        rw [← hb1, List.length_map] at *
        omega
      rw [← hb1] at hzs
      have hnl := hN.len
      have hkl : kvs.length = ns.length := paired_len hpr
      clear hCut hp np nD hb1 k3 hT2 hB2
      have nDb : D ≠ b := fun z => by
        obtain ⟨ys, hy⟩ := hB3.lst
        rw [z, hy] at hD
        cases hD
      -- an empty dict
      refine fun T nT => ?_
      have nTD : T ≠ D := fun z => by rw [z, hD] at nT; cases nT
      have nTb := bag_ne hB3 nT
      have sT := same_new (o := .dK []) nT
      have hTT : (upd H3 T (.dK [])) T = some (.dK []) := upd_same
      have hB4 := hB3.same sT
      have hT4 := hT3.ext sT
      have hD4 := sT _ _ hD
      have hpr4 := nmr_same sT hpr
      generalize upd H3 T (.dK []) = H4 at sT hTT hB4 hT4 hD4 hpr4
      clear hB3 hT3 hD hpr
      refine ⟨_, rfl, _, rfl, D, kvs, rfl, .inl hD4, fun L1 nL1 => ?_⟩
      rw [nm_keys hpr4]
      have s5 := same_new (o := .lst ((ns.map (·.1)).map V.str)) nL1
      have nL1b := bag_ne hB4 nL1
      refine mixedv_step (hB4.same s5) upd_same nL1b (by rw [List.length_map, List.length_map]; omega) fun L2 vs H6 nL2 hL2 hp0 hB6 kg6 => ?_
      obtain ⟨ys, rfl, hperm⟩ := texts_of hp0
      have k6 : Kp b H4 H6 := (Kp.of s5).trans kg6.k0
      have hT6 := tabs_bag hT4 k6 hB4
      have hTT := k6 _ _ hTT nTb
      have hD6 := k6 _ _ hD4 nDb
      have hpr6 := nmr_bag k6 hB4 hpr4
      clear hB4 hT4 hD4 hpr4 k6 kg6 s5 nL1 nL1b sT nT
      have hyl : ys.length = ns.length := by rw [hperm.length_eq, List.length_map]
      refine ⟨L2, rfl, ⟨_, SqL.of hL2⟩, ?_⟩
      refine for_list (xs := ys.map V.str) (fun j σ H' => ∃ (v5 : Option V), σ = [some (.ref a), some (.ref b), some (.int (0 + i)), some w, some (.ref T), v5, v6, v7, v8, v9, some (.ref D)] ∧ Kp T H6 H' ∧ H' T = some (.dK (pKvs kvs (ys.take j)))) ⟨v5, rfl, fun _ _ e _ => e, hTT⟩ (fun j σ H' _ ⟨_, _, z, _⟩ => SqL.of (z _ _ hL2 (fun e => by rw [e, hTT] at hL2; cases hL2))) ?_ ?_
      · rintro j x σ H7 hx ⟨v5, rfl, k7, hT7⟩
        rw [List.getElem?_map] at hx
        obtain ⟨y, hy, rfl⟩ := Option.map_eq_some_iff.mp hx
        have hym := List.mem_of_getElem? hy
        obtain ⟨ev, hbv⟩ := vOf_mem hpr6 hperm hym
        have hj := (List.getElem?_eq_some_iff.mp hy).1
        have nDT : D ≠ T := nTD.symm
        have hD7 := k7 _ _ hD6 nDT
        have hm : Sum.inr y ∉ (pKvs kvs (ys.take j)).map (·.1) := fun q => by
          unfold pKvs at q
          rw [List.map_map] at q
          obtain ⟨z, hz, e⟩ := List.mem_map.mp q
          have e : y = z := (Sum.inr.inj e).symm
          subst e
          have nd := hperm.nodup_iff.mpr hN.nd
          obtain ⟨m, hm, e⟩ := List.getElem_of_mem hz
          rw [List.length_take] at hm
          rw [List.getElem_take] at e
          have := (List.getElem?_inj (i := m) (j := j) (by omega) nd).mp (by rw [hy, List.getElem?_eq_getElem (by omega), e])
          omega
        refine ⟨_, rfl, _, rfl, D, vOf kvs y, rfl, .inl ⟨kvs, Sum.inr y, .inl hD7, rfl, ev.symm⟩, _, rfl, _, rfl, T, _, rfl, DPut.k (k := Sum.inr y) hT7 (small1000 (by unfold pKvs; rw [List.length_map, List.length_take]; omega)), ?_⟩
        rw [putK_new hm]
        refine ⟨_, rfl, fun c o e n => by rw [upd_ne n]; exact k7 _ _ e n, ?_⟩
        rw [upd_same, List.take_add_one, hy]
        unfold pKvs
        rw [List.map_append]
        rfl
      rintro σ H7 ⟨v5, rfl, k7, hT7⟩
      rw [List.length_map, List.take_length] at hT7
      have nDT : D ≠ T := nTD.symm
      have hD7 := k7 _ _ hD6 nDT
      have tk7 : TK K H6 H7 := tk_kp hTT (fun _ z => by cases z) (fun _ _ z => by cases z) k7
      have hpr7 := nmr_tk tk7 hpr6
      have hB7 : Bag H7 b := by
        obtain ⟨c, ms, e1, e2, e3, e4, h1, h2, h3⟩ := hB6
        exact ⟨c, ms, e1, e2, e3, e4, k7 _ _ h1 nTb.symm, k7 _ _ h2 (fun e => by rw [e, hTT] at h2; cases h2), h3⟩
      have hTb7 : Tabs [(tab, lamName)] H7 := tabs_dict hT6 hTT k7
      clear k7 tk7 hT6 hTT hD6 hpr6 hB6 hL2 nL2
      -- each name
      have hN2 := pNs_ok hN hperm
      have hpr2 := pKvs_pr hpr7 hperm
      have al := pKvs_alike hpr7 hperm
      refine ⟨D, .dK kvs, hD7, trivial, fun od => ?_⟩
      refine ⟨_, rfl, D, od, rfl, .inl ⟨kvs, upd_same, ?_⟩⟩
      have hT8 : (upd H7 D (.frz od (.dK kvs))) T = some (.dK (pKvs kvs ys)) := by rw [upd_ne nTD]; exact hT7
      refine for_it (walk_keys (kvs := kvs)) (fun j σ H' => ∃ (v5 v6 v7 v8 : Option V), σ = [some (.ref a), some (.ref b), some (.int (0 + i)), some w, some (.ref T), v5, v6, v7, v8, v9, some (.ref D)] ∧ Same (upd H7 D (.frz od (.dK kvs))) H') ⟨_, _, _, _, rfl, Same.refl _⟩ (fun j σ H' _ ⟨_, _, _, _, _, z⟩ => z _ _ upd_same) ?_ ?_
      · rintro j x σ H0 H8 hj ⟨v5, v6, v7, v8, rfl, s8⟩ ⟨rfl, k, v, hkv, rfl⟩
        obtain ⟨⟨z, c⟩, hn, hk, hv⟩ := paired_get hpr7 hkv
        have hk : k = Sum.inr z := hk
        subst hk
        have hc : bxOf ns z = some c := bxOf_mem hN.nd (List.mem_of_getElem? hn)
        have tk8 : TK K H7 H8 := (tk_dK hD7 Kp.upd).trans (TK.of s8)
        have hprx := nmr_tk tk8 hpr7
        have hpr2x := nmr_tk tk8 hpr2
        have hTx := s8 _ _ hT8
        have hDx := s8 _ _ (upd_same (H := H7) (a := D) (o := .frz od (.dK kvs)))
        refine ⟨_, rfl, _, rfl, near_step (ns := ns) (z := z) (b := c) ⟨.inr ⟨od, hDx⟩, hprx⟩ hN hc fun L us9 H9 nL s9 hL hA => ?_⟩
        have hdl : dle 6 (dNear (nearM ns c)) = true := near_dle (Nat.le_trans (near_len ns c) (by omega)) fun x hx => by
          obtain ⟨y, r⟩ := x
          obtain ⟨c2, e2, _⟩ := near_mem.mp hx
          exact low_shaped (hzs.lo _ (List.mem_map.mpr ⟨_, bxOf_some e2, rfl⟩))
        refine ⟨2, rfl, by decide, by decide, for_range (lo := 0) (n := 2) (fun m σ H' => ∃ (v7 v8 : Option V), σ = [some (.ref a), some (.ref b), some (.int (0 + i)), some w, some (.ref T), some (.str z), some (.ref L), v7, v8, v9, some (.ref D)] ∧ Same H9 H') ⟨_, _, rfl, Same.refl _⟩ ?_ ?_⟩
        · rintro m σ H10 hm ⟨v7, v8, rfl, s10⟩
          have s90 := s9.trans s10
          refine ⟨_, rfl, _, rfl, near_step (ns := pNs ns ys) (z := z) (b := c) ⟨.inl (s90 _ _ hTx), nmr_same s90 hpr2x⟩ hN2 (by rw [pNs_bx hN hperm]; exact hc) fun F us11 H11 nF s11 hF hA2 => ?_⟩
          rw [pNs_near hN hperm] at hA2
          refine ⟨_, rfl, _, rfl, same_step (d := dNear (nearM ns c)) (.lst (SqL.of hF) (near_dp hA2)) (Dp.mono (s10.trans s11) _ _ (.lst (SqL.of hL) (near_dp hA))) hdl fun H12 s12 => ⟨_, rfl, ?_⟩⟩
          have s92 := s90.trans (s11.trans s12)
          refine ⟨_, rfl, _, rfl, T, D, _, _, rfl, rfl, .inl (s92 _ _ hTx), .inr ⟨od, s92 _ _ hDx⟩, al, ?_⟩
          refine ⟨_, rfl, iteF ?_⟩
          have hF12 := s12 _ _ hF
          refine ⟨_, rfl, .inl ⟨rfl, _, SqL.of hF12⟩, F, us11, _, rfl, rfl, hF12, small1000 (by rw [hA2.len]; exact Nat.le_trans (near_len ns c) (by omega)), ?_⟩
          exact ⟨_, _, rfl, same_write (s10.free nF) (s10.trans (s11.trans s12))⟩
        · rintro σ H10 ⟨v7, v8, rfl, s10⟩
          exact ⟨_, _, _, _, rfl, s8.trans (s9.trans s10)⟩
      rintro σ H8 ⟨v5', v6', v7', v8', rfl, s8⟩
      refine ⟨s8 _ _ upd_same, ?_⟩
      dsimp only
      have k8 : Kp D H7 (upd H8 D (.dK kvs)) := fun c o e n => by
        rw [upd_ne n]
        exact s8 _ _ (by rw [upd_ne n]; exact e)
      have tk9 : TK K H7 (upd H8 D (.dK kvs)) := tk_dK hD7 k8
      have hpr9 := nmr_tk tk9 hpr7
      have hD9 : (upd H8 D (.dK kvs)) D = some (.dK kvs) := upd_same
      have hB9 : Bag (upd H8 D (.dK kvs)) b := by
        obtain ⟨c, ms, e1, e2, e3, e4, h1, h2, h3⟩ := hB7
        exact ⟨c, ms, e1, e2, e3, e4, k8 _ _ h1 nDb.symm, k8 _ _ h2 (fun e => by rw [e, hD7] at h2; cases h2), h3⟩
      have hT9 : Tabs [(tab, lamName)] (upd H8 D (.dK kvs)) := tabs_dict hTb7 hD7 k8
      generalize upd H8 D (.dK kvs) = H9 at hpr9 hD9 hB9 hT9 ⊢
      clear k8 tk9 s8 hT8 hpr7 hpr2 hB7 hTb7 hD7 al
      refine ⟨fun σ' H' => ∃ (z : Str), σ' = [some (.ref a), some (.ref b), some (.int (0 + i)), some w, some (.ref T), v5', v6', v7', v8', some (.str z), some (.ref D)] ∧ (z = "" ∨ z = "toolonganame") ∧ H' D = some (.dK kvs) ∧ Paired (NmR K H') kvs ns ∧ Bag H' b ∧ Tabs [(tab, lamName)] H', ?_, ?_⟩
      · refine ⟨_, rfl, b, 2, rfl, hB9, by decide, by decide, fun r H10 r0 r1 hB10 k10 => ⟨rfl, _, rfl, ?_⟩⟩
        have hD10 := k10.k0 _ _ hD9 nDb
        have hpr10 := nmr_bag k10.k0 hB9 hpr9
        have hT10 := tabs_bag hT9 k10.k0 hB9
        refine iteD (fun _ => ⟨"", rfl, .inl rfl, hD10, hpr10, hB10, hT10⟩) (fun _ => ⟨"toolonganame", rfl, .inr rfl, hD10, hpr10, hB10, hT10⟩)
      rintro σ' H10 ⟨z, rfl, hz, hD10, hpr10, hB10, hT10⟩
      have hz0 : valV kvs (Sum.inr z) = none := pr_none (fun _ _ x => x.1) hpr10 (gone_not hzs hz)
      have hzsh := gone_ok hz
      have hzq : PyData.eqv (.str z) (.str z) = true := PySem.SeqAt.eqv_refl _ (PySem.SeqAt.canLay_of_shaped hzsh)
      refine ⟨hT10, fun G1 eN hT11 => lost_step fun G2 s2 => ?_⟩
      have f0 := eN.trans (extN_same s2)
      have hD11 := f0 _ _ hD10 (fun _ z => by cases z)
      have hpr11 := nmr_ext f0 hpr10
      have hB11 := hB10.ext f0
      have hT11 := hT11.ext s2
      clear f0 eN s2 hD10 hpr10 hB10 hT10
      refine ⟨_, rfl, _, rfl, nearx_step (.inl hD11) hz0 fun cls dd H12 th s12 => ⟨.str z, th, fun H13 s13 => ?_⟩⟩
      have s := s12.trans s13
      have hD13 := s _ _ hD11
      have hpr13 := nmr_same s hpr11
      have hB13 := hB11.same s
      have hT13 := hT11.ext s
      clear s th s12 s13 hD11 hpr11 hB11 hT11
      refine ⟨_, rfl, .str z, .str z, .str _, .str _, hzsh, hzsh, ?_⟩
      rw [hzq]
      refine ⟨_, rfl, iteF ?_⟩
      refine ⟨hT13, fun G1 eN hT14 => lost_step fun G2 s2 => ?_⟩
      have f0 := eN.trans (extN_same s2)
      have hD14 := f0 _ _ hD13 (fun _ z => by cases z)
      have hpr14 := nmr_ext f0 hpr13
      have hB14 := hB13.ext f0
      have hT14 := hT14.ext s2
      clear f0 eN s2 hD13 hpr13 hB13 hT13
      refine ⟨_, rfl, _, rfl, wayx_step (.inl hD14) (.inl ⟨hz0, fun cls dd H15 th s15 => ⟨.str z, th, fun H16 s16 => ?_⟩⟩)⟩
      have s := s15.trans s16
      have hD16 := s _ _ hD14
      have hpr16 := nmr_same s hpr14
      have hB16 := hB14.same s
      have hT16 := hT14.ext s
      clear s th s15 s16 hD14 hpr14 hB14 hT14
      refine ⟨_, rfl, .str z, .str z, .str _, .str _, hzsh, hzsh, ?_⟩
      rw [hzq]
      refine ⟨_, rfl, iteF ?_⟩
      refine ⟨hT16, fun G1 eN hT17 => lost_step fun G2 s2 => ?_⟩
      have f0 := eN.trans (extN_same s2)
      have hD17 := f0 _ _ hD16 (fun _ z => by cases z)
      have hpr17 := nmr_ext f0 hpr16
      have hB17 := hB16.ext f0
      have hT17 := hT17.ext s2
      clear f0 eN s2 hD16 hpr16 hB16 hT16
      obtain ⟨y0, hy0⟩ : ∃ y, (ns.map (·.1))[0]? = some y := ⟨_, List.getElem?_eq_getElem (by rw [List.length_map]; omega)⟩
      obtain ⟨c0, hc0⟩ := bxOf_key (List.mem_of_getElem? hy0)
      obtain ⟨u0, hu0, -⟩ := nm_val hpr17 hc0
      refine ⟨_, rfl, _, rfl, D, kvs, rfl, .inl hD17, fun L0 nL0 => ?_⟩
      rw [nm_keys hpr17]
      have s18 := same_new (o := .lst ((ns.map (·.1)).map V.str)) nL0
      refine ⟨L0, _, 0, .str y0, rfl, rfl, SqL.of upd_same, ?_, _, rfl, wayx_step (.inl (s18 _ _ hD17)) (.inr ⟨⟨u0, hu0⟩, hz0, fun cls dd H19 th s19 => ⟨.str z, th, fun H20 s20 => ?_⟩⟩)⟩
      · exact atI_nat (j := 0) (by rw [List.getElem?_map, hy0]; rfl)
      have s := s18.trans (s19.trans s20)
      refine ⟨_, rfl, .str z, .str z, .str _, .str _, hzsh, hzsh, ?_⟩
      rw [hzq]
      refine ⟨_, rfl, iteF ?_⟩
      exact ⟨_, _, _, _, _, _, _, _, _, rfl, hB17.same s, hT17.ext s⟩
    · rintro σ H2 ⟨v2, v3, v4, v5, v6, v7, v8, v9, v10, rfl, hB2, hT2⟩
      exact q H2
end
end Cc
set_option exponentiation.threshold 10000
set_option maxHeartbeats 20000000
namespace Cc
open PySem PySem.Spec PyProof.Rows L2 LamX
theorem law_of {l : PySem.W.OpenLaw} {w : World} {K : PySem.W.Frag} {mg : Str → Option Value} {fa : Addr} (hfa : mg "law" = some (.ref fa)) (T : Tops K mg)
    {h : Heap} (X : K.In h) (G : h.Ns mainGlobals mg) {f cd tab : Addr} {oc : Value} {od an odc : Option Addr} {osl csl : Array (Option Value)} {kV doc pm ct : Value} {vs : Array Value}
    (a : PySem.W.nsIn K mainGlobals "law" = some (some (.ref f))) (lk : K.lookup f = some ⟨oc, od, .func (PySem.W.fnOf "law" "law" (defArgs s_law) (defBody s_law) (defScope s_law) .none kV doc pm an (.ref cd) ct), osl⟩) (c : PySem.W.codeIn K (.ref cd) "law" = true)
    (lc : K.lookup cd = some ⟨.type "code", odc, .fields vs, csl⟩) (e11 : vs[11]? = some (.ref tab)) (hh : PySem.W.codeHdIn K cd tab = true) (no : K.lookup tab = none) (e0 : h.get? tab = some { cls := .none, data := .fields #[] }) : LawAtS l w K CX0 11 63 "_law_script" mg fa h := by
  have e := hfa.symm.trans (PySem.W.mg_of X G a)
  cases e
  refine lawAt_one (fd := PySem.W.fnOf "law" "law" (defArgs s_law) (defBody s_law) (defScope s_law) .none kV doc pm an (.ref cd) ct) e0 no (PySem.W.codeHd_of_K X hh) (fun s v => .of_eq rfl) fun base _ _ TB => ?_
  have Z_NoName : ExcOkN l.prog w K mg base "NoName" := ExcAtN.ok T.x_NoName sc_Missing_init rfl
  have D_is_number := ok_is_number (P := l.prog) (w := w) (base := base) T
  have D_is_part := ok_is_part (P := l.prog) (w := w) (base := base) T D_is_number
  have D_part := ok_part (P := l.prog) (w := w) (base := base) T
  have D_plus := ok_plus (P := l.prog) (w := w) (base := base) T D_part
  have D_minus := ok_minus (P := l.prog) (w := w) (base := base) T D_part
  have D_less := ok_less (P := l.prog) (w := w) (base := base) T
  have D_lesser := ok_lesser (P := l.prog) (w := w) (base := base) T D_less
  have D_greater := ok_greater (P := l.prog) (w := w) (base := base) T D_less
  have D_is_box := ok_is_box (P := l.prog) (w := w) (base := base) T D_is_part D_less
  have D_common := ok_common (P := l.prog) (w := w) (base := base) T D_plus D_minus D_lesser D_greater
  have D_check_box := ok_check_box (P := l.prog) (w := w) (base := base) T D_is_box
  have D_touching := ok_touching (P := l.prog) (w := w) (base := base) T D_less D_common D_check_box
  have D_check_name := ok_check_name (P := l.prog) (w := w) (base := base) T
  have D_neighbours := ok_neighbours (P := l.prog) (w := w) (base := base) T D_touching D_check_name
  have D_next_step := ok_next_step (P := l.prog) (w := w) (base := base) T D_neighbours
  have D_steps_to := ok_steps_to (P := l.prog) (w := w) (base := base) T D_neighbours
  have D_way := ok_way (P := l.prog) (w := w) (base := base) T D_check_name D_next_step D_steps_to
  have D_law_bag := ok_law_bag (P := l.prog) (w := w) (base := base) T
  have D_law_get := ok_law_get (P := l.prog) (w := w) (base := base) T
  have D_law_pick := ok_law_pick (P := l.prog) (w := w) (base := base) T D_law_get
  have D_law_mixed := ok_law_mixed (P := l.prog) (w := w) (base := base) T D_law_get
  have D_law_far := ok_law_far (P := l.prog) (w := w) (base := base) T D_law_get
  have D_law_same := (ok_law_same (P := l.prog) (w := w) (base := base) T) 6
  have D_law_gcd := ok_law_gcd (P := l.prog) (w := w) (base := base) T
  have D_law_part := ok_law_part (P := l.prog) (w := w) (base := base) T D_law_gcd
  have D_law_plus := ok_law_plus (P := l.prog) (w := w) (base := base) T D_law_part
  have D_law_minus := ok_law_minus (P := l.prog) (w := w) (base := base) T D_law_part
  have D_law_times := ok_law_times (P := l.prog) (w := w) (base := base) T D_law_part
  have D_law_less := ok_law_less (P := l.prog) (w := w) (base := base) T
  have D_law_number := ok_law_number (P := l.prog) (w := w) (base := base) T D_law_get D_law_far
  have D_law_some_part := ok_law_some_part (P := l.prog) (w := w) (base := base) T D_law_get D_law_part D_law_number
  have D_law_above := ok_law_above (P := l.prog) (w := w) (base := base) T D_law_part D_law_some_part
  have D_law_plain_box := ok_law_plain_box (P := l.prog) (w := w) (base := base) T D_law_get D_law_above
  have D_law_weight := ok_law_weight (P := l.prog) (w := w) (base := base) T D_law_get
  have D_law_weights := ok_law_weights (P := l.prog) (w := w) (base := base) T D_law_get D_law_weight
  have D_law_sizes := ok_law_sizes (P := l.prog) (w := w) (base := base) T D_law_get
  have D_law_lean := ok_law_lean (P := l.prog) (w := w) (base := base) T D_law_get
  have D_law_split := ok_law_split (P := l.prog) (w := w) (base := base) T D_law_part D_law_plus D_law_times
  have D_law_turned_lean := ok_law_turned_lean (P := l.prog) (w := w) (base := base) T
  have D_law_parted := ok_law_parted (P := l.prog) (w := w) (base := base) T
  have D_law_laid := ok_law_laid (P := l.prog) (w := w) (base := base) T D_law_split D_law_turned_lean D_law_parted
  have D_law_ends := ok_law_ends (P := l.prog) (w := w) (base := base) T D_law_plus
  have D_law_common := ok_law_common (P := l.prog) (w := w) (base := base) T D_law_minus D_law_less
  have D_law_edge := ok_law_edge (P := l.prog) (w := w) (base := base) T D_law_plus D_law_ends D_law_common
  have D_law_names := ok_law_names (P := l.prog) (w := w) (base := base) T D_law_get D_law_pick
  have D_law_boxes_named := ok_law_boxes_named (P := l.prog) (w := w) (base := base) T D_law_plain_box D_law_weights D_law_sizes D_law_lean D_law_laid D_law_names
  have D_law_near := ok_law_near (P := l.prog) (w := w) (base := base) T D_law_edge
  have D_law_lost := ok_law_lost (P := l.prog) (w := w) (base := base) T
  have DX_check_name := okx_check_name (P := l.prog) (w := w) (base := base) T Z_NoName
  have DX_neighbours := okx_neighbours (P := l.prog) (w := w) (base := base) T D_touching DX_check_name
  have DX_way := okx_way (P := l.prog) (w := w) (base := base) T D_next_step D_steps_to DX_check_name
  exact ok_law T ⟨⟨oc, od, kV, doc, pm, an, ct, osl, rfl, lk⟩, c⟩ TB D_neighbours D_law_bag D_law_get D_law_mixed D_law_same D_law_boxes_named D_law_near D_law_lost DX_neighbours DX_way
end Cc
open PySem PySem.W PyProof.Rows
set_option maxRecDepth 100000 in
set_option maxHeartbeats 0 in
theorem PySem.Challenge.cw_calmcuts_k41_neighbours_of_boxes_holds : PySem.Challenge.rw_calmcuts_k41_neighbours_of_boxes.Holds := by
  w_on; o_law; k_head; (case hw => w_witness2)
  k_fill
  refine LamX.walk_ofTs (l := PySem.Challenge.rw_calmcuts_k41_neighbours_of_boxes) (n := 63) (k := 11) (x := "_law_script") (CX := fun _ => L2.CX0) rfl (by decide) rfl ⟨rfl, by decide, by decide⟩ (fun w h Y => PySem.W.km_in_of Y) ?F (fun _ _ _ _ _ h => h)
  case F =>
    intro w mg fa h Y KX G hmg
    refine' Cc.law_of hmg ?T KX G ?a ?l ?c ?lc ?e11 ?hh ?no ?e0
    (case a => k_is); (case l => k_is); (case c => k_is); (case lc => k_is); (case e11 => exact rfl); (case hh => kernel_rfl); (case no => kernel_rfl); (case e0 => exact PySem.W.km_tabs_of Y _ (by k_mem))
    (case T =>
      refine' ⟨?d_is_number, ?d_is_part, ?d_part, ?d_plus, ?d_minus, ?d_less, ?d_lesser, ?d_greater, ?d_is_box, ?d_touching, ?d_check_box, ?d_common, ?d_neighbours, ?d_way, ?d_check_name, ?d_steps_to, ?d_next_step, ?d_law_bag, ?d_law_get, ?d_law_pick, ?d_law_mixed, ?d_law_far, ?d_law_same, ?d_law_gcd, ?d_law_part, ?d_law_plus, ?d_law_minus, ?d_law_times, ?d_law_less, ?d_law_number, ?d_law_some_part, ?d_law_above, ?d_law_plain_box, ?d_law_weight, ?d_law_weights, ?d_law_sizes, ?d_law_lean, ?d_law_split, ?d_law_turned_lean, ?d_law_parted, ?d_law_laid, ?d_law_ends, ?d_law_common, ?d_law_edge, ?d_law_boxes_named, ?d_law_names, ?d_law_near, ?d_law_lost, ?x_NoName, PySem.W.mg_none_of KX G ?m_abs, PySem.W.mg_none_of KX G ?m_all, PySem.W.mg_none_of KX G ?m_bool, PySem.W.mg_none_of KX G ?m_dict, PySem.W.mg_none_of KX G ?m_int, PySem.W.mg_none_of KX G ?m_isinstance, PySem.W.mg_none_of KX G ?m_len, PySem.W.mg_none_of KX G ?m_list, PySem.W.mg_none_of KX G ?m_min, PySem.W.mg_none_of KX G ?m_range, PySem.W.mg_none_of KX G ?m_sorted, PySem.W.mg_none_of KX G ?m_str, PySem.W.mg_none_of KX G ?m_sum, PySem.W.mg_none_of KX G ?m_tuple, PySem.W.mg_none_of KX G ?m_zip, ?m_NOUGHT, PySem.W.mg_of KX G ?m_gcd⟩
      (case d_is_number => refine' Cc.defAt_mk KX G ?a ?l ?c ?k (fun _ _ _ _ _ _ us hl => match us, hl with | [_], _ => rfl); (case a => k_is); (case l => k_is); (case c => k_is); (case k => k_is))
      (case d_is_part => refine' Cc.defAt_mk KX G ?a ?l ?c ?k (fun _ _ _ _ _ _ us hl => match us, hl with | [_], _ => rfl); (case a => k_is); (case l => k_is); (case c => k_is); (case k => k_is))
      (case d_part => refine' Cc.defAt_mk KX G ?a ?l ?c ?k (fun _ _ _ _ _ _ us hl => match us, hl with | [_, _], _ => rfl); (case a => k_is); (case l => k_is); (case c => k_is); (case k => k_is))
      (case d_plus => refine' Cc.defAt_mk KX G ?a ?l ?c ?k (fun _ _ _ _ _ _ us hl => match us, hl with | [_, _], _ => rfl); (case a => k_is); (case l => k_is); (case c => k_is); (case k => k_is))
      (case d_minus => refine' Cc.defAt_mk KX G ?a ?l ?c ?k (fun _ _ _ _ _ _ us hl => match us, hl with | [_, _], _ => rfl); (case a => k_is); (case l => k_is); (case c => k_is); (case k => k_is))
      (case d_less => refine' Cc.defAt_mk KX G ?a ?l ?c ?k (fun _ _ _ _ _ _ us hl => match us, hl with | [_, _], _ => rfl); (case a => k_is); (case l => k_is); (case c => k_is); (case k => k_is))
      (case d_lesser => refine' Cc.defAt_mk KX G ?a ?l ?c ?k (fun _ _ _ _ _ _ us hl => match us, hl with | [_, _], _ => rfl); (case a => k_is); (case l => k_is); (case c => k_is); (case k => k_is))
      (case d_greater => refine' Cc.defAt_mk KX G ?a ?l ?c ?k (fun _ _ _ _ _ _ us hl => match us, hl with | [_, _], _ => rfl); (case a => k_is); (case l => k_is); (case c => k_is); (case k => k_is))
      (case d_is_box => refine' Cc.defAt_mk KX G ?a ?l ?c ?k (fun _ _ _ _ _ _ us hl => match us, hl with | [_], _ => rfl); (case a => k_is); (case l => k_is); (case c => k_is); (case k => k_is))
      (case d_touching => refine' Cc.defAt_mk KX G ?a ?l ?c ?k (fun _ _ _ _ _ _ us hl => match us, hl with | [_, _], _ => rfl); (case a => k_is); (case l => k_is); (case c => k_is); (case k => k_is))
      (case d_check_box => refine' Cc.defAt_mk KX G ?a ?l ?c ?k (fun _ _ _ _ _ _ us hl => match us, hl with | [_], _ => rfl); (case a => k_is); (case l => k_is); (case c => k_is); (case k => k_is))
      (case d_common => refine' Cc.defAt_mk KX G ?a ?l ?c ?k (fun _ _ _ _ _ _ us hl => match us, hl with | [_, _, _, _], _ => rfl); (case a => k_is); (case l => k_is); (case c => k_is); (case k => k_is))
      (case d_neighbours => refine' Cc.defAt_mk KX G ?a ?l ?c ?k (fun _ _ _ _ _ _ us hl => match us, hl with | [_, _], _ => rfl); (case a => k_is); (case l => k_is); (case c => k_is); (case k => k_is))
      (case d_way => refine' Cc.defAt_mk KX G ?a ?l ?c ?k (fun _ _ _ _ _ _ us hl => match us, hl with | [_, _, _], _ => rfl); (case a => k_is); (case l => k_is); (case c => k_is); (case k => k_is))
      (case d_check_name => refine' Cc.defAt_mk KX G ?a ?l ?c ?k (fun _ _ _ _ _ _ us hl => match us, hl with | [_, _], _ => rfl); (case a => k_is); (case l => k_is); (case c => k_is); (case k => k_is))
      (case d_steps_to => refine' Cc.defAt_mk KX G ?a ?l ?c ?k (fun _ _ _ _ _ _ us hl => match us, hl with | [_, _], _ => rfl); (case a => k_is); (case l => k_is); (case c => k_is); (case k => k_is))
      (case d_next_step => refine' Cc.defAt_mk KX G ?a ?l ?c ?k (fun _ _ _ _ _ _ us hl => match us, hl with | [_, _, _], _ => rfl); (case a => k_is); (case l => k_is); (case c => k_is); (case k => k_is))
      (case d_law_bag => refine' Cc.defAt_mk KX G ?a ?l ?c ?k (fun _ _ _ _ _ _ us hl => match us, hl with | [_], _ => rfl); (case a => k_is); (case l => k_is); (case c => k_is); (case k => k_is))
      (case d_law_get => refine' Cc.defAt_mk KX G ?a ?l ?c ?k (fun _ _ _ _ _ _ us hl => match us, hl with | [_, _], _ => rfl); (case a => k_is); (case l => k_is); (case c => k_is); (case k => k_is))
      (case d_law_pick => refine' Cc.defAt_mk KX G ?a ?l ?c ?k (fun _ _ _ _ _ _ us hl => match us, hl with | [_, _], _ => rfl); (case a => k_is); (case l => k_is); (case c => k_is); (case k => k_is))
      (case d_law_mixed => refine' Cc.defAt_mk KX G ?a ?l ?c ?k (fun _ _ _ _ _ _ us hl => match us, hl with | [_, _], _ => rfl); (case a => k_is); (case l => k_is); (case c => k_is); (case k => k_is))
      (case d_law_far => refine' Cc.defAt_mk KX G ?a ?l ?c ?k (fun _ _ _ _ _ _ us hl => match us, hl with | [_, _], _ => rfl); (case a => k_is); (case l => k_is); (case c => k_is); (case k => k_is))
      (case d_law_same => refine' Cc.defAt_mk KX G ?a ?l ?c ?k (fun _ _ _ _ _ _ us hl => match us, hl with | [_, _], _ => rfl); (case a => k_is); (case l => k_is); (case c => k_is); (case k => k_is))
      (case d_law_gcd => refine' Cc.defAt_mk KX G ?a ?l ?c ?k (fun _ _ _ _ _ _ us hl => match us, hl with | [_, _], _ => rfl); (case a => k_is); (case l => k_is); (case c => k_is); (case k => k_is))
      (case d_law_part => refine' Cc.defAt_mk KX G ?a ?l ?c ?k (fun _ _ _ _ _ _ us hl => match us, hl with | [_, _], _ => rfl); (case a => k_is); (case l => k_is); (case c => k_is); (case k => k_is))
      (case d_law_plus => refine' Cc.defAt_mk KX G ?a ?l ?c ?k (fun _ _ _ _ _ _ us hl => match us, hl with | [_, _], _ => rfl); (case a => k_is); (case l => k_is); (case c => k_is); (case k => k_is))
      (case d_law_minus => refine' Cc.defAt_mk KX G ?a ?l ?c ?k (fun _ _ _ _ _ _ us hl => match us, hl with | [_, _], _ => rfl); (case a => k_is); (case l => k_is); (case c => k_is); (case k => k_is))
      (case d_law_times => refine' Cc.defAt_mk KX G ?a ?l ?c ?k (fun _ _ _ _ _ _ us hl => match us, hl with | [_, _], _ => rfl); (case a => k_is); (case l => k_is); (case c => k_is); (case k => k_is))
      (case d_law_less => refine' Cc.defAt_mk KX G ?a ?l ?c ?k (fun _ _ _ _ _ _ us hl => match us, hl with | [_, _], _ => rfl); (case a => k_is); (case l => k_is); (case c => k_is); (case k => k_is))
      (case d_law_number => refine' Cc.defAt_mk KX G ?a ?l ?c ?k (fun _ _ _ _ _ _ us hl => match us, hl with | [_], _ => rfl); (case a => k_is); (case l => k_is); (case c => k_is); (case k => k_is))
      (case d_law_some_part => refine' Cc.defAt_mk KX G ?a ?l ?c ?k (fun _ _ _ _ _ _ us hl => match us, hl with | [_], _ => rfl); (case a => k_is); (case l => k_is); (case c => k_is); (case k => k_is))
      (case d_law_above => refine' Cc.defAt_mk KX G ?a ?l ?c ?k (fun _ _ _ _ _ _ us hl => match us, hl with | [_], _ => rfl); (case a => k_is); (case l => k_is); (case c => k_is); (case k => k_is))
      (case d_law_plain_box => refine' Cc.defAt_mk KX G ?a ?l ?c ?k (fun _ _ _ _ _ _ us hl => match us, hl with | [_], _ => rfl); (case a => k_is); (case l => k_is); (case c => k_is); (case k => k_is))
      (case d_law_weight => refine' Cc.defAt_mk KX G ?a ?l ?c ?k (fun _ _ _ _ _ _ us hl => match us, hl with | [_, _], _ => rfl); (case a => k_is); (case l => k_is); (case c => k_is); (case k => k_is))
      (case d_law_weights => refine' Cc.defAt_mk KX G ?a ?l ?c ?k (fun _ _ _ _ _ _ us hl => match us, hl with | [_, _], _ => rfl); (case a => k_is); (case l => k_is); (case c => k_is); (case k => k_is))
      (case d_law_sizes => refine' Cc.defAt_mk KX G ?a ?l ?c ?k (fun _ _ _ _ _ _ us hl => match us, hl with | [_, _], _ => rfl); (case a => k_is); (case l => k_is); (case c => k_is); (case k => k_is))
      (case d_law_lean => refine' Cc.defAt_mk KX G ?a ?l ?c ?k (fun _ _ _ _ _ _ us hl => match us, hl with | [_], _ => rfl); (case a => k_is); (case l => k_is); (case c => k_is); (case k => k_is))
      (case d_law_split => refine' Cc.defAt_mk KX G ?a ?l ?c ?k (fun _ _ _ _ _ _ us hl => match us, hl with | [_, _, _], _ => rfl); (case a => k_is); (case l => k_is); (case c => k_is); (case k => k_is))
      (case d_law_turned_lean => refine' Cc.defAt_mk KX G ?a ?l ?c ?k (fun _ _ _ _ _ _ us hl => match us, hl with | [_], _ => rfl); (case a => k_is); (case l => k_is); (case c => k_is); (case k => k_is))
      (case d_law_parted => refine' Cc.defAt_mk KX G ?a ?l ?c ?k (fun _ _ _ _ _ _ us hl => match us, hl with | [_, _], _ => rfl); (case a => k_is); (case l => k_is); (case c => k_is); (case k => k_is))
      (case d_law_laid => refine' Cc.defAt_mk KX G ?a ?l ?c ?k (fun _ _ _ _ _ _ us hl => match us, hl with | [_, _, _, _], _ => rfl); (case a => k_is); (case l => k_is); (case c => k_is); (case k => k_is))
      (case d_law_ends => refine' Cc.defAt_mk KX G ?a ?l ?c ?k (fun _ _ _ _ _ _ us hl => match us, hl with | [_], _ => rfl); (case a => k_is); (case l => k_is); (case c => k_is); (case k => k_is))
      (case d_law_common => refine' Cc.defAt_mk KX G ?a ?l ?c ?k (fun _ _ _ _ _ _ us hl => match us, hl with | [_, _, _, _], _ => rfl); (case a => k_is); (case l => k_is); (case c => k_is); (case k => k_is))
      (case d_law_edge => refine' Cc.defAt_mk KX G ?a ?l ?c ?k (fun _ _ _ _ _ _ us hl => match us, hl with | [_, _], _ => rfl); (case a => k_is); (case l => k_is); (case c => k_is); (case k => k_is))
      (case d_law_boxes_named => refine' Cc.defAt_mk KX G ?a ?l ?c ?k (fun _ _ _ _ _ _ us hl => match us, hl with | [_, _], _ => rfl); (case a => k_is); (case l => k_is); (case c => k_is); (case k => k_is))
      (case d_law_names => refine' Cc.defAt_mk KX G ?a ?l ?c ?k (fun _ _ _ _ _ _ us hl => match us, hl with | [_, _], _ => rfl); (case a => k_is); (case l => k_is); (case c => k_is); (case k => k_is))
      (case d_law_near => refine' Cc.defAt_mk KX G ?a ?l ?c ?k (fun _ _ _ _ _ _ us hl => match us, hl with | [_, _], _ => rfl); (case a => k_is); (case l => k_is); (case c => k_is); (case k => k_is))
      (case d_law_lost => refine' Cc.defAt_mk KX G ?a ?l ?c ?k (fun _ _ _ _ _ _ us hl => match us, hl with | [_], _ => rfl); (case a => k_is); (case l => k_is); (case c => k_is); (case k => k_is))
      (case x_NoName => refine' Cc.excAtN_mk KX G ?a F.store_LookupError F.excBase_LookupError ?ov ?ini ?hd ?sa ?ex ?ty ?kc ?g1 ?g2 ?c5 ?c6 ?c7 ?c8 ?n1 ?n3 ?l4 ?s4 ?no1 ?no2 ?iC ?tI ?lI ?cI ?kI ?t ?hb; (case a => k_is); (case ov => kernel_rfl); (case ini => kernel_rfl); (case hd => k_is); (case sa => k_is); (case ex => k_is); (case ty => k_is); (case kc => k_is); (case g1 => k_is); (case g2 => k_is); (case c5 => k_is); (case c6 => k_is); (case c7 => k_is); (case c8 => k_is); (case n1 => k_is); (case n3 => k_is); (case l4 => k_is); (case s4 => exact rfl); (case no1 => k_is); (case no2 => k_is); (case iC => k_is); (case tI => k_is); (case lI => k_is); (case cI => k_is); (case kI => k_is); (case t => kernel_rfl); (case hb => exact fun _ _ _ _ _ _ us hl => match us, hl with | [_, _], _ => rfl))
      (case m_abs => k_is)
      (case m_all => k_is)
      (case m_bool => k_is)
      (case m_dict => k_is)
      (case m_int => k_is)
      (case m_isinstance => k_is)
      (case m_len => k_is)
      (case m_list => k_is)
      (case m_min => k_is)
      (case m_range => k_is)
      (case m_sorted => k_is)
      (case m_str => k_is)
      (case m_sum => k_is)
      (case m_tuple => k_is)
      (case m_zip => k_is)
      (case m_NOUGHT => refine' Cc.nought_mk KX G ?a ?l; (case a => k_is); (case l => k_is))
      (case m_gcd => k_is))
