import PyProof.Rows.All
import Wide.All
import OpenK.AllK
import Wide.FinOn
import HandS.Base
import HandS.Call
import HandS.List
import HandS.Comp
import HandS.Iter
import HandS.Text
import HandS.Words
import HandS.Codes
import PyProof.NoPylong
import PyProof.Fits
import Flt.Len
import KE.KMathG
import HandS.Gcd
import HandS.IsInst
import HandS.Zip
import HandS.Style
import HandS.Defaults
import HandS.MakeKwOnly
import PyProof.SumAny
import KE.DataMinMax
import HandS.TupAny
import HandS.RevRange
import HandS.TupMul
import HandS.Conv
import HandS.Sort
import HandS.More
import HandS.TryMany
import HandS.ExcField
import HandS.ExcOwn
import HandS.Lambda
import HandS.CallSlots
import HandS.ExcInit
import HandS.ExcIs
import KE.KTypeName
import HandS.WordsExc
import KE.KNestM
import HandS.EndTab
import KE.SortData
import HandS.NoneIn
import HandS.Walk
import KE.GoesMore
import KE.KDflt
import HandS.Deep
import HandS.StrMore
import HandS.FStr
import KE.KIntText
import KE.IntTextLaws
import PyProof.Rows.StrFirst
import PyProof.Rows.StrDigitsNeg
import PyProof.StrOps2
import HandS.ClsMeth
import PySem.Challenge.RW_calmcuts_k05_part_texts_refused
set_option Elab.async false
set_option linter.all false
set_option maxRecDepth 100000
namespace Cc
/-! ### parts as rationals -/
/-- sizes: |num| and den below 2^n -/
def Sz (n : Nat) (q : Rat) : Prop := q.num.natAbs < 2 ^ n ∧ q.den < 2 ^ n
theorem den_pos (q : Rat) : (0 : Int) < (q.den : Int) := by
  have := q.den_nz
  omega
theorem divInt_own (q : Rat) : Rat.divInt q.num q.den = q := by
  rw [Rat.divInt_ofNat]
  exact Rat.mkRat_self q
theorem dv_add (x y : Rat) : Rat.divInt (x.num * y.den + y.num * x.den) (x.den * y.den) = x + y := by
  have h := Rat.divInt_add_divInt x.num y.num (Int.ne_of_gt (den_pos x)) (Int.ne_of_gt (den_pos y))
  rw [divInt_own, divInt_own] at h
  exact h.symm
theorem dv_mul (x y : Rat) : Rat.divInt (x.num * y.num) (x.den * y.den) = x * y := by
  have h := Rat.divInt_mul_divInt x.num y.num (d₁ := x.den) (d₂ := y.den)
  rw [divInt_own, divInt_own] at h
  exact h.symm
theorem dv_sub (x y : Rat) : Rat.divInt (x.num * y.den - y.num * x.den) (x.den * y.den) = x - y := by
  have h := Rat.divInt_add_divInt x.num (-y.num) (Int.ne_of_gt (den_pos x)) (Int.ne_of_gt (den_pos y))
  rw [divInt_own, ← Rat.neg_divInt, divInt_own] at h
  rw [Rat.sub_eq_add_neg, h, Int.neg_mul, Int.sub_eq_add_neg]
theorem dv_div (x y : Rat) : Rat.divInt (x.num * y.den) (x.den * y.num) = x / y := by
  rw [Rat.div_def]
  have h := Rat.divInt_mul_divInt x.num y.den (d₁ := x.den) (d₂ := y.num)
  rw [divInt_own] at h
  rw [← h]
  congr 1
  rw [← Rat.inv_divInt, divInt_own]
theorem num_zero_iff (q : Rat) : q.num = 0 ↔ q = 0 := by
  constructor
  · intro h
    have := divInt_own q
    rw [h, Rat.zero_divInt] at this
    exact this.symm
  · rintro rfl
    rfl
theorem rat_ext {x y : Rat} (h1 : x.num = y.num) (h2 : x.den = y.den) : x = y := by
  rw [← divInt_own x, ← divInt_own y, h1, h2]
/-- x is a/c in lowest terms: what part(a, c) computes -/
theorem divInt_num_eq {a c : Int} (h : 0 < c) : (Rat.divInt a c).num = a / ((Int.gcd a c : Nat) : Int) ∧ ((Rat.divInt a c).den : Int) = c / ((Int.gcd a c : Nat) : Int) := by
  have hc : c = ((c.toNat : Nat) : Int) := by omega
  have h0 : c.toNat ≠ 0 := by omega
  rw [hc, Rat.divInt_ofNat]
  have e1 := Rat.num_mkRat a c.toNat
  have e2 := Rat.den_mkRat a c.toNat
  rw [if_neg h0] at e1 e2
  have eg : Int.gcd a ((c.toNat : Nat) : Int) = c.toNat.gcd a.natAbs := by
    rw [Int.gcd_eq_natAbs_gcd_natAbs, Int.natAbs_natCast, Nat.gcd_comm]
  rw [e1, e2, eg]
  exact ⟨rfl, by rw [Int.natCast_ediv]⟩
theorem divInt_num_neg {a c : Int} (h : c < 0) : (Rat.divInt a c).num = a.fdiv (-((Int.gcd a c : Nat) : Int)) ∧ ((Rat.divInt a c).den : Int) = c.fdiv (-((Int.gcd a c : Nat) : Int)) := by
  have g := divInt_num_eq (a := -a) (c := -c) (by omega)
  rw [Rat.neg_divInt_neg, Int.neg_gcd, Int.gcd_neg] at g
  have nf : ∀ x : Int, x.fdiv (-((Int.gcd a c : Nat) : Int)) = (-x) / ((Int.gcd a c : Nat) : Int) := fun x => by
    have h1 := Int.neg_fdiv_neg (-x) ((Int.gcd a c : Nat) : Int)
    rw [Int.neg_neg] at h1
    rw [h1, Int.fdiv_eq_ediv_of_nonneg _ (Int.natCast_nonneg _)]
  rw [nf, nf]
  exact g
theorem size_divInt {a c : Int} {n : Nat} (h : c ≠ 0) (ha : a.natAbs < 2 ^ n) (hc : c.natAbs < 2 ^ n) : Sz n (Rat.divInt a c) := by
  have key : ∀ {a c : Int}, 0 < c → a.natAbs < 2 ^ n → c.natAbs < 2 ^ n → Sz n (Rat.divInt a c) := by
    intro a c h ha hc
    obtain ⟨e1, e2⟩ := divInt_num_eq (a := a) h
    constructor
    · rw [e1]
      have hd : ((Int.gcd a c : Nat) : Int) ∣ a := Int.gcd_dvd_left ..
      rw [Int.natAbs_ediv_of_dvd hd, Int.natAbs_natCast]
      exact Nat.lt_of_le_of_lt (Nat.div_le_self _ _) ha
    · have e3 : (Rat.divInt a c).den = c.natAbs / Int.gcd a c := by
        have hd : ((Int.gcd a c : Nat) : Int) ∣ c := Int.gcd_dvd_right ..
        have e4 := congrArg Int.natAbs e2
        rw [Int.natAbs_natCast, Int.natAbs_ediv_of_dvd hd, Int.natAbs_natCast] at e4
        exact e4
      rw [e3]
      exact Nat.lt_of_le_of_lt (Nat.div_le_self _ _) hc
  rcases Int.lt_trichotomy c 0 with h1 | h1 | h1
  · rw [← Rat.neg_divInt_neg]
    exact key (by omega) (by omega) (by omega)
  · exact absurd h1 h
  · exact key h1 ha hc
theorem natAbs_add_lt {a b : Int} {m n : Nat} (ha : a.natAbs < 2 ^ m) (hb : b.natAbs < 2 ^ n) : (a + b).natAbs < 2 ^ (max m n + 1) := by
  have h1 : 2 ^ m ≤ 2 ^ max m n := Nat.pow_le_pow_right (by decide) (Nat.le_max_left ..)
  have h2 : 2 ^ n ≤ 2 ^ max m n := Nat.pow_le_pow_right (by decide) (Nat.le_max_right ..)
  rw [Nat.pow_succ]
  omega
theorem natAbs_sub_lt {a b : Int} {m n : Nat} (ha : a.natAbs < 2 ^ m) (hb : b.natAbs < 2 ^ n) : (a - b).natAbs < 2 ^ (max m n + 1) := by
  rw [Int.sub_eq_add_neg]
  exact natAbs_add_lt ha (by rw [Int.natAbs_neg]; exact hb)
theorem natAbs_mul_lt {a b : Int} {m n : Nat} (ha : a.natAbs < 2 ^ m) (hb : b.natAbs < 2 ^ n) : (a * b).natAbs < 2 ^ (m + n) := by
  rw [Int.natAbs_mul, Nat.pow_add]
  exact Nat.mul_lt_mul'' ha hb
theorem pow_mono_lt {a m n : Nat} (h : a < 2 ^ m) (hm : m ≤ n) : a < 2 ^ n := Nat.lt_of_lt_of_le h (Nat.pow_le_pow_right (by decide) hm)
theorem Sz.mono {m n : Nat} {q : Rat} (h : Sz m q) (hm : m ≤ n) : Sz n q := ⟨pow_mono_lt h.1 hm, pow_mono_lt h.2 hm⟩
theorem Sz.pos {n : Nat} {q : Rat} (h : Sz n q) : 0 < n := by
  have h1 := h.2
  have h2 := q.den_nz
  rcases Nat.eq_zero_or_pos n with h3 | h3
  · subst h3
    omega
  · exact h3
theorem sz_add {m n k : Nat} {x y : Rat} (hx : Sz m x) (hy : Sz n y) (h : m + n + 1 ≤ k) : Sz k (x + y) := by
  refine Sz.mono (m := m + n + 1) ?_ h
  rw [← dv_add]
  refine size_divInt ?_ ?_ ?_
  · have h1 := den_pos x
    have h2 := den_pos y
    exact Int.ne_of_gt (Int.mul_pos h1 h2)
  · have h1 := natAbs_add_lt (natAbs_mul_lt hx.1 (b := (y.den : Int)) (n := n) (by rw [Int.natAbs_natCast]; exact hy.2)) (natAbs_mul_lt hy.1 (b := (x.den : Int)) (n := m) (by rw [Int.natAbs_natCast]; exact hx.2))
    exact pow_mono_lt h1 (by omega)
  · exact pow_mono_lt (natAbs_mul_lt (a := (x.den : Int)) (b := (y.den : Int)) (m := m) (n := n) (by rw [Int.natAbs_natCast]; exact hx.2) (by rw [Int.natAbs_natCast]; exact hy.2)) (by omega)
theorem sz_neg {m : Nat} {x : Rat} (hx : Sz m x) : Sz m (-x) := by
  constructor
  · rw [Rat.neg_num, Int.natAbs_neg]
    exact hx.1
  · rw [Rat.neg_den]
    exact hx.2
theorem sz_sub {m n k : Nat} {x y : Rat} (hx : Sz m x) (hy : Sz n y) (h : m + n + 1 ≤ k) : Sz k (x - y) := by
  rw [Rat.sub_eq_add_neg]
  exact sz_add hx (sz_neg hy) h
theorem sz_mul {m n k : Nat} {x y : Rat} (hx : Sz m x) (hy : Sz n y) (h : m + n ≤ k) : Sz k (x * y) := by
  refine Sz.mono (m := m + n) ?_ h
  rw [← dv_mul]
  refine size_divInt ?_ ?_ ?_
  · exact Int.ne_of_gt (Int.mul_pos (den_pos x) (den_pos y))
  · exact natAbs_mul_lt hx.1 hy.1
  · exact natAbs_mul_lt (a := (x.den : Int)) (b := (y.den : Int)) (m := m) (n := n) (by rw [Int.natAbs_natCast]; exact hx.2) (by rw [Int.natAbs_natCast]; exact hy.2)
theorem sz_div {m n k : Nat} {x y : Rat} (hx : Sz m x) (hy : Sz n y) (h0 : y ≠ 0) (h : m + n ≤ k) : Sz k (x / y) := by
  refine Sz.mono (m := m + n) ?_ h
  rw [← dv_div]
  refine size_divInt ?_ ?_ ?_
  · have h1 : y.num ≠ 0 := fun z => h0 ((num_zero_iff y).mp z)
    exact Int.mul_ne_zero (Int.ne_of_gt (den_pos x)) h1
  · exact natAbs_mul_lt (b := (y.den : Int)) hx.1 (by rw [Int.natAbs_natCast]; exact hy.2)
  · exact natAbs_mul_lt (a := (x.den : Int)) (by rw [Int.natAbs_natCast]; exact hx.2) hy.1
theorem dv_cancel (x : Rat) {d : Int} (h : d ≠ 0) : Rat.divInt (x.num * d) (d * x.den) = x := by
  have e := Rat.divInt_mul_divInt x.num d (d₁ := x.den) (d₂ := d)
  rw [divInt_own, Rat.divInt_self' h, Rat.mul_one] at e
  rw [Int.mul_comm d, ← e]
theorem far_size {r e : Int} {k : Nat} (h0 : 0 ≤ r) (h1 : r < 1000 ^ k) (hk : k ≤ 20) (he : e = 0 ∨ e = 1) : ((r + 1) * (1 - 2 * e)).natAbs < 2 ^ 200 := by
  have h2 : (1000 : Int) ^ k ≤ 1000 ^ 20 := by
    have h := Nat.pow_le_pow_right (n := 1000) (by decide) hk
    have e : ∀ n : Nat, (1000 : Int) ^ n = ((1000 ^ n : Nat) : Int) := fun n => (Int.natCast_pow 1000 n).symm
    rw [e, e]
    exact Int.ofNat_le.mpr h
  have h3 : (1000 : Int) ^ 20 < 2 ^ 200 := by decide
  have h4 : (2 : Int) ^ 200 = ((2 ^ 200 : Nat) : Int) := by decide
  have h5 : r + 1 < ((2 ^ 200 : Nat) : Int) := by omega
  generalize (2 ^ 200 : Nat) = N at *
  rcases he with rfl | rfl
  · rw [show (1 - 2 * 0 : Int) = 1 by decide, Int.mul_one]
    omega
  · rw [show (1 - 2 * 1 : Int) = -1 by decide, Int.mul_neg, Int.mul_one]
    omega
theorem gcd_step (x y : Int) : Int.gcd y (x % y) = Int.gcd x y := by
  have h := Int.gcd_add_mul_left_right y (x % y) (x / y)
  rw [Int.emod_add_mul_ediv] at h
  rw [← h, Int.gcd_comm]
end Cc
namespace Cc
open PySem PySem.Spec PyProof.Rows L2
/-! ### operators of ints of any size -/
/-- // by a divisor of any sign, below 2 ^ 9000 -/
def CDivA (_ j : Int) : Prop := j ≠ 0 ∧ j.natAbs < 2 ^ 9000
/-- * : one factor small, or both together below a million bits -/
def CMulA (i j : Int) : Prop := CMul i j ∨ ∃ a b : Nat, i.natAbs < 2 ^ a ∧ j.natAbs < 2 ^ b ∧ a + b ≤ 900000
theorem CMulA.ok {i j : Int} (h : CMulA i j) : IntMulOk i j := by
  rcases h with h | ⟨a, b, ha, hb, hab⟩
  · exact h.ok
  · have ha' := pow_mono_lt ha (Nat.le_succ a)
    have hb' := pow_mono_lt hb (Nat.le_succ b)
    have x := PySem.Flt.log2_lt_of (Nat.succ_pos a) ha'
    have y := PySem.Flt.log2_lt_of (Nat.succ_pos b) hb'
    have bb : ∀ x : Int, Builtin.Int.intBits x ≤ x.natAbs.log2 + 1 := fun x => by
      unfold Builtin.Int.intBits
      split <;> omega
    have h1 := bb i
    have h2 := bb j
    have e : bitsLine = 134217728 := by decide
    unfold IntMulOk
    intro z
    rw [Bool.and_eq_true] at z
    have z2 := z.2
    unfold Builtin.Int.intTooBig at z2
    have z3 := of_decide_eq_true z2
    rw [e] at z3
    omega
section
variable {X : Cx}
theorem op_fdivA : OpR X (binaryOp .FloorDiv) (rI CDivA fun i j => .int (i.fdiv j)) := opI fun i j _ _ _ _ _ hc q =>
  floordiv_int hc.1 q (.inl (PyProof.noPylong_of_log2 (PySem.Flt.log2_lt_of (by decide) hc.2)))
theorem op_mulA : OpR X (binaryOp .Mult) (rI CMulA fun i j => .int (i * j)) := opI fun _ _ _ _ _ _ _ hc q => mul_int q hc.ok
end
theorem cmul_l {i j : Int} (h : -(2 ^ 64) < i ∧ i < 2 ^ 64) : CMulA i j := .inl (.inl h)
theorem cmul_r {i j : Int} (h : -(2 ^ 64) < j ∧ j < 2 ^ 64) : CMulA i j := .inl (.inr h)
theorem cmul_w {i j : Int} {a b : Nat} (ha : i.natAbs < 2 ^ a) (hb : j.natAbs < 2 ^ b) (h : a + b ≤ 900000) : CMulA i j := .inr ⟨a, b, ha, hb, h⟩
/-! ### a def of the program, by its name -/
/-- the def of that name keeps the promise -/
def DefOk (P : Program) (w : World) (K : PySem.W.Frag) (mg : Str → Option Value) (base : Heap) (k : Nat) (x : Str) (ps : List Str) (sp : Sp) : Prop :=
  ∃ f fd, FnOk P w K mg base CX0 k f fd ps sp ∧ mg x = some (.ref f) ∧ PySem.W.keepIn K (.ref f) = true ∧ Binds K fd ps []
/-- the def as the top has left it -/
def DefAt (K : PySem.W.Frag) (mg : Str → Option Value) (x : Str) (st : Stmt) (ps : List Str) : Prop :=
  ∃ f fd, Fun K x x st f fd ∧ mg x = some (.ref f) ∧ Binds K fd ps []
theorem defAt_mk {K : PySem.W.Frag} {mg : Str → Option Value} {h : Heap} {x : Str} {st : Stmt} {ps : List Str} (X : K.In h) (G : h.Ns mainGlobals mg) {f : Addr} {oc : Value} {od an : Option Addr} {osl : Array (Option Value)} {kV doc pm cdv ct : Value}
    (a : PySem.W.nsIn K mainGlobals x = some (some (.ref f))) (l : K.lookup f = some ⟨oc, od, .func (PySem.W.fnOf x x (defArgs st) (defBody st) (defScope st) .none kV doc pm an cdv ct), osl⟩) (c : PySem.W.codeIn K cdv x = true) (k : PySem.W.keepIn K (.ref f) = true)
    (hb : ∀ (kV doc pm : Value) (an : Option Addr) (cdv ct : Value) (us : List Value), us.length = ps.length → bindArgs (PySem.W.fnOf x x (defArgs st) (defBody st) (defScope st) .none kV doc pm an cdv ct) ⟨us, []⟩ = pure (ps.zip us)) : DefAt K mg x st ps :=
  ⟨f, _, fun_mk l c k, PySem.W.mg_of X G a, (fun_mk l c k).binds hb⟩
section
variable {X : Cx} {k j : Nat} {x : Str} {ps : List Str} {sp : Sp} {p pos : Pos} {e : Expr} {es : List Expr} {t : TA}
theorem pe_callD (D : DefOk X.prog X.w X.K X.mg X.base k x ps sp) (hr : Room j X.A) (hkj : k ≤ j) (hg : Gl X x) (ha : PA X (e :: es) t) (hdb : (x == ("__debug__" : Str)) = false := by decide)
    (he : starEach (e :: es) X.env = (false, eval e X.env) :: starEach es X.env := by rfl) (hpl : (backTo pos (starEach es X.env)).any (·.1) = false := by rfl) :
    PE X (.Call (.Name x p) (e :: es) [] pos) (tCall sp [] E0 t) := by
  obtain ⟨f, fd, F, hm, hk, hb⟩ := D
  exact pe_call F (hr.mono hkj) hg hm hk hb .nil pass0 ha hdb he hpl
end
theorem DefAt.ok {P : Program} {w : World} {K : PySem.W.Frag} {mg : Str → Option Value} {base : Heap} {x : Str} {st : Stmt} {N ps : List Str} {k : Nat} {sp : Sp} (F : DefAt K mg x st ps) (S : FnScope N ps (defScope st)) (len : ∀ vs H Q E, sp vs H Q E → vs.length = ps.length)
    (hbody : ∀ (f : Addr) (cdv : Value) (A : Around) (outer : List Env) (s : Shared) (H : Hp) (vs : List V) (Q : VK) (E : XK), Room k (A.deeper (envOfC x (defScope st) s.heap.objs.size f cdv)) → sp vs H Q E →
      ∃ t, PSs (cxOf CX0 P w K mg base N x (defScope st) f cdv A outer s H E).nox (defBody st) t ∧ t { nx := fun _ H' => Q .non H', rt := Q } (start N vs) H) : DefOk P w K mg base (k + 1) x ps sp := by
  obtain ⟨f, fd, F, hm, hb⟩ := F
  exact ⟨f, fd, F.ok S len (hbody f), hm, F.kp, hb⟩
/-! ### tests -/
theorem iteB {c : Bool} {A B : Prop} (h1 : c = true → A) (h2 : c = false → B) : if c = true then A else B := by
  cases c with
  | true => exact iteT (h1 rfl)
  | false => exact iteF (h2 rfl)
theorem iteD {c A B : Prop} {i : Decidable c} (h1 : c → A) (h2 : ¬ c → B) : if (@decide c i) = true then A else B := by
  by_cases h : c
  · rw [if_pos (decide_eq_true h)]
    exact h1 h
  · rw [if_neg (by rw [decide_eq_false h]; exact Bool.false_ne_true)]
    exact h2 h
theorem iteDT {c A B : Prop} {i : Decidable c} (h : c) (h1 : A) : if (@decide c i) = true then A else B := iteD (fun _ => h1) (fun z => absurd h z)
theorem iteDF {c A B : Prop} {i : Decidable c} (h : ¬ c) (h1 : B) : if (@decide c i) = true then A else B := iteD (fun z => absurd z h) (fun _ => h1)
/-! ### heaps -/
theorem same_new {H : Hp} {p : Addr} {o : HO} (h : H p = none) : Same H (upd H p o) := fun b x e => by
  rw [upd_ne (ne_of_none e h)]
  exact e
/-- all but what stands at b is as it was -/
def Kp (b : Addr) (H H' : Hp) : Prop := ∀ a o, H a = some o → a ≠ b → H' a = some o
theorem Kp.refl (b : Addr) (H : Hp) : Kp b H H := fun _ _ h _ => h
theorem Kp.trans {b : Addr} {H H1 H2 : Hp} (x : Kp b H H1) (y : Kp b H1 H2) : Kp b H H2 := fun a o h n => y a o (x a o h n) n
theorem Kp.of {b : Addr} {H H' : Hp} (h : Same H H') : Kp b H H' := fun a o e _ => h a o e
theorem Kp.upd {b : Addr} {H : Hp} {o : HO} : Kp b H (upd H b o) := fun a u e n => by
  rw [upd_ne n]
  exact e
/-- xs[k] = v, the heap behind it a letter -/
theorem setL_step {H : Hp} {p : Addr} {xs ys : List V} {k : Int} {j : Nat} {v : V} {Q : Hp → Prop} (hp : H p = some (.lst xs)) (hj : ixN xs.length k = some j) (hy : xs.set j v = ys) (h : ∀ H1, H1 p = some (.lst ys) → Kp p H H1 → Q H1) :
    rSetL (.ref p) (.int k) v H Q := ⟨p, xs, k, j, rfl, rfl, hp, hj, h _ (by rw [hy]; exact upd_same) Kp.upd⟩
/-! ### parts as they stand -/
section
variable {K : PySem.W.Frag} {H H' : Hp}
def PtV (K : PySem.W.Frag) (H : Hp) (v : V) (q : Rat) : Prop := ∃ a, v = .ref a ∧ SqT K H a [.int q.num, .int (q.den : Int)]
theorem seqT_same {a : Addr} {xs : List V} (e : Same H H') (h : SqT K H a xs) : SqT K H' a xs := by
  rcases h with (h | ⟨o, h⟩) | h
  · exact .inl (.inl (e _ _ h))
  · exact .inl (.inr ⟨o, e _ _ h⟩)
  · exact .inr h
theorem seqT_kp {b a : Addr} {xs ys : List V} (e : Kp b H H') (hb : H b = some (.lst ys)) (h : SqT K H a xs) : SqT K H' a xs := by
  rcases h with (h | ⟨o, h⟩) | h
  · exact .inl (.inl (e _ _ h (ne_of h hb (by intro z; cases z))))
  · exact .inl (.inr ⟨o, e _ _ h (ne_of h hb (by intro z; cases z))⟩)
  · exact .inr h
theorem PtV.same {v : V} {q : Rat} (h : PtV K H v q) (e : Same H H') : PtV K H' v q := by
  obtain ⟨a, rfl, h⟩ := h
  exact ⟨a, rfl, seqT_same e h⟩
theorem PtV.kp {b : Addr} {ys : List V} {v : V} {q : Rat} (h : PtV K H v q) (e : Kp b H H') (hb : H b = some (.lst ys)) : PtV K H' v q := by
  obtain ⟨a, rfl, h⟩ := h
  exact ⟨a, rfl, seqT_kp e hb h⟩
theorem PtV.new {p : Addr} {q : Rat} {a c : Int} (h1 : q.num = a) (h2 : (q.den : Int) = c) : PtV K (upd H p (.tup [.int a, .int c])) (.ref p) q := by
  refine ⟨p, rfl, SqT.of ?_⟩
  rw [upd_same, h1, h2]
def dPart (q : Rat) : PyData := .tuple [.int q.num, .int (q.den : Int)]
theorem PtV.dp {v : V} {q : Rat} (h : PtV K H v q) : Dp K H v (dPart q) := by
  obtain ⟨a, rfl, h⟩ := h
  exact .tup h (.cons (.int _) (.cons (.int _) .nil))
theorem dPart_shaped (q : Rat) : SeqAt.shaped (dPart q) = true := by
  rfl
theorem eqv_part (x y : Rat) : PyData.eqv (dPart x) (dPart y) = decide (x = y) := by
  show (x.num == y.num && ((x.den : Int) == (y.den : Int) && true)) = decide (x = y)
  by_cases h : x = y
  · subst h
    simp
  · rw [decide_eq_false h]
    by_cases h1 : x.num = y.num
    · have h2 : ¬ (x.den : Int) = (y.den : Int) := fun z => h (rat_ext h1 (by omega))
      simp [h2]
    · simp [h1]
end
/-! ### the bag of the law -/
/-- at b: the bag; the cells of the script, the place, the rest, the mixed number, the count -/
def Bag (H : Hp) (b : Addr) : Prop := ∃ (c : Addr) (ns : List Int) (p r x q : Int), H b = some (.lst [.ref c, .int p, .int r, .int x, .int q]) ∧ H c = some (.lst (ns.map V.int)) ∧ c ≠ b ∧ ns.length ≤ 63 ∧ 0 ≤ p ∧ 0 ≤ x ∧ x < 2147483629
theorem Bag.lst {H : Hp} {b : Addr} (h : Bag H b) : ∃ ys, H b = some (.lst ys) := by
  obtain ⟨c, ns, p, r, x, q, h, _⟩ := h
  exact ⟨_, h⟩
theorem Bag.same {H H' : Hp} {b : Addr} (h : Bag H b) (e : Same H H') : Bag H' b := by
  obtain ⟨c, ns, p, r, x, q, h1, h2, h3⟩ := h
  exact ⟨c, ns, p, r, x, q, e _ _ h1, e _ _ h2, h3⟩
theorem PtV.bag {K : PySem.W.Frag} {H H' : Hp} {b : Addr} {v : V} {q : Rat} (h : PtV K H v q) (e : Kp b H H') (hb : Bag H b) : PtV K H' v q := by
  obtain ⟨ys, hb⟩ := hb.lst
  exact h.kp e hb
theorem cut63 {xs : List V} (h : xs.length ≤ 63) : cutV xs none (some 63) = xs := by
  unfold cutV
  rw [HT.sIx_none, show HT.sIx xs.length xs.length (some 63) = min 63 xs.length from HT.sIx_nat xs.length xs.length 63, List.drop_zero, Nat.sub_zero]
  exact List.take_of_length_le (by omega)
theorem bag_ne {b L : Addr} (h : Bag H b) (n : H L = none) : L ≠ b := fun z => by
  obtain ⟨ys, e⟩ := h.lst
  rw [z, e] at n
  cases n
/-- the list at b begins with the address c -/
def Hd (H : Hp) (b c : Addr) : Prop := ∃ r, H b = some (.lst (.ref c :: r))
/-- all but what stands at b is as it was, and b begins as it did -/
structure KpG (b : Addr) (H H' : Hp) : Prop where
  k0 : Kp b H H'
  hd : ∀ c, Hd H b c → Hd H' b c
instance {b : Addr} {H H' : Hp} : Coe (KpG b H H') (Kp b H H') := ⟨KpG.k0⟩
instance {b : Addr} {H H' : Hp} : CoeFun (KpG b H H') (fun _ => ∀ a o, H a = some o → a ≠ b → H' a = some o) := ⟨KpG.k0⟩
theorem KpG.trans {b : Addr} {H H1 H2 : Hp} (x : KpG b H H1) (y : Kp b H1 H2) : Kp b H H2 := x.k0.trans y
theorem KpG.then {b : Addr} {H H1 H2 : Hp} (x : KpG b H H1) (y : KpG b H1 H2) : KpG b H H2 := ⟨x.k0.trans y.k0, fun c h => y.hd c (x.hd c h)⟩
theorem KpG.of {b : Addr} {H H' : Hp} (h : Same H H') : KpG b H H' := ⟨Kp.of h, fun _ ⟨r, e⟩ => ⟨r, h _ _ e⟩⟩
theorem KpG.put {b D : Addr} {H : Hp} {o : HO} (nD : H D = none) (H1 : Hp) (k : KpG b H H1) (hD : D ≠ b) : KpG b H (upd H1 D o) :=
  ⟨fun a u e n => by
    rw [upd_ne (ne_of_none e nD)]
    exact k.k0 a u e n, fun c h => by
    obtain ⟨r, e⟩ := k.hd c h
    exact ⟨r, by rw [upd_ne hD.symm]; exact e⟩⟩
theorem Bag.put {H : Hp} {b c D : Addr} {o : HO} (h : Bag H b) (hc : Hd H b c) (h1 : D ≠ b) (h2 : D ≠ c) : Bag (upd H D o) b := by
  obtain ⟨c', ns, p, r, x, q, e1, e2, e3⟩ := h
  obtain ⟨r', e⟩ := hc
  rw [e] at e1
  cases e1
  exact ⟨c, ns, p, r, x, q, by rw [upd_ne h1.symm]; exact e, by rw [upd_ne h2.symm]; exact e2, e3⟩
theorem Bag.hd {H : Hp} {b : Addr} (h : Bag H b) : ∃ c o, Hd H b c ∧ H c = some o := by
  obtain ⟨c, ns, p, r, x, q, e1, e2, e3⟩ := h
  exact ⟨c, _, ⟨_, e1⟩, e2⟩
/-- the bag, and where its cells stand -/
def BagC (H : Hp) (b cc : Addr) : Prop := Bag H b ∧ Hd H b cc ∧ ∃ o, H cc = some o
theorem BagC.kp {H H' : Hp} {b cc : Addr} (x : BagC H b cc) (k : KpG b H H') (hb : Bag H' b) : BagC H' b cc := by
  obtain ⟨h1, h2, o, h3⟩ := x
  refine ⟨hb, k.hd cc h2, ?_⟩
  obtain ⟨c', ns, p, r, x, q, e1, e2, e3, _⟩ := h1
  obtain ⟨r', e⟩ := h2
  rw [e] at e1
  cases e1
  exact ⟨o, k.k0 _ _ h3 e3⟩
theorem BagC.put {H : Hp} {b cc D : Addr} {o : HO} (x : BagC H b cc) (h1 : D ≠ b) (h2 : D ≠ cc) : BagC (upd H D o) b cc := by
  obtain ⟨a, c, u, d⟩ := x
  refine ⟨a.put c h1 h2, ?_, u, by rw [upd_ne h2.symm]; exact d⟩
  obtain ⟨r, e⟩ := c
  exact ⟨r, by rw [upd_ne h1.symm]; exact e⟩
theorem BagC.same {H H' : Hp} {b cc : Addr} (x : BagC H b cc) (e : Same H H') : BagC H' b cc := by
  obtain ⟨a, ⟨r, c⟩, u, d⟩ := x
  exact ⟨a.same e, ⟨r, e _ _ c⟩, u, e _ _ d⟩
theorem BagC.ne {H : Hp} {b cc D : Addr} (x : BagC H b cc) (n : H D = none) : D ≠ b ∧ D ≠ cc := by
  obtain ⟨a, ⟨r, c⟩, u, d⟩ := x
  exact ⟨fun z => (by rw [z, c] at n; cases n), fun z => (by rw [z, d] at n; cases n)⟩
theorem Bag.c {H : Hp} {b : Addr} (h : Bag H b) : ∃ cc, BagC H b cc := by
  obtain ⟨c, o, h1, h2⟩ := h.hd
  exact ⟨c, h, h1, o, h2⟩
theorem kp_none {c D : Addr} {H H2 : Hp} (k : Kp c H H2) (n : H2 D = none) (h : D ≠ c) : H D = none := by
  cases e : H D with
  | none => rfl
  | some o =>
    rw [k _ _ e h] at n
    cases n
theorem kp_put {c D : Addr} {H H2 : Hp} {o : HO} (k : Kp c H H2) (n : H D = none) : Kp c H (upd H2 D o) := fun b u e h => by
  rw [upd_ne (ne_of_none e n)]
  exact k b u e h
/-! ### the promises of the law's helpers -/
def spBag (K : PySem.W.Frag) : Sp := fun vs H Q _ => ∃ (a : Addr) (ns : List Int), vs = [.ref a] ∧ SqL K H a (ns.map V.int) ∧ ns.length ≤ 63 ∧ ∀ b H', H b = none → Same H H' → Bag H' b → Q (.ref b) H'
def spGet : Sp := fun vs H Q _ => ∃ (b : Addr) (m : Int), vs = [.ref b, .int m] ∧ Bag H b ∧ 0 < m ∧ m < 1073741824 ∧ ∀ r H', 0 ≤ r → r < m → Bag H' b → KpG b H H' → Q (.int r) H'
def spFar : Sp := fun vs H Q _ => ∃ (b : Addr) (k : Nat), vs = [.ref b, .int k] ∧ Bag H b ∧ k ≤ 300 ∧ ∀ (r : Int) H', 0 ≤ r → r < 1000 ^ k → Bag H' b → Kp b H H' → Q (.int r) H'
def spGcd : Sp := fun vs H Q _ => ∃ a c : Int, vs = [.int a, .int c] ∧ 0 ≤ a ∧ 0 ≤ c ∧ Q (.int (Int.gcd a c : Nat)) H
def spPart (K : PySem.W.Frag) : Sp := fun vs H Q _ => ∃ a c : Int, vs = [.int a, .int c] ∧ c ≠ 0 ∧ a.natAbs < 2 ^ 8000 ∧ c.natAbs < 2 ^ 8000 ∧ ∀ v H', Same H H' → PtV K H' v (Rat.divInt a c) → Q v H'
def spNumber : Sp := fun vs H Q _ => ∃ b : Addr, vs = [.ref b] ∧ Bag H b ∧ ∀ (r : Int) H', r.natAbs < 2 ^ 200 → Bag H' b → Kp b H H' → Q (.int r) H'
def spSomePart (K : PySem.W.Frag) : Sp := fun vs H Q _ => ∃ b : Addr, vs = [.ref b] ∧ Bag H b ∧ ∀ v q H', PtV K H' v q → Sz 201 q → Bag H' b → Kp b H H' → Q v H'
/-- two parts in, f of them out -/
@[irreducible] def spTwo (K : PySem.W.Frag) (C : Rat → Rat → Prop) (f : Rat → Rat → Rat) : Sp := fun vs H Q _ => ∃ (v w : V) (x y : Rat), vs = [v, w] ∧ PtV K H v x ∧ PtV K H w y ∧ Sz 3900 x ∧ Sz 3900 y ∧ C x y ∧ ∀ u H', Same H H' → PtV K H' u (f x y) → Q u H'
@[irreducible] def spLess (K : PySem.W.Frag) : Sp := fun vs H Q _ => ∃ (v w : V) (x y : Rat), vs = [v, w] ∧ PtV K H v x ∧ PtV K H w y ∧ Sz 3900 x ∧ Sz 3900 y ∧ ∀ r, r = V.bl (decide (x < y)) → Q r H
end Cc
namespace Cc
open PySem PySem.Spec PyProof.Rows L2
/-! ### steps of a reading -/
section
variable {K : PySem.W.Frag} {H : Hp} {v w : V} {x y : Rat} {Q : VK}
theorem two_step {C : Rat → Rat → Prop} {g : Rat → Rat → Rat} {m n : Nat} {vs : List V} {E : XK} (hv : PtV K H v x) (hw : PtV K H w y) (sx : Sz m x) (sy : Sz n y) (hm : m ≤ 3900) (hn : n ≤ 3900) (hc : C x y) (h : ∀ u H', Same H H' → PtV K H' u (g x y) → Q u H') (hvs : vs = [v, w] := by rfl) : spTwo K C g vs H Q E := by
  unfold spTwo
  exact ⟨v, w, x, y, hvs, hv, hw, sx.mono hm, sy.mono hn, hc, h⟩
theorem less_step {m n : Nat} {vs : List V} {E : XK} (hv : PtV K H v x) (hw : PtV K H w y) (sx : Sz m x) (sy : Sz n y) (hm : m ≤ 3900) (hn : n ≤ 3900) (h : Q (.bl (decide (x < y))) H) (hvs : vs = [v, w] := by rfl) : spLess K vs H Q E := by
  unfold spLess
  exact ⟨v, w, x, y, hvs, hv, hw, sx.mono hm, sy.mono hn, fun _ e => e ▸ h⟩
theorem neD_step (hv : PtV K H v x) (hw : PtV K H w y) (h : Q (.bl (!decide (x = y))) H) : rNeD K v w H Q :=
  ⟨_, _, hv.dp, hw.dp, dPart_shaped _, dPart_shaped _, by rw [eqv_part]; exact h⟩
theorem eqD_step (hv : PtV K H v x) (hw : PtV K H w y) (h : Q (.bl (decide (x = y))) H) : rEqD K v w H Q :=
  ⟨_, _, hv.dp, hw.dp, dPart_shaped _, dPart_shaped _, by rw [eqv_part]; exact h⟩
end
section
variable {X : Cx}
def rCntB (K : PySem.W.Frag) : V → List V → Hp → VK → Prop := fun x xs H Q => ∃ (p : Addr) (bs : List Bool) (k : Bool), x = .ref p ∧ xs = [.bl k] ∧ SqL K H p (bs.map V.bl) ∧ Q (.int (bs.count k : Nat)) H
theorem reads_bools (hp : Heap) : ∀ bs : List Bool, ∃ as, ReadsAll hp (bs.map Value.bool) (bs.map PyData.bool) as
  | [] => ⟨_, ReadsAll.nil⟩
  | b :: r => by
    obtain ⟨as, h⟩ := reads_bools hp r
    exact ⟨_, ReadsAll.cons (Reads.bool b) h⟩
theorem countIn_bools (k : Bool) : ∀ bs : List Bool, countIn (.bool k) (bs.map PyData.bool) = (bs.count k : Nat)
  | [] => rfl
  | b :: r => by
    have ih := countIn_bools k r
    rw [List.map_cons, countIn, ih, List.count_cons]
    cases b <;> cases k <;> simp [same] <;> omega
theorem mt_lcountB : MtR X "list.count" (rCntB X.K) := by
  intro pins s σ H x xs v us Q I rx rxs h
  obtain ⟨p, bs, k, rfl, rfl, hs, q⟩ := h
  cases rx
  obtain ⟨u, rfl, ru⟩ := rxs.one
  cases ru
  obtain ⟨its, rv, hl, hlen⟩ := I.list hs
  have hb := rv.bls
  obtain ⟨as, ra⟩ := reads_bools s.heap bs
  refine count_list_bools (xs := bs.map PyData.bool) hl.isList (by rw [hb]; exact ra) ?_ ?_
  · rw [List.all_map]
    exact List.all_eq_true.mpr fun b _ => by cases b <;> rfl
  · rw [countIn_bools]
    exact ⟨.int _, H, I.tok _, ⟨_, rfl⟩, q⟩
end
theorem sz_abs {n : Nat} {x : Rat} (h : Sz n x) : x.num.natAbs < 2 ^ n ∧ ((x.den : Nat) : Int).natAbs < 2 ^ n := ⟨h.1, by rw [Int.natAbs_natCast]; exact h.2⟩
def spLaw (K : PySem.W.Frag) : Sp := fun vs H Q _ => ∃ (a : Addr) (ns : List Int), vs = [.ref a] ∧ SqL K H a (ns.map V.int) ∧ ns.length ≤ 63 ∧ ∀ H', Q (.bl true) H'
end Cc
namespace Cc
open PySem PySem.Spec PyProof.Rows L2
/-! ### data that stand still -/
section
variable {K : PySem.W.Frag} {H H' : Hp}
theorem seqL_same {a : Addr} {xs : List V} (e : Same H H') (h : SqL K H a xs) : SqL K H' a xs := e.seq h
mutual
theorem Dp.mono (e : Same H H') : ∀ (d : PyData) (v : V), Dp K H v d → Dp K H' v d
  | .none, _, h => by cases h; exact .non
  | .bool b, _, h => by cases h; exact .bl b
  | .int i, _, h => by cases h; exact .int i
  | .str x, _, h => by cases h; exact .str x
  | .list ds, _, h => by
    cases h with
    | lst hs ha => exact .lst (seqL_same e hs) (Dp.monoAll e ds _ ha)
  | .tuple ds, _, h => by
    cases h with
    | tup hs ha => exact .tup (seqT_same e hs) (Dp.monoAll e ds _ ha)
  | .dict _, _, h => by cases h
theorem Dp.monoAll (e : Same H H') : ∀ (ds : List PyData) (vs : List V), DpAll K H vs ds → DpAll K H' vs ds
  | [], _, h => by cases h; exact .nil
  | d :: ds, _, h => by
    cases h with
    | cons h1 h2 => exact .cons (Dp.mono e d _ h1) (Dp.monoAll e ds _ h2)
end
theorem dpAll_len : ∀ {vs : List V} {ds : List PyData}, DpAll K H vs ds → vs.length = ds.length
  | _, _, .nil => rfl
  | _, _, .cons _ h => by rw [List.length_cons, List.length_cons, dpAll_len h]
theorem dpAll_get : ∀ {vs : List V} {ds : List PyData} (h : DpAll K H vs ds) {i : Nat} {v : V}, vs[i]? = some v → ∃ d, ds[i]? = some d ∧ Dp K H v d
  | _, _, .nil, i, v, e => by simp at e
  | _, _, .cons (d := d) h1 h2, 0, v, e => by
    cases e
    exact ⟨d, rfl, h1⟩
  | _, _, .cons h1 h2, i + 1, v, e => by
    rw [List.getElem?_cons_succ] at e
    obtain ⟨d, hd, h⟩ := dpAll_get h2 e
    exact ⟨d, by rw [List.getElem?_cons_succ]; exact hd, h⟩
/-! ### types of data -/
def tyN : PyData → String
  | .none => "NoneType"
  | .bool _ => "bool"
  | .int _ => "int"
  | .str _ => "str"
  | .list _ => "list"
  | .tuple _ => "tuple"
  | .dict _ => "dict"
theorem tyx_tup {a : Addr} {xs : List V} (h : SqT K H a xs) : TyX K H (.ref a) (.type "tuple") := by
  rcases h with (h | ⟨o, h⟩) | ⟨o, its, n, h1, h2, _⟩
  · exact .base (.tup h)
  · exact .fTuple h
  · exact .kTuple h1 h2
theorem tyx_lst {a : Addr} {xs : List V} (h : SqL K H a xs) : TyX K H (.ref a) (.type "list") := by
  rcases h with (h | ⟨o, h⟩) | ⟨o, its, n, h1, h2, _⟩
  · exact .base (.lst h)
  · exact .base (.frz h)
  · exact .kList h1 h2
theorem tyx_of {v : V} : ∀ {d : PyData}, Dp K H v d → TyX K H v (.type (tyN d))
  | _, .non => .base .non
  | _, .bl b => .base (.bl b)
  | _, .int i => .base (.int i)
  | _, .str x => .base (.str x)
  | _, .lst h _ => tyx_lst h
  | _, .tup h _ => tyx_tup h
@[irreducible] def rIsiI (K : PySem.W.Frag) : List V → Hp → VK → Prop := rIsi K
@[irreducible] def rIsiTI (K : PySem.W.Frag) : List V → Hp → VK → Prop := rIsiT K
theorem call_isiI {X : Cx} : CallR X (.builtin "isinstance") (rIsiI X.K) := by
  unfold rIsiI
  exact call_isi
theorem call_isiTI {X : Cx} : CallR X (.builtin "isinstance") (rIsiTI X.K) := by
  unfold rIsiTI
  exact call_isiT
/-- isinstance of one type, of a datum -/
theorem isi_step {v : V} {d : PyData} (t n : String) (b : Bool) {Q : VK} {vs : List V} (h : Dp K H v d) (ht : tyN d = t) (hk : kitB t n = some b) (q : Q (.bl b) H) (hvs : vs = [v, .ty n] := by rfl) : rIsiI K vs H Q := by
  unfold rIsiI
  exact ⟨v, .ty n, _, _, b, hvs, .ty n, tyx_of h, kit_ty (by rw [ht]; exact hk), q⟩
theorem isiT_step {v : V} {d : PyData} {t n m : String} {b c : Bool} {tp : Addr} {Q : VK} {vs : List V} (h : Dp K H v d) (ht : tyN d = t) (hT : H tp = some (.tup [.ty n, .ty m])) (hk : kitB t n = some b) (hk2 : kitB t m = some c) (q : Q (.bl (b || c)) H) (hvs : vs = [v, .ref tp] := by rfl) : rIsiTI K vs H Q := by
  unfold rIsiTI
  subst ht
  refine ⟨v, tp, [.ty n, .ty m], _, [.type n, .type m], b || c, hvs, hT, .cons (.ty n) (.cons (.ty m) .nil), tyx_of h, ?_, q⟩
  refine kitAny_cons (kit_ty hk) (fun e => ?_) (fun e => by rw [e]; rfl)
  subst e
  refine kitAny_cons (r := false || c) (kit_ty hk2) (fun e => ?_) (fun e => by rw [e]; rfl)
  subst e
  exact kitAny_nil
end
/-! ### the promise of _law_same -/
/-- the datum is less deep than n, its lists and tuples short -/
def dle : Nat → PyData → Bool
  | 0, _ => false
  | n + 1, .list ds => decide (ds.length ≤ 1000) && ds.all (dle n)
  | n + 1, .tuple ds => decide (ds.length ≤ 1000) && ds.all (dle n)
  | _ + 1, .dict _ => false
  | _ + 1, .str x => SeqAt.shaped (.str x)
  | _ + 1, _ => true
/-- two things of one datum are the same -/
@[irreducible] def spSame (K : PySem.W.Frag) (n : Nat) : Sp := fun vs H Q _ => ∃ (v w : V) (d : PyData), vs = [v, w] ∧ Dp K H v d ∧ Dp K H w d ∧ dle n d = true ∧ ∀ r H', Same H H' → r = V.bl true → Q r H'
theorem same_step {K : PySem.W.Frag} {H : Hp} {n : Nat} {v w : V} {d : PyData} {Q : VK} {E : XK} {vs : List V} (hv : Dp K H v d) (hw : Dp K H w d) (hd : dle n d = true) (q : ∀ H', Same H H' → Q (.bl true) H') (hvs : vs = [v, w] := by rfl) : spSame K n vs H Q E := by
  unfold spSame
  exact ⟨v, w, d, hvs, hv, hw, hd, fun r H' s e => by rw [e]; exact q H' s⟩
theorem fn_none {P : Program} {w : World} {K : PySem.W.Frag} {mg : Str → Option Value} {base : Heap} {f : Addr} {fd : FuncData} {ps : List Str} {sp : Sp} {k : Nat} (h : ∀ vs H Q E, ¬ sp vs H Q E) : FnOk P w K mg base CX0 k f fd ps sp :=
  ⟨fun vs H Q E z => absurd z (h vs H Q E), fun A outer s H args us vs Q E _ _ _ _ z => absurd z (h vs H Q E)⟩
theorem defOk_none {P : Program} {w : World} {K : PySem.W.Frag} {mg : Str → Option Value} {base : Heap} {x : Str} {st : Stmt} {ps : List Str} {sp : Sp} {k : Nat} (F : DefAt K mg x st ps) (h : ∀ vs H Q E, ¬ sp vs H Q E) : DefOk P w K mg base k x ps sp := by
  obtain ⟨f, fd, F, hm, hb⟩ := F
  exact ⟨f, fd, fn_none h, hm, F.kp, hb⟩
end Cc
namespace Cc
open PySem PySem.Spec PyProof.Rows L2
/-- a box of the mathematics -/
structure Bx where
  l : Rat
  t : Rat
  w : Rat
  h : Rat
structure Bx.Ok (n : Nat) (b : Bx) : Prop where
  w0 : 0 < b.w
  h0 : 0 < b.h
  sl : Sz n b.l
  st : Sz n b.t
  sw : Sz n b.w
  sh : Sz n b.h
theorem Bx.Ok.mono {m n : Nat} {b : Bx} (x : b.Ok m) (h : m ≤ n) : b.Ok n := ⟨x.w0, x.h0, x.sl.mono h, x.st.mono h, x.sw.mono h, x.sh.mono h⟩
section
variable {K : PySem.W.Frag} {H H' : Hp}
/-- a box as it stands: its tuple at a, its parts -/
def BxAt (K : PySem.W.Frag) (H : Hp) (a : Addr) (v1 v2 v3 v4 : V) (b : Bx) : Prop :=
  SqT K H a [v1, v2, v3, v4] ∧ PtV K H v1 b.l ∧ PtV K H v2 b.t ∧ PtV K H v3 b.w ∧ PtV K H v4 b.h
def BxV (K : PySem.W.Frag) (H : Hp) (v : V) (b : Bx) : Prop := ∃ a v1 v2 v3 v4, v = .ref a ∧ BxAt K H a v1 v2 v3 v4 b
theorem BxAt.same {a : Addr} {v1 v2 v3 v4 : V} {b : Bx} (x : BxAt K H a v1 v2 v3 v4 b) (e : Same H H') : BxAt K H' a v1 v2 v3 v4 b :=
  ⟨seqT_same e x.1, x.2.1.same e, x.2.2.1.same e, x.2.2.2.1.same e, x.2.2.2.2.same e⟩
theorem BxAt.bag {a c : Addr} {v1 v2 v3 v4 : V} {b : Bx} (x : BxAt K H a v1 v2 v3 v4 b) (e : Kp c H H') (hb : Bag H c) : BxAt K H' a v1 v2 v3 v4 b := by
  obtain ⟨ys, h⟩ := hb.lst
  exact ⟨seqT_kp e h x.1, x.2.1.kp e h, x.2.2.1.kp e h, x.2.2.2.1.kp e h, x.2.2.2.2.kp e h⟩
theorem BxV.same {v : V} {b : Bx} (x : BxV K H v b) (e : Same H H') : BxV K H' v b := by
  obtain ⟨a, v1, v2, v3, v4, rfl, x⟩ := x
  exact ⟨a, v1, v2, v3, v4, rfl, x.same e⟩
theorem BxV.bag {c : Addr} {v : V} {b : Bx} (x : BxV K H v b) (e : Kp c H H') (hb : Bag H c) : BxV K H' v b := by
  obtain ⟨a, v1, v2, v3, v4, rfl, x⟩ := x
  exact ⟨a, v1, v2, v3, v4, rfl, x.bag e hb⟩
theorem BxV.mk {p : Addr} {v1 v2 v3 v4 : V} {b : Bx} (np : H p = none) (h1 : PtV K H v1 b.l) (h2 : PtV K H v2 b.t) (h3 : PtV K H v3 b.w) (h4 : PtV K H v4 b.h) : BxV K (upd H p (.tup [v1, v2, v3, v4])) (.ref p) b :=
  ⟨p, v1, v2, v3, v4, rfl, SqT.of upd_same, h1.same (same_new np), h2.same (same_new np), h3.same (same_new np), h4.same (same_new np)⟩
def dBox (b : Bx) : PyData := .tuple [dPart b.l, dPart b.t, dPart b.w, dPart b.h]
theorem BxV.dp {v : V} {b : Bx} (x : BxV K H v b) : Dp K H v (dBox b) := by
  obtain ⟨a, v1, v2, v3, v4, rfl, h, h1, h2, h3, h4⟩ := x
  exact .tup h (.cons h1.dp (.cons h2.dp (.cons h3.dp (.cons h4.dp .nil))))
/-- a part that is whole -/
theorem ptv_int {p : Addr} (np : H p = none) (i : Int) : PtV K (upd H p (.tup [.int i, .int 1])) (.ref p) (i : Rat) := PtV.new rfl rfl
end
/-- a name of the module that holds nought -/
def NoughtAt (K : PySem.W.Frag) (mg : Str → Option Value) : Prop := ∃ a, mg "NOUGHT" = some (.ref a) ∧ ∀ H, PtV K H (.ref a) 0
theorem nought_mk {K : PySem.W.Frag} {mg : Str → Option Value} {h : Heap} (X : K.In h) (G : h.Ns mainGlobals mg) {a : Addr} {dd : Option Addr} {n : Nat} {t u : Tok} {sl : Array (Option Value)}
    (e : PySem.W.nsIn K mainGlobals "NOUGHT" = some (some (.ref a))) (l : K.lookup a = some ⟨.type "tuple", dd, .seq #[.int 0 t, .int 1 u] n, sl⟩) : NoughtAt K mg :=
  ⟨a, PySem.W.mg_of X G e, fun _ => ⟨a, rfl, .inr ⟨_, _, _, l, rfl, rfl, (show 2 ≤ sizeLine by decide), .cons ⟨t, rfl⟩ (.cons ⟨u, rfl⟩ .nil)⟩⟩⟩
/-! ### promises -/
@[irreducible] def spIsNum : Sp := fun vs H Q _ => ∃ i : Int, vs = [.int i] ∧ ∀ r, r = V.bl true → Q r H
@[irreducible] def spIsPart (K : PySem.W.Frag) : Sp := fun vs H Q _ => ∃ (v : V) (q : Rat), vs = [v] ∧ PtV K H v q ∧ ∀ r, r = V.bl true → Q r H
@[irreducible] def spIsBox (K : PySem.W.Frag) : Sp := fun vs H Q _ => ∃ (v : V) (b : Bx), vs = [v] ∧ BxV K H v b ∧ b.Ok 3900 ∧ ∀ r H', Same H H' → r = V.bl true → Q r H'
@[irreducible] def spCheck (K : PySem.W.Frag) : Sp := fun vs H Q _ => ∃ (v : V) (b : Bx), vs = [v] ∧ BxV K H v b ∧ b.Ok 3900 ∧ ∀ r H', Same H H' → r = V.non → Q r H'
/-- a part of a box -/
@[irreducible] def spOfBox (K : PySem.W.Frag) (g : Bx → Rat) : Sp := fun vs H Q _ => ∃ (v : V) (b : Bx), vs = [v] ∧ BxV K H v b ∧ b.Ok 1900 ∧ ∀ u H', Same H H' → PtV K H' u (g b) → Q u H'
def gr (x y : Rat) : Rat := if x < y then y else x
def ls (x y : Rat) : Rat := if x < y then x else y
def shp (b : Bx) : Rat := gr (b.w / b.h) (b.h / b.w)
@[irreducible] def spSomeBox (K : PySem.W.Frag) : Sp := fun vs H Q _ => ∃ c : Addr, vs = [.ref c] ∧ Bag H c ∧ ∀ v b H', BxV K H' v b → b.Ok 202 → Bag H' c → Kp c H H' → Q v H'
@[irreducible] def spAbove (K : PySem.W.Frag) : Sp := fun vs H Q _ => ∃ c : Addr, vs = [.ref c] ∧ Bag H c ∧ ∀ v q H', PtV K H' v q → 0 < q → Sz 202 q → Bag H' c → Kp c H H' → Q v H'
section
variable {K : PySem.W.Frag} {H : Hp} {v : V} {b : Bx} {Q : VK} {vs : List V} {E : XK} {q : Rat}
theorem isnum_step {i : Int} (h : Q (.bl true) H) (hvs : vs = [.int i] := by rfl) : spIsNum vs H Q E := by
  unfold spIsNum
  exact ⟨i, hvs, fun r e => by rw [e]; exact h⟩
theorem ispart_step (hv : PtV K H v q) (h : Q (.bl true) H) (hvs : vs = [v] := by rfl) : spIsPart K vs H Q E := by
  unfold spIsPart
  exact ⟨v, q, hvs, hv, fun r e => by rw [e]; exact h⟩
theorem isbox_step {n : Nat} (hv : BxV K H v b) (hb : b.Ok n) (hn : n ≤ 3900) (h : ∀ H', Same H H' → Q (.bl true) H') (hvs : vs = [v] := by rfl) : spIsBox K vs H Q E := by
  unfold spIsBox
  exact ⟨v, b, hvs, hv, hb.mono hn, fun r H' s e => by rw [e]; exact h H' s⟩
theorem check_step {n : Nat} (hv : BxV K H v b) (hb : b.Ok n) (hn : n ≤ 3900) (h : ∀ H', Same H H' → Q .non H') (hvs : vs = [v] := by rfl) : spCheck K vs H Q E := by
  unfold spCheck
  exact ⟨v, b, hvs, hv, hb.mono hn, fun r H' s e => by rw [e]; exact h H' s⟩
theorem ofbox_step {g : Bx → Rat} {n : Nat} (hv : BxV K H v b) (hb : b.Ok n) (hn : n ≤ 1900) (h : ∀ u H', Same H H' → PtV K H' u (g b) → Q u H') (hvs : vs = [v] := by rfl) : spOfBox K g vs H Q E := by
  unfold spOfBox
  exact ⟨v, b, hvs, hv, hb.mono hn, h⟩
theorem somebox_step {c : Addr} (hb : Bag H c) (h : ∀ v b H', BxV K H' v b → b.Ok 202 → Bag H' c → Kp c H H' → Q v H') (hvs : vs = [.ref c] := by rfl) : spSomeBox K vs H Q E := by
  unfold spSomeBox
  exact ⟨c, hvs, hb, h⟩
theorem above_step {c : Addr} (hb : Bag H c) (h : ∀ v q H', PtV K H' v q → 0 < q → Sz 202 q → Bag H' c → Kp c H H' → Q v H') (hvs : vs = [.ref c] := by rfl) : spAbove K vs H Q E := by
  unfold spAbove
  exact ⟨c, hvs, hb, h⟩
end
@[irreducible] def spPick : Sp := fun vs H Q _ => ∃ (c L : Addr) (xs : List V), vs = [.ref c, .ref L] ∧ Bag H c ∧ H L = some (.lst xs) ∧ L ≠ c ∧ 0 < xs.length ∧ xs.length ≤ 1000 ∧ ∀ v H', v ∈ xs → Bag H' c → Kp c H H' → Q v H'
@[irreducible] def spEnds (K : PySem.W.Frag) : Sp := fun vs H Q _ => ∃ (v : V) (b : Bx), vs = [v] ∧ BxV K H v b ∧ b.Ok 1900 ∧ ∀ p v1 v2 v3 v4 H', Same H H' → BxAt K H' p v1 v2 v3 v4 ⟨b.l, b.l + b.w, b.t, b.t + b.h⟩ → Q (.ref p) H'
@[irreducible] def spStretch (K : PySem.W.Frag) : Sp := fun vs H Q _ => ∃ (v1 v2 v3 : V) (x l p : Rat), vs = [v1, v2, v3] ∧ PtV K H v1 x ∧ PtV K H v2 l ∧ PtV K H v3 p ∧ Sz 1900 x ∧ Sz 1900 l ∧ Sz 3900 p ∧ ∀ r H', Same H H' → r = V.bl (!decide (p < x) && decide (p < x + l)) → Q r H'
def lies (b : Bx) (x y : Rat) : Bool := (!decide (x < b.l) && decide (x < b.l + b.w)) && (!decide (y < b.t) && decide (y < b.t + b.h))
@[irreducible] def spLies (K : PySem.W.Frag) : Sp := fun vs H Q _ => ∃ (v1 v2 v3 : V) (b : Bx) (x y : Rat), vs = [v1, v2, v3] ∧ BxV K H v1 b ∧ PtV K H v2 x ∧ PtV K H v3 y ∧ b.Ok 1900 ∧ Sz 3900 x ∧ Sz 3900 y ∧ ∀ r H', Same H H' → r = V.bl (lies b x y) → Q r H'
section
variable {K : PySem.W.Frag} {H : Hp} {v : V} {b : Bx} {Q : VK} {vs : List V} {E : XK}
theorem pick_step {c L : Addr} {xs : List V} (hb : Bag H c) (hL : H L = some (.lst xs)) (hne : L ≠ c) (h0 : 0 < xs.length) (h1 : xs.length ≤ 1000) (h : ∀ v H', v ∈ xs → Bag H' c → Kp c H H' → Q v H') (hvs : vs = [.ref c, .ref L] := by rfl) : spPick vs H Q E := by
  unfold spPick
  exact ⟨c, L, xs, hvs, hb, hL, hne, h0, h1, h⟩
theorem ends_step {n : Nat} (hv : BxV K H v b) (hb : b.Ok n) (hn : n ≤ 1900) (h : ∀ p v1 v2 v3 v4 H', Same H H' → BxAt K H' p v1 v2 v3 v4 ⟨b.l, b.l + b.w, b.t, b.t + b.h⟩ → Q (.ref p) H') (hvs : vs = [v] := by rfl) : spEnds K vs H Q E := by
  unfold spEnds
  exact ⟨v, b, hvs, hv, hb.mono hn, h⟩
theorem stretch_step {v1 v2 v3 : V} {x l p : Rat} {m n k : Nat} (h1 : PtV K H v1 x) (h2 : PtV K H v2 l) (h3 : PtV K H v3 p) (s1 : Sz m x) (s2 : Sz n l) (s3 : Sz k p) (hm : m ≤ 1900) (hn : n ≤ 1900) (hk : k ≤ 3900)
    (h : ∀ H', Same H H' → Q (.bl (!decide (p < x) && decide (p < x + l))) H') (hvs : vs = [v1, v2, v3] := by rfl) : spStretch K vs H Q E := by
  unfold spStretch
  exact ⟨v1, v2, v3, x, l, p, hvs, h1, h2, h3, s1.mono hm, s2.mono hn, s3.mono hk, fun r H' s e => by rw [e]; exact h H' s⟩
theorem lies_step {v1 v2 v3 : V} {x y : Rat} {m n k : Nat} (h1 : BxV K H v1 b) (h2 : PtV K H v2 x) (h3 : PtV K H v3 y) (s1 : b.Ok m) (s2 : Sz n x) (s3 : Sz k y) (hm : m ≤ 1900) (hn : n ≤ 3900) (hk : k ≤ 3900)
    (h : ∀ H', Same H H' → Q (.bl (lies b x y)) H') (hvs : vs = [v1, v2, v3] := by rfl) : spLies K vs H Q E := by
  unfold spLies
  exact ⟨v1, v2, v3, b, x, y, hvs, h1, h2, h3, s1.mono hm, s2.mono hn, s3.mono hk, fun r H' s e => by rw [e]; exact h H' s⟩
end
/-! ### mathematics -/
theorem divInt_pos {a c : Int} (h : 0 < a) (hc : 0 < c) : 0 < Rat.divInt a c := by
  rw [Rat.divInt_eq_div, Rat.div_def]
  exact Rat.mul_pos (Rat.intCast_pos.mpr h) (Rat.inv_pos.mpr (Rat.intCast_pos.mpr hc))
theorem int_pos {i : Int} (h : 0 < i) : (0 : Rat) < (i : Rat) := Rat.intCast_pos.mpr h
theorem int_sz {i : Int} (h : -1000 ≤ i ∧ i ≤ 1000) : Sz 202 ((i : Int) : Rat) := by
  constructor
  · show i.natAbs < 2 ^ 202
    exact Nat.lt_of_lt_of_le (show i.natAbs < 2 ^ 10 by omega) (Nat.pow_le_pow_right (by decide) (by decide))
  · exact Nat.one_lt_two_pow (by decide)

theorem dv_lt {w h : Rat} (hw : 0 < w) (hh : 0 < h) (e : w < h) : w / h < h / w := by
  have h1 : w / h < 1 := (Rat.div_lt_iff hh).mpr (by grind)
  have h2 : 1 < h / w := (Rat.lt_div_iff hw).mpr (by grind)
  grind
theorem gr_shape {w h : Rat} (hw : 0 < w) (hh : 0 < h) : (if w < h then h / w else w / h) = gr (w / h) (h / w) := by
  unfold gr
  by_cases e : w < h
  · rw [if_pos e, if_pos (dv_lt hw hh e)]
  · rw [if_neg e]
    by_cases e2 : h < w
    · rw [if_neg (by have := dv_lt hh hw e2; grind)]
    · have e3 : w = h := by grind
      subst e3
      rw [if_neg (by grind)]
theorem gr_comm (x y : Rat) : gr x y = gr y x := by
  unfold gr
  split <;> split <;> grind
theorem one_le_shape {w h : Rat} (hw : 0 < w) (hh : 0 < h) : ¬ gr (w / h) (h / w) < 1 := by
  rw [← gr_shape hw hh]
  split
  · rename_i e
    have h2 : 1 < h / w := (Rat.lt_div_iff hw).mpr (by grind)
    grind
  · rename_i e
    by_cases e2 : h < w
    · have h2 : 1 < w / h := (Rat.lt_div_iff hh).mpr (by grind)
      grind
    · have e3 : w = h := by grind
      subst e3
      rw [Rat.div_def, Rat.mul_inv_cancel w (by grind)]
      grind
/-! ### lists of parts -/
def PtsL (K : PySem.W.Frag) (H : Hp) (L : Addr) (n : Nat) : Prop := ∃ xs, H L = some (.lst xs) ∧ 0 < xs.length ∧ xs.length ≤ 1000 ∧ ∀ v ∈ xs, ∃ q, PtV K H v q ∧ Sz n q
theorem PtsL.same {K : PySem.W.Frag} {H H' : Hp} {L : Addr} {n : Nat} (x : PtsL K H L n) (e : Same H H') : PtsL K H' L n := by
  obtain ⟨xs, h, h0, h1, h2⟩ := x
  refine ⟨xs, e _ _ h, h0, h1, fun v hv => ?_⟩
  obtain ⟨q, hq, hz⟩ := h2 v hv
  exact ⟨q, hq.same e, hz⟩
theorem PtsL.bag {K : PySem.W.Frag} {H H' : Hp} {L c : Addr} {n : Nat} (x : PtsL K H L n) (e : Kp c H H') (hb : Bag H c) (hne : L ≠ c) : PtsL K H' L n := by
  obtain ⟨xs, h, h0, h1, h2⟩ := x
  refine ⟨xs, e _ _ h hne, h0, h1, fun v hv => ?_⟩
  obtain ⟨q, hq, hz⟩ := h2 v hv
  exact ⟨q, hq.bag e hb, hz⟩
theorem PtsL.pick {K : PySem.W.Frag} {H : Hp} {L c : Addr} {n : Nat} {Q : VK} {E : XK} {vs : List V} (x : PtsL K H L n) (hb : Bag H c) (hne : L ≠ c) (h : ∀ v q H', PtV K H' v q → Sz n q → Bag H' c → Kp c H H' → Q v H') (hvs : vs = [.ref c, .ref L] := by rfl) : spPick vs H Q E := by
  obtain ⟨xs, hL, h0, h1, h2⟩ := x
  refine pick_step hb hL hne h0 h1 (fun v H' hv hb' k => ?_) hvs
  obtain ⟨q, hq, hz⟩ := h2 v hv
  exact h v q H' (hq.bag k hb) hz hb' k
theorem tiny_part {K : PySem.W.Frag} {H : Hp} {p : Addr} {d : Int} (h0 : 0 < d) : PtV K (upd H p (.tup [.int 1, .int d])) (.ref p) (Rat.divInt 1 d) := by
  obtain ⟨e1, e2⟩ := divInt_num_eq (a := 1) h0
  rw [Int.one_gcd] at e1 e2
  exact PtV.new (by rw [e1]; rfl) (by rw [e2]; exact Int.ediv_one d)
end Cc
namespace Cc
open PySem PySem.Spec PyProof.Rows L2
/-! ### sum(t), t a tuple of ints -/
/-- the k-th of ns, nought behind them -/
def nth (ns : List Int) (k : Nat) : Int := ns.getD k 0
theorem nth_get {ns : List Int} {k : Nat} (h : k < ns.length) : nth ns k = ns[k] := by simp [nth, h]
theorem nth_sum (ns : List Int) : ∀ k, k ≤ ns.length → preSum (nth ns) k = (ns.take k).sum
  | 0, _ => by rw [List.take_zero]; rfl
  | k + 1, h => by
    show preSum (nth ns) k + nth ns k = _
    rw [nth_sum ns k (by omega), List.take_succ_eq_append_getElem h, List.sum_append, List.sum_singleton, nth_get h]
theorem ints_len {ns : List Int} {its : List Value} (rv : Vals (ns.map V.int) its) : its.toArray.size = ns.length := by
  have l := rv.length
  rw [List.length_map] at l
  exact l.symm
theorem ints_at {ns : List Int} {its : List Value} (rv : Vals (ns.map V.int) its) (i : Nat) (v : Value) (h : its.toArray[i]? = some v) : ∃ t, v = .int (nth ns i) t := by
  obtain ⟨hi, e⟩ := Array.getElem?_eq_some_iff.mp h
  have hn : i < ns.length := by rw [← ints_len rv]; exact hi
  obtain ⟨u, hu, t, ru⟩ := rv.get (i := i) (show (ns.map V.int)[i]? = some (V.int (nth ns i)) by rw [List.getElem?_map, List.getElem?_eq_getElem hn, nth_get hn]; rfl)
  rw [List.getElem?_toArray, hu] at h
  cases h
  exact ⟨t, ru⟩
section
variable {X : Cx}
/-- ints that stand in a list or in a tuple -/
def IntsV (K : PySem.W.Frag) (H : Hp) (a : Addr) (ns : List Int) : Prop := SqL K H a (ns.map V.int) ∨ SqT K H a (ns.map V.int)
@[irreducible] def rSumA (K : PySem.W.Frag) : List V → Hp → VK → Prop := fun vs H Q => ∃ (a : Addr) (ns : List Int), vs = [V.ref a] ∧ IntsV K H a ns ∧ ∀ r, r = V.int ns.sum → Q r H
theorem cr_sumA (hc : X.calm = true) : CallR X (.builtin "sum") (rSumA X.K) := fun pins s σ H vs us Q I r h => by
  unfold rSumA at h
  obtain ⟨a, ns, ev, hs, q⟩ := h
  subst ev
  rw [Vals.ref1 r]
  rcases hs with hs | hs
  · obtain ⟨its, rv, hl, -⟩ := I.list hs
    exact sum_raw (I.ok.hd hc) hl.isList rv.ints fun h' tk t old => ⟨.int _, H, I.kept old, ⟨t, rfl⟩, q _ rfl⟩
  · obtain ⟨its, rv, hl, -⟩ := I.tuple hs
    refine call_sum_walkAnyS (PySem.W.iter_tupleW (A := X.A.in1) (I.ok.hd hc) hl fun s2 e W st hb _ _ => ?_)
    refine ⟨_, _, _, _, _, _, _, nth ns, rfl, W, st, hb, ints_at rv, fun s' t m => ?_⟩
    obtain ⟨h', tk, rfl, old⟩ := PySem.W.moved_old e rfl m
    refine ⟨.int ns.sum, H, I.kept old, ⟨t, ?_⟩, q _ rfl⟩
    rw [ints_len rv, nth_sum ns _ (Nat.le_refl _), List.take_length]
theorem sum_step {K : PySem.W.Frag} {H : Hp} {a : Addr} {ns : List Int} {vs : List V} {Q : VK} (h : IntsV K H a ns) (q : Q (.int ns.sum) H) (hvs : vs = [.ref a] := by rfl) : rSumA K vs H Q := by
  unfold rSumA
  exact ⟨a, ns, hvs, h, fun r e => by rw [e]; exact q⟩
/-- two readings of one thing walked -/
theorem pi_or {tg e : Expr} {w1 w2 : TI} (h1 : PI X tg e w1) (h2 : PI X tg e w2) : PI X tg e (fun σ H R => w1 σ H R ∨ w2 σ H R) :=
  ⟨fun pins s σ H R I h => h.elim (h1.run pins s σ H R I) (h2.run pins s σ H R I)⟩
theorem pe_or2 {e : Expr} {t1 t2 : TE} (h1 : PE X e t1) (h2 : PE X e t2) : PE X e (fun σ H Q => t1 σ H Q ∨ t2 σ H Q) :=
  ⟨fun pins s σ H Q I h => h.elim (h1.run pins s σ H Q I) (h2.run pins s σ H Q I)⟩
end
/-! ### a def with one keyword-only parameter side -/
/-- as it stands: n positional parameters, then side with the default v0 -/
def DefAtS (K : PySem.W.Frag) (mg : Str → Option Value) (x : Str) (st : Stmt) (ps : List Str) (n : Nat) (v0 : V) : Prop :=
  ∃ f fd, FunD K x x (defArgs st) (defBody st) (defScope st) [] [("side", v0)] f fd ∧ mg x = some (.ref f) ∧ (∃ ds, Vals [v0] ds ∧ Binds K fd ps ds) ∧ ∃ mv : List Value, KBn K fd ps n ["side"] (fun us ws => us ++ ws) (fun vs zs => vs ++ zs)
def DefOkS (P : Program) (w : World) (K : PySem.W.Frag) (mg : Str → Option Value) (base : Heap) (k : Nat) (x : Str) (ps : List Str) (n : Nat) (v0 : V) (sp : Sp) : Prop :=
  ∃ f fd, FnOk P w K mg base CX0 k f fd ps sp ∧ mg x = some (.ref f) ∧ PySem.W.keepIn K (.ref f) = true ∧ (∃ ds, Vals [v0] ds ∧ Binds K fd ps ds) ∧ KBn K fd ps n ["side"] (fun us ws => us ++ ws) (fun vs zs => vs ++ zs)
theorem DefAtS.ok {P : Program} {w : World} {K : PySem.W.Frag} {mg : Str → Option Value} {base : Heap} {x : Str} {st : Stmt} {N ps : List Str} {k n : Nat} {v0 : V} {sp : Sp} (F : DefAtS K mg x st ps n v0) (S : FnScope N ps (defScope st)) (len : ∀ vs H Q E, sp vs H Q E → vs.length = ps.length)
    (hbody : ∀ (f : Addr) (cdv : Value) (A : Around) (outer : List Env) (s : Shared) (H : Hp) (vs : List V) (Q : VK) (E : XK), Room k (A.deeper (envOfC x (defScope st) s.heap.objs.size f cdv)) → sp vs H Q E →
      ∃ t, PSs (cxOf CX0 P w K mg base N x (defScope st) f cdv A outer s H E).nox (defBody st) t ∧ t { nx := fun _ H' => Q .non H', rt := Q } (start N vs) H) : DefOkS P w K mg base (k + 1) x ps n v0 sp := by
  obtain ⟨f, fd, F, hm, hb, mv, hk⟩ := F
  refine ⟨f, fd, F.ok S len (fun cdv A outer s H vs Q E hr h => ?_), hm, F.kp, hb, hk⟩
  obtain ⟨t, h1, h2⟩ := hbody f cdv A outer s H vs Q E hr h
  exact ⟨t, h1.nox, h2⟩
section
variable {X : Cx} {k j n : Nat} {x : Str} {ps : List Str} {sp : Sp} {p pos : Pos} {e : Expr} {es : List Expr} {kws : List Keyword} {t tk : TA} {v0 : V}
theorem pe_callS0 (D : DefOkS X.prog X.w X.K X.mg X.base k x ps n v0 sp) (hr : Room j X.A) (hkj : k ≤ j) (hg : Gl X x) (ha : PA X (e :: es) t) (hdb : (x == ("__debug__" : Str)) = false := by decide)
    (he : starEach (e :: es) X.env = (false, eval e X.env) :: starEach es X.env := by rfl) (hpl : (backTo pos (starEach es X.env)).any (·.1) = false := by rfl) :
    PE X (.Call (.Name x p) (e :: es) [] pos) (tCall sp [v0] E0 t) := by
  obtain ⟨f, fd, F, hm, hk, ⟨ds, hd, hb⟩, _⟩ := D
  exact pe_call F (hr.mono hkj) hg hm hk hb hd pass0 ha hdb he hpl
theorem pe_callS1 (D : DefOkS X.prog X.w X.K X.mg X.base k x ps n v0 sp) (hr : Room j X.A) (hkj : k ≤ j) (hg : Gl X x) (ha : PA X (e :: es) t) (hkw : PK X kws tk) (hall : (backToKw pos (keywordEach kws X.env)).all (·.1.isSome) = true := by rfl) (hks : (backToKw pos (keywordEach kws X.env)).filterMap (·.1) = (["side"] : List Str) := by rfl)
    (hdb : (x == ("__debug__" : Str)) = false := by decide) (he : starEach (e :: es) X.env = (false, eval e X.env) :: starEach es X.env := by rfl)
    (hpl : ((backTo pos (starEach (e :: es) X.env)).any (·.1) || (backToKw pos (keywordEach kws X.env)).any (·.1.isNone)) = false := by rfl) :
    PE X (.Call (.Name x p) (e :: es) kws pos) (tCallN n 1 sp (fun vs zs => vs ++ zs) E0 t tk) := by
  obtain ⟨f, fd, F, hm, hk, _, hb⟩ := D
  exact pe_callN F (hr.mono hkj) hg hm hk hb pass0 ha hkw hall hks hdb he hpl
end
theorem defAtS_mk {K : PySem.W.Frag} {mg : Str → Option Value} {h : Heap} {x : Str} {st : Stmt} {ps : List Str} {n : Nat} {z : Str} (X : K.In h) (G : h.Ns mainGlobals mg) {f D : Addr} {oc : Value} {od an : Option Addr} {osl : Array (Option Value)} {doc pm cdv ct : Value} {tz : Tok}
    (a : PySem.W.nsIn K mainGlobals x = some (some (.ref f))) (l : K.lookup f = some ⟨oc, od, .func (PySem.W.fnOf x x (defArgs st) (defBody st) (defScope st) .none (.ref D) doc pm an cdv ct), osl⟩) (c : PySem.W.codeIn K cdv x = true) (k : PySem.W.keepIn K (.ref f) = true)
    (d : PySem.W.nsIn K D "side" = some (some (.str z tz))) (hn : n + 1 = ps.length)
    (h0 : ∀ (D : Addr) (doc pm : Value) (an : Option Addr) (cdv ct : Value) (us ks : List Value), us.length = n → ks.length = 1 → KwChain D ((["side"] : List Str).zip ks) (bindArgs (PySem.W.fnOf x x (defArgs st) (defBody st) (defScope st) .none (.ref D) doc pm an cdv ct) ⟨us, []⟩) (ps.zip (us ++ ks)))
    (h1 : ∀ (D : Addr) (doc pm : Value) (an : Option Addr) (cdv ct : Value) (us ws : List Value), us.length = n → ws.length = 1 → bindArgs (PySem.W.fnOf x x (defArgs st) (defBody st) (defScope st) .none (.ref D) doc pm an cdv ct) ⟨us, (["side"] : List Str).zip ws⟩ = pure (ps.zip (us ++ ws))) : DefAtS K mg x st ps n (.str z) := by
  have F : FunD K x x (defArgs st) (defBody st) (defScope st) [] [("side", .str z)] f (PySem.W.fnOf x x (defArgs st) (defBody st) (defScope st) .none (.ref D) doc pm an cdv ct) :=
    ⟨⟨oc, od, .none, .ref D, doc, pm, an, cdv, ct, osl, rfl, l, c, .inl ⟨rfl, rfl⟩, .inr ⟨D, rfl, fun q hq => by
      rcases List.mem_cons.mp hq with rfl | hq
      · exact ⟨_, d, ⟨_, rfl⟩⟩
      · cases hq⟩⟩, k⟩
  refine ⟨f, _, F, PySem.W.mg_of X G a, ?_, ?_⟩
  · exact F.binds0 n (by simp) hn h0
  · obtain ⟨mv, hk⟩ := F.kbinds0 (ps := ps) n ["side"] [] (fun us _ ws => us ++ ws) (by simp) (by simp) (fun r1 _ r3 => r1.append r3) (fun D doc pm an cdv ct us mv ws l1 _ l3 => h1 D doc pm an cdv ct us ws l1 l3)
    exact ⟨mv, hk⟩
/-! ### weights and sides -/
structure WOk (ws : List Int) : Prop where
  l0 : 1 ≤ ws.length
  l1 : ws.length ≤ 12
  w : ∀ x ∈ ws, 1 ≤ x ∧ x ≤ 400000
def sd (d : Bool) : Str := if d then "down" else "across"
theorem sum_le : ∀ {ws : List Int}, (∀ x ∈ ws, 1 ≤ x ∧ x ≤ 400000) → (ws.length : Int) ≤ ws.sum ∧ ws.sum ≤ 400000 * ws.length
  | [], _ => by simp
  | x :: r, h => by
    have h1 := h x List.mem_cons_self
    have h2 := sum_le fun y hy => h y (List.mem_cons_of_mem _ hy)
    rw [List.sum_cons, List.length_cons]
    omega
theorem WOk.sum {ws : List Int} (h : WOk ws) : 0 < ws.sum ∧ ws.sum ≤ 4800000 := by
  have h1 := sum_le h.w
  have h2 := h.l0
  have h3 := h.l1
  omega
theorem WOk.take {ws : List Int} (h : WOk ws) (i : Nat) : 0 ≤ (ws.take i).sum ∧ (ws.take i).sum ≤ 4800000 := by
  have h1 := sum_le (ws := ws.take i) fun x hx => h.w x (List.mem_of_mem_take hx)
  have h2 : (ws.take i).length ≤ 12 := by
    have := h.l1
    rw [List.length_take]
    omega
  omega
def slab (b : Bx) (ahead share : Rat) (d : Bool) : Bx := if d then ⟨b.l, b.t + b.h * ahead, b.w, b.h * share⟩ else ⟨b.l + b.w * ahead, b.t, b.w * share, b.h⟩
/-- the i-th box of a split -/
def cutAt (b : Bx) (ws : List Int) (d : Bool) (i : Nat) : Bx := slab b (Rat.divInt (ws.take i).sum ws.sum) (Rat.divInt (ws.getD i 0) ws.sum) d
def cutM (b : Bx) (ws : List Int) (d : Bool) : List Bx := (List.range ws.length).map (cutAt b ws d)
theorem sz23 {i : Int} (h : -4800000 ≤ i ∧ i ≤ 4800000) : i.natAbs < 2 ^ 23 := by omega
theorem sz_share {a c : Int} (h : 0 ≤ a ∧ a ≤ 4800000) (hc : 0 < c ∧ c ≤ 4800000) : Sz 23 (Rat.divInt a c) := size_divInt (by omega) (sz23 (by omega)) (sz23 (by omega))
/-- boxes that stand in a list -/
inductive Bxs (K : PySem.W.Frag) (H : Hp) : List V → List Bx → Prop
  | nil : Bxs K H [] []
  | cons {v : V} {vs : List V} {b : Bx} {bs : List Bx} : BxV K H v b → Bxs K H vs bs → Bxs K H (v :: vs) (b :: bs)
theorem Bxs.same {K : PySem.W.Frag} {H H' : Hp} (e : Same H H') : ∀ {vs : List V} {bs : List Bx}, Bxs K H vs bs → Bxs K H' vs bs
  | _, _, .nil => .nil
  | _, _, .cons h r => .cons (h.same e) (r.same e)
theorem Bxs.snoc {K : PySem.W.Frag} {H : Hp} {v : V} {b : Bx} (hv : BxV K H v b) : ∀ {vs : List V} {bs : List Bx}, Bxs K H vs bs → Bxs K H (vs ++ [v]) (bs ++ [b])
  | _, _, .nil => .cons hv .nil
  | _, _, .cons h r => .cons h (r.snoc hv)
theorem Bxs.dp {K : PySem.W.Frag} {H : Hp} : ∀ {vs : List V} {bs : List Bx}, Bxs K H vs bs → DpAll K H vs (bs.map dBox)
  | _, _, .nil => .nil
  | _, _, .cons h r => .cons h.dp r.dp
theorem Bxs.len {K : PySem.W.Frag} {H : Hp} : ∀ {vs : List V} {bs : List Bx}, Bxs K H vs bs → vs.length = bs.length
  | _, _, .nil => rfl
  | _, _, .cons _ r => by rw [List.length_cons, List.length_cons, r.len]
@[irreducible] def spCheckW (K : PySem.W.Frag) : Sp := fun vs H Q _ => ∃ (a : Addr) (ws : List Int), vs = [.ref a] ∧ IntsV K H a ws ∧ WOk ws ∧ ∀ r H', Same H H' → r = V.non → Q r H'
@[irreducible] def spCheckS : Sp := fun vs H Q _ => ∃ d : Bool, vs = [.str (sd d)] ∧ ∀ r H', Same H H' → r = V.non → Q r H'
@[irreducible] def spSlab (K : PySem.W.Frag) : Sp := fun vs H Q _ => ∃ (v1 v2 v3 : V) (b : Bx) (x y : Rat) (d : Bool), vs = [v1, v2, v3, .str (sd d)] ∧ BxV K H v1 b ∧ b.Ok 1500 ∧ PtV K H v2 x ∧ PtV K H v3 y ∧ Sz 23 x ∧ Sz 23 y ∧ ∀ v H', Same H H' → BxV K H' v (slab b x y d) → Q v H'
@[irreducible] def spSplit (K : PySem.W.Frag) : Sp := fun vs H Q _ => ∃ (v : V) (a : Addr) (b : Bx) (ws : List Int) (d : Bool), vs = [v, .ref a, .str (sd d)] ∧ BxV K H v b ∧ b.Ok 1500 ∧ IntsV K H a ws ∧ WOk ws ∧ ∀ L us H', H L = none → Same H H' → H' L = some (.lst us) → Bxs K H' us (cutM b ws d) → Q (.ref L) H'
/-! ### steps -/
section
variable {K : PySem.W.Frag} {H H' : Hp} {a : Addr} {ws : List Int}
theorem IntsV.same (h : IntsV K H a ws) (e : Same H H') : IntsV K H' a ws := by
  rcases h with h | h
  · exact .inl (seqL_same e h)
  · exact .inr (seqT_same e h)
theorem dp_ints (K : PySem.W.Frag) (H : Hp) : ∀ ws : List Int, DpAll K H (ws.map V.int) (ws.map PyData.int)
  | [] => .nil
  | x :: r => .cons (.int x) (dp_ints K H r)
/-- isinstance(weights, (list, tuple)) -/
theorem IntsV.isi {tp : Addr} {Q : VK} {vs : List V} (h : IntsV K H a ws) (hT : H tp = some (.tup [.ty "list", .ty "tuple"])) (q : Q (.bl true) H) (hvs : vs = [.ref a, .ref tp] := by rfl) : rIsiTI K vs H Q := by
  rcases h with h | h
  · exact isiT_step (t := "list") (n := "list") (m := "tuple") (b := true) (c := false) (.lst h (dp_ints K H ws)) rfl hT (by decide +kernel) (by decide +kernel) q hvs
  · exact isiT_step (t := "tuple") (n := "list") (m := "tuple") (b := false) (c := true) (.tup h (dp_ints K H ws)) rfl hT (by decide +kernel) (by decide +kernel) q hvs
variable {Q : VK} {E : XK} {vs : List V}
theorem checkw_step (h : IntsV K H a ws) (hw : WOk ws) (q : ∀ H', Same H H' → Q .non H') (hvs : vs = [.ref a] := by rfl) : spCheckW K vs H Q E := by
  unfold spCheckW
  exact ⟨a, ws, hvs, h, hw, fun r H' s e => by rw [e]; exact q H' s⟩
theorem checks_step {d : Bool} (q : ∀ H', Same H H' → Q .non H') (hvs : vs = [.str (sd d)] := by rfl) : spCheckS vs H Q E := by
  unfold spCheckS
  exact ⟨d, hvs, fun r H' s e => by rw [e]; exact q H' s⟩
theorem slab_step {v1 v2 v3 : V} {b : Bx} {x y : Rat} {d : Bool} (h1 : BxV K H v1 b) (hb : b.Ok 1500) (h2 : PtV K H v2 x) (h3 : PtV K H v3 y) (z2 : Sz 23 x) (z3 : Sz 23 y) (q : ∀ v H', Same H H' → BxV K H' v (slab b x y d) → Q v H') (hvs : vs = [v1, v2, v3, .str (sd d)] := by rfl) : spSlab K vs H Q E := by
  unfold spSlab
  exact ⟨v1, v2, v3, b, x, y, d, hvs, h1, hb, h2, h3, z2, z3, q⟩
theorem split_step {v : V} {b : Bx} {d : Bool} {n : Nat} (hv : BxV K H v b) (hb : b.Ok n) (hn : n ≤ 1500) (h : IntsV K H a ws) (hw : WOk ws) (q : ∀ L us H', H L = none → Same H H' → H' L = some (.lst us) → Bxs K H' us (cutM b ws d) → Q (.ref L) H') (hvs : vs = [v, .ref a, .str (sd d)] := by rfl) : spSplit K vs H Q E := by
  unfold spSplit
  exact ⟨v, a, b, ws, d, hvs, hv, hb.mono hn, h, hw, q⟩
theorem sd_eq (d : Bool) : decide (V.str (sd d) = V.str "down") = d := by
  cases d <;> decide +kernel
theorem cutM_succ {b : Bx} {ws : List Int} {d : Bool} {i : Nat} (hi : i < ws.length) : (cutM b ws d).take (i + 1) = (cutM b ws d).take i ++ [cutAt b ws d i] := by
  have h : (cutM b ws d)[i]? = some (cutAt b ws d i) := by
    unfold cutM
    rw [List.getElem?_map, List.getElem?_range hi]
    rfl
  rw [List.take_add_one, h]
  rfl
theorem cutM_len (b : Bx) (ws : List Int) (d : Bool) : (cutM b ws d).length = ws.length := by
  unfold cutM
  rw [List.length_map, List.length_range]
theorem take_sum {ws : List Int} {i : Nat} (hi : i < ws.length) : (ws.take (i + 1)).sum = (ws.take i).sum + ws.getD i 0 := by
  rw [List.take_add_one, List.getElem?_eq_getElem hi, List.sum_append, List.getD_eq_getElem?_getD, List.getElem?_eq_getElem hi]
  simp
end
section
variable {K : PySem.W.Frag} {H H' : Hp} {c : Addr} {ys : List V}
theorem BxV.kp {v : V} {b : Bx} (x : BxV K H v b) (e : Kp c H H') (h : H c = some (.lst ys)) : BxV K H' v b := by
  obtain ⟨a, v1, v2, v3, v4, rfl, x⟩ := x
  exact ⟨a, v1, v2, v3, v4, rfl, seqT_kp e h x.1, x.2.1.kp e h, x.2.2.1.kp e h, x.2.2.2.1.kp e h, x.2.2.2.2.kp e h⟩
theorem Bxs.kp (e : Kp c H H') (h : H c = some (.lst ys)) : ∀ {vs : List V} {bs : List Bx}, Bxs K H vs bs → Bxs K H' vs bs
  | _, _, .nil => .nil
  | _, _, .cons x r => .cons (x.kp e h) (r.kp e h)
theorem same_write {H3 G : Hp} {o : HO} (nF : H3 c = none) (s : Same H3 G) : Same H3 (upd G c o) := fun b u e => by
  rw [upd_ne (ne_of_none e nF)]
  exact s b u e
end
/-- a short list of ints may be written, were it the cells' own -/
theorem Bag.write {H : Hp} {c D : Addr} {zs : List Int} (hB : Bag H c) (hDc : D ≠ c) (hz : zs.length ≤ 63) : Bag (upd H D (.lst (zs.map V.int))) c := by
  obtain ⟨a, ns, p, r, x, q, h1, h2, h3, h4, h5, h6, h7⟩ := hB
  by_cases e : a = D
  · subst e
    exact ⟨a, zs, p, r, x, q, by rw [upd_ne hDc.symm]; exact h1, upd_same, h3, hz, h5, h6, h7⟩
  · exact ⟨a, ns, p, r, x, q, by rw [upd_ne hDc.symm]; exact h1, by rw [upd_ne e]; exact h2, h3, h4, h5, h6, h7⟩
@[irreducible] def spWeight : Sp := fun vs H Q _ => ∃ (c : Addr) (k : Int), vs = [.ref c, .int k] ∧ Bag H c ∧ ∀ r H', 1 ≤ r → r ≤ 400000 → Bag H' c → Kp c H H' → Q (.int r) H'
@[irreducible] def spWeights (K : PySem.W.Frag) : Sp := fun vs H Q _ => ∃ (c : Addr) (m : Int), vs = [.ref c, .int m] ∧ Bag H c ∧ 1 ≤ m ∧ m ≤ 12 ∧ ∀ L ws H', H L = none → H' L = some (.lst (ws.map V.int)) → WOk ws → Bag H' c → Kp c H H' → Q (.ref L) H'
@[irreducible] def spLean : Sp := fun vs H Q _ => ∃ c : Addr, vs = [.ref c] ∧ Bag H c ∧ ∀ d H', Bag H' c → Kp c H H' → Q (.str (sd d)) H'
theorem weight_step {H : Hp} {Q : VK} {E : XK} {vs : List V} {c : Addr} {k : Int} (hb : Bag H c) (q : ∀ r H', 1 ≤ r → r ≤ 400000 → Bag H' c → Kp c H H' → Q (.int r) H') (hvs : vs = [.ref c, .int k] := by rfl) : spWeight vs H Q E := by
  unfold spWeight
  exact ⟨c, k, hvs, hb, q⟩
theorem weights_step {K : PySem.W.Frag} {H : Hp} {Q : VK} {E : XK} {vs : List V} {c : Addr} {m : Int} (hb : Bag H c) (h0 : 1 ≤ m) (h1 : m ≤ 12) (q : ∀ L ws H', H L = none → H' L = some (.lst (ws.map V.int)) → WOk ws → Bag H' c → Kp c H H' → Q (.ref L) H') (hvs : vs = [.ref c, .int m] := by rfl) : spWeights K vs H Q E := by
  unfold spWeights
  exact ⟨c, m, hvs, hb, h0, h1, q⟩
theorem lean_step {H : Hp} {Q : VK} {E : XK} {vs : List V} {c : Addr} (hb : Bag H c) (q : ∀ d H', Bag H' c → Kp c H H' → Q (.str (sd d)) H') (hvs : vs = [.ref c] := by rfl) : spLean vs H Q E := by
  unfold spLean
  exact ⟨c, hvs, hb, q⟩
/-- constants of the module -/
theorem glob_int {K : PySem.W.Frag} {mg : Str → Option Value} {h : Heap} {x : Str} {i : Int} {t : Tok} (X : K.In h) (G : h.Ns mainGlobals mg) (e : PySem.W.nsIn K mainGlobals x = some (some (.int i t))) : ∃ t, mg x = some (.int i t) := ⟨t, PySem.W.mg_of X G e⟩
theorem glob_str {K : PySem.W.Frag} {mg : Str → Option Value} {h : Heap} {x z : Str} {t : Tok} (X : K.In h) (G : h.Ns mainGlobals mg) (e : PySem.W.nsIn K mainGlobals x = some (some (.str z t))) : ∃ t, mg x = some (.str z t) := ⟨t, PySem.W.mg_of X G e⟩
-- glob_val
theorem num_gt {q : Rat} (h : 0 < q) : 0 < q.num := by
  have e := (Rat.lt_iff 0 q).mp h
  have e1 : (0 : Rat).num = 0 := rfl
  have e2 : (0 : Rat).den = 1 := rfl
  rw [e1, e2] at e
  omega
/-- a pair of ints, not in lowest terms -/
def PrV (K : PySem.W.Frag) (H : Hp) (v : V) (q : Rat) : Prop := ∃ p a c, v = .ref p ∧ SqT K H p [.int a, .int c] ∧ 0 < c ∧ a.natAbs < 2 ^ 100 ∧ c.natAbs < 2 ^ 100 ∧ q = Rat.divInt a c
@[irreducible] def spTimesR (K : PySem.W.Frag) : Sp := fun vs H Q _ => ∃ (v w : V) (x y : Rat), vs = [v, w] ∧ PtV K H v x ∧ Sz 2000 x ∧ PrV K H w y ∧ ∀ u H', Same H H' → PtV K H' u (x * y) → Q u H'
theorem timesr_step {K : PySem.W.Frag} {H : Hp} {Q : VK} {E : XK} {vs : List V} {v w : V} {x y : Rat} {n : Nat} (hv : PtV K H v x) (zx : Sz n x) (hn : n ≤ 2000) (hw : PrV K H w y) (q : ∀ u H', Same H H' → PtV K H' u (x * y) → Q u H') (hvs : vs = [v, w] := by rfl) : spTimesR K vs H Q E := by
  unfold spTimesR
  exact ⟨v, w, x, y, hvs, hv, zx.mono hn, hw, q⟩
theorem PrV.bag {K : PySem.W.Frag} {H H' : Hp} {c : Addr} {v : V} {q : Rat} (x : PrV K H v q) (e : Kp c H H') (hb : Bag H c) : PrV K H' v q := by
  obtain ⟨ys, hy⟩ := hb.lst
  obtain ⟨p, a, c, rfl, h, r⟩ := x
  exact ⟨p, a, c, rfl, seqT_kp e hy h, r⟩
theorem PrV.same {K : PySem.W.Frag} {H H' : Hp} {v : V} {q : Rat} (x : PrV K H v q) (e : Same H H') : PrV K H' v q := by
  obtain ⟨p, a, c, rfl, h, r⟩ := x
  exact ⟨p, a, c, rfl, seqT_same e h, r⟩
theorem bxs_get {K : PySem.W.Frag} {H : Hp} : ∀ {vs : List V} {bs : List Bx}, Bxs K H vs bs → ∀ {i : Nat} {v : V}, vs[i]? = some v → ∃ b, bs[i]? = some b ∧ BxV K H v b
  | _, _, .nil, i, v, e => by simp at e
  | _, _, .cons (b := b) h r, 0, v, e => by
    cases e
    exact ⟨b, rfl, h⟩
  | _, _, .cons h r, i + 1, v, e => by
    rw [List.getElem?_cons_succ] at e
    obtain ⟨b, h1, h2⟩ := bxs_get r e
    exact ⟨b, by rw [List.getElem?_cons_succ]; exact h1, h2⟩
theorem cutM_get {b : Bx} {ws : List Int} {d : Bool} {i : Nat} {x : Bx} (h : (cutM b ws d)[i]? = some x) : i < ws.length ∧ x = cutAt b ws d i := by
  unfold cutM at h
  rw [List.getElem?_map] at h
  obtain ⟨j, h1, h2⟩ := Option.map_eq_some_iff.mp h
  have hj : i < (List.range ws.length).length := (List.getElem?_eq_some_iff.mp h1).1
  rw [List.length_range] at hj
  rw [List.getElem?_range hj] at h1
  cases h1
  exact ⟨hj, h2.symm⟩
/-! ### the parts of the whole -/
def pre (ws : List Int) (i : Nat) : Rat := Rat.divInt (ws.take i).sum ws.sum
def shr (ws : List Int) (i : Nat) : Rat := Rat.divInt (ws.getD i 0) ws.sum
theorem getD_ok {ws : List Int} (h : WOk ws) {i : Nat} (hi : i < ws.length) : 1 ≤ ws.getD i 0 ∧ ws.getD i 0 ≤ 400000 := by
  rw [List.getD_eq_getElem?_getD, List.getElem?_eq_getElem hi]
  exact h.w _ (List.getElem_mem hi)
theorem shr_pos {ws : List Int} (h : WOk ws) {i : Nat} (hi : i < ws.length) : 0 < shr ws i := divInt_pos (by have := getD_ok h hi; omega) h.sum.1
theorem pre_zero (ws : List Int) : pre ws 0 = 0 := by
  unfold pre
  rw [List.take_zero, List.sum_nil, Rat.zero_divInt]
theorem pre_len {ws : List Int} (h : WOk ws) : pre ws ws.length = 1 := by
  unfold pre
  rw [List.take_length, Rat.divInt_self' (by have := h.sum; omega)]
theorem dv_plus (a c T : Int) : Rat.divInt a T + Rat.divInt c T = Rat.divInt (a + c) T := by
  rw [Rat.divInt_eq_div, Rat.divInt_eq_div, Rat.divInt_eq_div, Rat.intCast_add, Rat.div_def, Rat.div_def, Rat.div_def, Rat.add_mul]
theorem pre_succ {ws : List Int} {i : Nat} (hi : i < ws.length) : pre ws (i + 1) = pre ws i + shr ws i := by
  unfold pre shr
  rw [dv_plus, take_sum hi]
theorem cutAt_eq (b : Bx) (ws : List Int) (d : Bool) (i : Nat) : cutAt b ws d i = slab b (pre ws i) (shr ws i) d := rfl
theorem shr_times {ws : List Int} (h : WOk ws) (i : Nat) : shr ws i * ((ws.sum : Int) : Rat) = ((ws.getD i 0 : Int) : Rat) := by
  unfold shr
  rw [Rat.divInt_eq_div, Rat.div_def, Rat.mul_assoc, Rat.inv_mul_cancel _ (by have := int_pos h.sum.1; grind), Rat.mul_one]
theorem slab_ok {b : Bx} {ws : List Int} {d : Bool} {i n : Nat} (hb : b.Ok n) (hW : WOk ws) (hi : i < ws.length) : (cutAt b ws d i).Ok (n + n + 24) := by
  have s0 := shr_pos hW hi
  have hg := getD_ok hW hi
  have z1 : Sz 23 (pre ws i) := sz_share (hW.take i) hW.sum
  have z2 : Sz 23 (shr ws i) := sz_share (by omega) hW.sum
  rw [cutAt_eq]
  unfold slab
  cases d with
  | true =>
    rw [if_pos rfl]
    exact ⟨hb.w0, Rat.mul_pos hb.h0 s0, hb.sl.mono (by omega), sz_add hb.st (sz_mul hb.sh z1 (Nat.le_refl _)) (by omega), hb.sw.mono (by omega), sz_mul hb.sh z2 (by omega)⟩
  | false =>
    rw [if_neg Bool.false_ne_true]
    exact ⟨Rat.mul_pos hb.w0 s0, hb.h0, sz_add hb.sl (sz_mul hb.sw z1 (Nat.le_refl _)) (by omega), hb.st.mono (by omega), sz_mul hb.sw z2 (by omega), hb.sh.mono (by omega)⟩
end Cc
namespace Cc
/-! ### one stretch of many holds a point -/
def inStretch (f : Nat → Rat) (y : Rat) (i : Nat) : Bool := !decide (y < f i) && decide (y < f (i + 1))
theorem count_none (f : Nat → Rat) (y : Rat) : ∀ n, (∀ i, i < n → f i ≤ f (i + 1)) → f n ≤ y → ((List.range n).map (inStretch f y)).count true = 0
  | 0, _, _ => rfl
  | n + 1, hm, h => by
    have h2 := hm n (Nat.lt_succ_self n)
    have ih := count_none f y n (fun i hi => hm i (Nat.lt_succ_of_lt hi)) (by grind)
    rw [List.range_succ, List.map_append, List.count_append, ih]
    have e : inStretch f y n = false := by
      unfold inStretch
      rw [decide_eq_false (show ¬ y < f (n + 1) by grind), Bool.and_false]
    rw [List.map_cons, List.map_nil, e]
    rfl
theorem count_one (f : Nat → Rat) (y : Rat) : ∀ n, (∀ i, i < n → f i ≤ f (i + 1)) → f 0 ≤ y → y < f n → ((List.range n).map (inStretch f y)).count true = 1
  | 0, _, h0, h1 => by grind
  | n + 1, hm, h0, h1 => by
    rw [List.range_succ, List.map_append, List.count_append, List.map_cons, List.map_nil]
    by_cases h : y < f n
    · have ih := count_one f y n (fun i hi => hm i (Nat.lt_succ_of_lt hi)) h0 h
      have e : inStretch f y n = false := by
        unfold inStretch
        rw [decide_eq_true h]
        rfl
      rw [ih, e]
      rfl
    · have ih := count_none f y n (fun i hi => hm i (Nat.lt_succ_of_lt hi)) (by grind)
      have e : inStretch f y n = true := by
        unfold inStretch
        rw [decide_eq_false h, decide_eq_true h1]
        rfl
      rw [ih, e]
      rfl
end Cc
namespace Cc
open PySem PySem.Spec PyProof.Rows L2
/-! ### weights of rows -/
theorem sum_nn : ∀ {ws : List Int}, (∀ x ∈ ws, 1 ≤ x) → (ws.length : Int) ≤ ws.sum
  | [], _ => by simp
  | x :: r, h => by
    have h1 := h x List.mem_cons_self
    have h2 := sum_nn fun y hy => h y (List.mem_cons_of_mem _ hy)
    rw [List.sum_cons, List.length_cons]
    omega
theorem mem_le_sum : ∀ {ws : List Int}, (∀ x ∈ ws, 1 ≤ x) → ∀ x ∈ ws, x ≤ ws.sum
  | [], _, x, hx => by cases hx
  | y :: r, h, x, hx => by
    have h2 := sum_nn (ws := r) fun z hz => h z (List.mem_cons_of_mem _ hz)
    have h3 := h y List.mem_cons_self
    rw [List.sum_cons]
    rcases List.mem_cons.mp hx with rfl | hx
    · omega
    · have := mem_le_sum (fun z hz => h z (List.mem_cons_of_mem _ hz)) x hx
      omega
structure WGk (ws : List Int) : Prop where
  l0 : 1 ≤ ws.length
  l1 : ws.length ≤ 12
  w : ∀ x ∈ ws, 1 ≤ x
  s : ws.sum ≤ 4800000
theorem WOk.g {ws : List Int} (h : WOk ws) : WGk ws := ⟨h.l0, h.l1, fun x hx => (h.w x hx).1, h.sum.2⟩
theorem WGk.sum {ws : List Int} (h : WGk ws) : 0 < ws.sum ∧ ws.sum ≤ 4800000 := by
  have h1 := sum_nn h.w
  have h2 := h.l0
  have h3 := h.s
  omega
theorem WGk.take {ws : List Int} (h : WGk ws) (i : Nat) : 0 ≤ (ws.take i).sum ∧ (ws.take i).sum ≤ 4800000 := by
  have h1 := sum_nn (ws := ws.take i) fun x hx => h.w x (List.mem_of_mem_take hx)
  have h2 := sum_nn (ws := ws.drop i) fun x hx => h.w x (List.mem_of_mem_drop hx)
  have h3 : ws.sum = (ws.take i).sum + (ws.drop i).sum := by rw [← List.sum_append, List.take_append_drop]
  have h4 := h.s
  omega
theorem WGk.mem {ws : List Int} (h : WGk ws) {x : Int} (hx : x ∈ ws) : 1 ≤ x ∧ x ≤ 4800000 := by
  have h1 := h.w x hx
  have h2 := mem_le_sum h.w x hx
  have h3 := h.s
  omega
theorem WGk.getD {ws : List Int} (h : WGk ws) {i : Nat} (hi : i < ws.length) : 1 ≤ ws.getD i 0 ∧ ws.getD i 0 ≤ 4800000 := by
  rw [List.getD_eq_getElem?_getD, List.getElem?_eq_getElem hi]
  exact h.mem (List.getElem_mem hi)
theorem WGk.shr {ws : List Int} (h : WGk ws) {i : Nat} (hi : i < ws.length) : 0 < shr ws i := divInt_pos (by have := h.getD hi; omega) h.sum.1
theorem slab_okG {b : Bx} {ws : List Int} {d : Bool} {i n : Nat} (hb : b.Ok n) (hW : WGk ws) (hi : i < ws.length) : (cutAt b ws d i).Ok (n + n + 24) := by
  have s0 := hW.shr hi
  have hg := hW.getD hi
  have z1 : Sz 23 (pre ws i) := sz_share (hW.take i) hW.sum
  have z2 : Sz 23 (shr ws i) := sz_share (by omega) hW.sum
  rw [cutAt_eq]
  unfold slab
  cases d with
  | true =>
    rw [if_pos rfl]
    exact ⟨hb.w0, Rat.mul_pos hb.h0 s0, hb.sl.mono (by omega), sz_add hb.st (sz_mul hb.sh z1 (Nat.le_refl _)) (by omega), hb.sw.mono (by omega), sz_mul hb.sh z2 (by omega)⟩
  | false =>
    rw [if_neg Bool.false_ne_true]
    exact ⟨Rat.mul_pos hb.w0 s0, hb.h0, sz_add hb.sl (sz_mul hb.sw z1 (Nat.le_refl _)) (by omega), hb.st.mono (by omega), sz_mul hb.sw z2 (by omega), hb.sh.mono (by omega)⟩
@[irreducible] def spShares (K : PySem.W.Frag) : Sp := fun vs H Q _ => ∃ (v : V) (a : Addr) (b : Bx) (ws : List Int) (d : Bool), vs = [v, .ref a, .str (sd d)] ∧ BxV K H v b ∧ b.Ok 1500 ∧ IntsV K H a ws ∧ WGk ws ∧ ∀ L us H', H L = none → Same H H' → H' L = some (.lst us) → Bxs K H' us (cutM b ws d) → Q (.ref L) H'
@[irreducible] def spCheckSp (K : PySem.W.Frag) : Sp := fun vs H Q _ => ∃ (v : V) (a : Addr) (b : Bx) (ws : List Int) (d : Bool), vs = [v, .ref a, .str (sd d)] ∧ BxV K H v b ∧ b.Ok 1900 ∧ IntsV K H a ws ∧ WOk ws ∧ ∀ r H', Same H H' → r = V.non → Q r H'
def isSd : PyData → Bool
  | .str x => decide (x = sd true) || decide (x = sd false)
  | _ => false
theorem isSd_sd (d : Bool) : isSd (.str (sd d)) = true := by cases d <;> decide +kernel
theorem isSd_str {s : PyData} (h : isSd s = true) : ∃ d, s = .str (sd d) := by
  cases s with
  | str x =>
    have h : (decide (x = sd true) || decide (x = sd false)) = true := h
    rw [Bool.or_eq_true, decide_eq_true_eq, decide_eq_true_eq] at h
    rcases h with h | h
    · exact ⟨true, by rw [h]⟩
    · exact ⟨false, by rw [h]⟩
  | none => exact Bool.noConfusion h
  | bool _ => exact Bool.noConfusion h
  | int _ => exact Bool.noConfusion h
  | list _ => exact Bool.noConfusion h
  | tuple _ => exact Bool.noConfusion h
  | dict _ => exact Bool.noConfusion h
@[irreducible] def spIsSide (K : PySem.W.Frag) : Sp := fun vs H Q _ => ∃ (v : V) (d : PyData), vs = [v] ∧ Dp K H v d ∧ ∀ r H', Same H H' → r = V.bl (isSd d) → Q r H'
section
variable {K : PySem.W.Frag} {H H' : Hp} {a : Addr} {ws : List Int} {Q : VK} {E : XK} {vs : List V}
theorem shares_step {v : V} {b : Bx} {d : Bool} {n : Nat} (hv : BxV K H v b) (hb : b.Ok n) (hn : n ≤ 1500) (h : IntsV K H a ws) (hw : WGk ws) (q : ∀ L us H', H L = none → Same H H' → H' L = some (.lst us) → Bxs K H' us (cutM b ws d) → Q (.ref L) H') (hvs : vs = [v, .ref a, .str (sd d)] := by rfl) : spShares K vs H Q E := by
  unfold spShares
  exact ⟨v, a, b, ws, d, hvs, hv, hb.mono hn, h, hw, q⟩
theorem checksp_step {v : V} {b : Bx} {d : Bool} {n : Nat} (hv : BxV K H v b) (hb : b.Ok n) (hn : n ≤ 1900) (h : IntsV K H a ws) (hw : WOk ws) (q : ∀ H', Same H H' → Q .non H') (hvs : vs = [v, .ref a, .str (sd d)] := by rfl) : spCheckSp K vs H Q E := by
  unfold spCheckSp
  exact ⟨v, a, b, ws, d, hvs, hv, hb.mono hn, h, hw, fun r H' s e => by rw [e]; exact q H' s⟩
theorem issideD_step {v : V} {d : PyData} (hv : Dp K H v d) (q : ∀ H', Same H H' → Q (.bl (isSd d)) H') (hvs : vs = [v] := by rfl) : spIsSide K vs H Q E := by
  unfold spIsSide
  exact ⟨v, d, hvs, hv, fun r H' s e => by rw [e]; exact q H' s⟩
theorem isside_step {d : Bool} (q : ∀ H', Same H H' → Q (.bl true) H') (hvs : vs = [.str (sd d)] := by rfl) : spIsSide K vs H Q E :=
  issideD_step (.str (sd d)) (fun H' s => by rw [isSd_sd]; exact q H' s) hvs
end
/-! ### rows of things that stand in a list -/
inductive Al {α : Type} (R : V → α → Prop) : List V → List α → Prop
  | nil : Al R [] []
  | cons {v : V} {vs : List V} {x : α} {xs : List α} : R v x → Al R vs xs → Al R (v :: vs) (x :: xs)
section
variable {α : Type} {R R' : V → α → Prop}
theorem Al.mono (h : ∀ v x, R v x → R' v x) : ∀ {vs : List V} {xs : List α}, Al R vs xs → Al R' vs xs
  | _, _, .nil => .nil
  | _, _, .cons a r => .cons (h _ _ a) (r.mono h)
theorem Al.snoc {v : V} {x : α} (hv : R v x) : ∀ {vs : List V} {xs : List α}, Al R vs xs → Al R (vs ++ [v]) (xs ++ [x])
  | _, _, .nil => .cons hv .nil
  | _, _, .cons a r => .cons a (r.snoc hv)
theorem Al.len : ∀ {vs : List V} {xs : List α}, Al R vs xs → vs.length = xs.length
  | _, _, .nil => rfl
  | _, _, .cons _ r => by rw [List.length_cons, List.length_cons, r.len]
theorem Al.get : ∀ {vs : List V} {xs : List α}, Al R vs xs → ∀ {i : Nat} {v : V}, vs[i]? = some v → ∃ x, xs[i]? = some x ∧ R v x
  | _, _, .nil, i, v, e => by simp at e
  | _, _, .cons (x := x) h r, 0, v, e => by
    cases e
    exact ⟨x, rfl, h⟩
  | _, _, .cons h r, i + 1, v, e => by
    rw [List.getElem?_cons_succ] at e
    obtain ⟨x, h1, h2⟩ := r.get e
    exact ⟨x, by rw [List.getElem?_cons_succ]; exact h1, h2⟩
end
theorem Bxs.append {K : PySem.W.Frag} {H : Hp} {us : List V} {cs : List Bx} (h : Bxs K H us cs) : ∀ {vs : List V} {bs : List Bx}, Bxs K H vs bs → Bxs K H (vs ++ us) (bs ++ cs)
  | _, _, .nil => h
  | _, _, .cons a r => .cons a (Bxs.append h r)
/-- a row: ints in a list or a tuple -/
def RwV (K : PySem.W.Frag) (H : Hp) (v : V) (row : List Int) : Prop := ∃ a, v = .ref a ∧ IntsV K H a row
theorem RwV.same {K : PySem.W.Frag} {H H' : Hp} (e : Same H H') {v : V} {row : List Int} (h : RwV K H v row) : RwV K H' v row := by
  obtain ⟨a, rfl, h⟩ := h
  exact ⟨a, rfl, h.same e⟩
theorem intsv_kp {K : PySem.W.Frag} {H H' : Hp} {c a : Addr} {ys : List V} {ws : List Int} (e : Kp c H H') (h : H c = some (.lst ys)) (hne : a ≠ c) (x : IntsV K H a ws) : IntsV K H' a ws := by
  rcases x with x | x
  · refine .inl ?_
    rcases x with (x | ⟨o, x⟩) | x
    · exact .inl (.inl (e _ _ x hne))
    · exact .inl (.inr ⟨o, e _ _ x hne⟩)
    · exact .inr x
  · exact .inr (seqT_kp e h x)
/-- a row that isn't the list at R -/
def RwN (K : PySem.W.Frag) (R : Addr) (H : Hp) (v : V) (row : List Int) : Prop := ∃ a, v = .ref a ∧ ((SqL K H a (row.map V.int) ∧ a ≠ R) ∨ SqT K H a (row.map V.int))
theorem RwN.same {K : PySem.W.Frag} {R : Addr} {H H' : Hp} (e : Same H H') {v : V} {row : List Int} (h : RwN K R H v row) : RwN K R H' v row := by
  obtain ⟨a, rfl, h⟩ := h
  exact ⟨a, rfl, h.imp (fun h => ⟨seqL_same e h.1, h.2⟩) (fun h => seqT_same e h)⟩
theorem RwN.rw {K : PySem.W.Frag} {R : Addr} {H : Hp} {v : V} {row : List Int} (h : RwN K R H v row) : RwV K H v row := by
  obtain ⟨a, rfl, h⟩ := h
  exact ⟨a, rfl, h.imp (fun h => h.1) (fun h => h)⟩
theorem RwN.kp {K : PySem.W.Frag} {R : Addr} {H H' : Hp} {ys : List V} (e : Kp R H H') (hc : H R = some (.lst ys)) {v : V} {row : List Int} (h : RwN K R H v row) : RwN K R H' v row := by
  obtain ⟨a, rfl, h⟩ := h
  refine ⟨a, rfl, ?_⟩
  rcases h with ⟨h, n⟩ | h
  · refine .inl ⟨?_, n⟩
    rcases h with (h | ⟨o, h⟩) | h
    · exact .inl (.inl (e _ _ h n))
    · exact .inl (.inr ⟨o, e _ _ h n⟩)
    · exact .inr h
  · exact .inr (seqT_kp e hc h)
/-- a pair of ints -/
def PiV (K : PySem.W.Frag) (H : Hp) (v : V) (x : Int × Int) : Prop := ∃ a, v = .ref a ∧ SqT K H a [.int x.1, .int x.2]
theorem PiV.same {K : PySem.W.Frag} {H H' : Hp} (e : Same H H') {v : V} {x : Int × Int} (h : PiV K H v x) : PiV K H' v x := by
  obtain ⟨a, rfl, h⟩ := h
  exact ⟨a, rfl, seqT_same e h⟩
theorem PiV.kp {K : PySem.W.Frag} {H H' : Hp} {c : Addr} {ys : List V} (e : Kp c H H') (hc : H c = some (.lst ys)) {v : V} {x : Int × Int} (h : PiV K H v x) : PiV K H' v x := by
  obtain ⟨a, rfl, h⟩ := h
  exact ⟨a, rfl, seqT_kp e hc h⟩
/-! ### sizes -/
structure SOk (ss : List Int) (n : Nat) : Prop where
  w : ∀ x ∈ ss, 1 ≤ x
  s : ss.sum = (n : Int)
theorem SOk.len {ss : List Int} {n : Nat} (h : SOk ss n) : ss.length ≤ n := by
  have h1 := sum_nn h.w
  have h2 := h.s
  omega
theorem SOk.ne {ss : List Int} {n : Nat} (h : SOk ss n) (hn : 1 ≤ n) : 1 ≤ ss.length := by
  have h2 := h.s
  cases ss with
  | nil => simp at h2; omega
  | cons x r => simp
def off (ss : List Int) (i : Nat) : Nat := (ss.take i).sum.toNat
def rowAt (ws ss : List Int) (i : Nat) : List Int := (ws.drop (off ss i)).take (ss.getD i 0).toNat
def rowsM (ws ss : List Int) : List (List Int) := (List.range ss.length).map (rowAt ws ss)
def sumsM (ws ss : List Int) : List Int := (rowsM ws ss).map List.sum
def endsM (ss : List Int) : List (Int × Int) := (List.range ss.length).map fun i => ((ss.take i).sum, (ss.take i).sum + ss.getD i 0)
theorem SOk.take {ss : List Int} {n : Nat} (h : SOk ss n) (i : Nat) : 0 ≤ (ss.take i).sum ∧ (ss.take i).sum ≤ (n : Int) := by
  have h1 := sum_nn (ws := ss.take i) fun x hx => h.w x (List.mem_of_mem_take hx)
  have h2 := sum_nn (ws := ss.drop i) fun x hx => h.w x (List.mem_of_mem_drop hx)
  have h3 : ss.sum = (ss.take i).sum + (ss.drop i).sum := by rw [← List.sum_append, List.take_append_drop]
  have h4 := h.s
  omega
theorem SOk.getD {ss : List Int} {n : Nat} (h : SOk ss n) {i : Nat} (hi : i < ss.length) : 1 ≤ ss.getD i 0 := by
  rw [List.getD_eq_getElem?_getD, List.getElem?_eq_getElem hi]
  exact h.w _ (List.getElem_mem hi)
theorem SOk.off_int {ss : List Int} {n : Nat} (h : SOk ss n) (i : Nat) : ((off ss i : Nat) : Int) = (ss.take i).sum := by
  have h1 := h.take i
  unfold off
  omega
theorem SOk.off_succ {ss : List Int} {n : Nat} (h : SOk ss n) {i : Nat} (hi : i < ss.length) : off ss (i + 1) = off ss i + (ss.getD i 0).toNat := by
  have h1 := h.take i
  have h2 := h.getD hi
  unfold off
  rw [take_sum hi]
  omega
theorem SOk.off_le {ss : List Int} {n : Nat} (h : SOk ss n) (i : Nat) : off ss i ≤ n := by
  have h1 := h.take i
  unfold off
  omega
theorem SOk.off_len {ss : List Int} {n : Nat} (h : SOk ss n) : off ss ss.length = n := by
  have h1 := h.s
  unfold off
  rw [List.take_length]
  omega
theorem SOk.size_le {ss : List Int} {n : Nat} (h : SOk ss n) {i : Nat} (hi : i < ss.length) : off ss i + (ss.getD i 0).toNat ≤ n := by
  rw [← h.off_succ hi]
  exact h.off_le _
section
variable {ws ss : List Int}
theorem row_len (h : SOk ss ws.length) {i : Nat} (hi : i < ss.length) : (rowAt ws ss i).length = (ss.getD i 0).toNat := by
  have := h.size_le hi
  unfold rowAt
  rw [List.length_take, List.length_drop]
  omega
theorem row_ok (hW : WOk ws) (h : SOk ss ws.length) {i : Nat} (hi : i < ss.length) : WOk (rowAt ws ss i) := by
  have h1 := h.size_le hi
  have h2 := h.getD hi
  have h3 := hW.l1
  refine ⟨by rw [row_len h hi]; omega, by rw [row_len h hi]; omega, fun x hx => hW.w x ?_⟩
  unfold rowAt at hx
  exact List.mem_of_mem_drop (List.mem_of_mem_take hx)
theorem row_take (h : SOk ss ws.length) {i : Nat} (hi : i < ss.length) : ws.take (off ss (i + 1)) = ws.take (off ss i) ++ rowAt ws ss i := by
  rw [h.off_succ hi, List.take_add]
  rfl
theorem sums_len : (sumsM ws ss).length = ss.length := by
  unfold sumsM rowsM
  rw [List.length_map, List.length_map, List.length_range]
theorem rows_len : (rowsM ws ss).length = ss.length := by
  unfold rowsM
  rw [List.length_map, List.length_range]
theorem rows_get {i : Nat} (hi : i < ss.length) : (rowsM ws ss)[i]? = some (rowAt ws ss i) := by
  unfold rowsM
  rw [List.getElem?_map, List.getElem?_range hi]
  rfl
theorem sums_get {i : Nat} (hi : i < ss.length) : (sumsM ws ss)[i]? = some (rowAt ws ss i).sum := by
  unfold sumsM
  rw [List.getElem?_map, rows_get hi]
  rfl
theorem sums_getD {i : Nat} (hi : i < ss.length) : (sumsM ws ss).getD i 0 = (rowAt ws ss i).sum := by
  rw [List.getD_eq_getElem?_getD, sums_get hi]
  rfl
theorem sums_take (h : SOk ss ws.length) : ∀ i, i ≤ ss.length → ((sumsM ws ss).take i).sum = (ws.take (off ss i)).sum
  | 0, _ => by simp [off]
  | i + 1, hi => by
    have ih := sums_take h i (by omega)
    rw [take_sum (by rw [sums_len]; omega), ih, sums_getD (by omega), row_take h (by omega), List.sum_append]
theorem sums_sum (h : SOk ss ws.length) : (sumsM ws ss).sum = ws.sum := by
  have e := sums_take h ss.length (Nat.le_refl _)
  rw [h.off_len, List.take_length] at e
  rw [← e, List.take_of_length_le (by rw [sums_len]; exact Nat.le_refl _)]
theorem sums_ok (hW : WOk ws) (h : SOk ss ws.length) : WGk (sumsM ws ss) := by
  have h0 := hW.l0
  have h1 := hW.l1
  refine ⟨by rw [sums_len]; exact h.ne h0, by rw [sums_len]; have := h.len; omega, fun x hx => ?_, by rw [sums_sum h]; exact hW.sum.2⟩
  obtain ⟨row, hr, rfl⟩ := List.mem_map.mp hx
  obtain ⟨i, hi, rfl⟩ := List.mem_map.mp hr
  have := (row_ok hW h (List.mem_range.mp hi)).sum
  omega
theorem cut_row (h : SOk ss ws.length) {i : Nat} (hi : i < ss.length) : cutV (ws.map V.int) (some (ss.take i).sum) (some ((ss.take i).sum + ss.getD i 0)) = (rowAt ws ss i).map V.int := by
  have h1 := h.size_le hi
  have h2 := h.getD hi
  have e1 := h.off_int i
  have e2 : (ss.take i).sum + ss.getD i 0 = ((off ss i + (ss.getD i 0).toNat : Nat) : Int) := by omega
  unfold cutV rowAt
  rw [e2, ← e1, List.length_map, HT.sIx_nat, HT.sIx_nat, Nat.min_eq_left (by omega), Nat.min_eq_left (by omega), Nat.add_sub_cancel_left, List.map_take, List.map_drop]
theorem ends_len : (endsM ss).length = ss.length := by
  unfold endsM
  rw [List.length_map, List.length_range]
theorem ends_get {i : Nat} {x : Int × Int} (h : (endsM ss)[i]? = some x) : i < ss.length ∧ x = ((ss.take i).sum, (ss.take i).sum + ss.getD i 0) := by
  have hi := (List.getElem?_eq_some_iff.mp h).1
  rw [ends_len] at hi
  unfold endsM at h
  rw [List.getElem?_map, List.getElem?_range hi] at h
  exact ⟨hi, (Option.some.inj h).symm⟩
theorem rows_get' {i : Nat} {x : List Int} (h : (rowsM ws ss)[i]? = some x) : i < ss.length ∧ x = rowAt ws ss i := by
  have hi := (List.getElem?_eq_some_iff.mp h).1
  rw [rows_len] at hi
  rw [rows_get hi] at h
  exact ⟨hi, (Option.some.inj h).symm⟩
/-- the boxes of the i-th row -/
def laidAt (b : Bx) (ws ss : List Int) (d : Bool) (i : Nat) : List Bx := cutM (cutAt b (sumsM ws ss) d i) (rowAt ws ss i) (!d)
def laidTo (b : Bx) (ws ss : List Int) (d : Bool) (i : Nat) : List Bx := ((List.range i).map (laidAt b ws ss d)).flatten
def laidM (b : Bx) (ws ss : List Int) (d : Bool) : List Bx := laidTo b ws ss d ss.length
theorem laidTo_succ (b : Bx) (ws ss : List Int) (d : Bool) (i : Nat) : laidTo b ws ss d (i + 1) = laidTo b ws ss d i ++ laidAt b ws ss d i := by
  unfold laidTo
  rw [List.range_succ, List.map_append, List.flatten_append, List.map_cons, List.map_nil, List.flatten_cons, List.flatten_nil, List.append_nil]
theorem laidTo_len (b : Bx) (d : Bool) (h : SOk ss ws.length) : ∀ i, i ≤ ss.length → (laidTo b ws ss d i).length = off ss i
  | 0, _ => by simp [off, laidTo]
  | i + 1, hi => by
    rw [laidTo_succ, List.length_append, laidTo_len b d h i (by omega), h.off_succ (by omega)]
    unfold laidAt
    rw [cutM_len, row_len h (by omega)]
theorem laidM_len (b : Bx) (d : Bool) (h : SOk ss ws.length) : (laidM b ws ss d).length = ws.length := by
  unfold laidM
  rw [laidTo_len b d h _ (Nat.le_refl _), h.off_len]
end
/-! ### rules that speak of the one frame, in a block too -/
section
variable {X : Cx} {K : PySem.W.Frag}
theorem kk_call {v : Value} {r : PySem.W.Frag → List V → Hp → VK → Prop} (hK : X.K = K) (h : CallR X v (r X.K)) : CallR X v (r K) := hK ▸ h
theorem kk_ix {r : PySem.W.Frag → R2} (hK : X.K = K) (h : IxR X (r X.K)) : IxR X (r K) := hK ▸ h
theorem kk_sl {r : PySem.W.Frag → V → Option Int → Option Int → Hp → VK → Prop} (hK : X.K = K) (h : SlR X (r X.K)) : SlR X (r K) := hK ▸ h
theorem kk_op {v : Value → Value → Sem Value} {r : PySem.W.Frag → R2} (hK : X.K = K) (h : OpR X v (r X.K)) : OpR X v (r K) := hK ▸ h
end
/-! ### promises -/
@[irreducible] def spRowEnds (K : PySem.W.Frag) : Sp := fun vs H Q _ => ∃ (a : Addr) (ss : List Int) (n : Nat), vs = [.ref a] ∧ SqT K H a (ss.map V.int) ∧ SOk ss n ∧ n ≤ 12 ∧ ∀ L us H', H L = none → Same H H' → H' L = some (.lst us) → Al (PiV K H') us (endsM ss) → Q (.ref L) H'
@[irreducible] def spCheckSz (K : PySem.W.Frag) : Sp := fun vs H Q _ => ∃ (a : Addr) (ss : List Int) (n : Nat), vs = [.ref a, .int n] ∧ SqT K H a (ss.map V.int) ∧ SOk ss n ∧ n ≤ 12 ∧ ∀ r H', Same H H' → r = V.non → Q r H'
@[irreducible] def spLaid (K : PySem.W.Frag) : Sp := fun vs H Q _ => ∃ (v : V) (a t : Addr) (b : Bx) (ws ss : List Int) (d : Bool), vs = [v, .ref a, .ref t, .str (sd d)] ∧ BxV K H v b ∧ b.Ok 500 ∧ IntsV K H a ws ∧ WOk ws ∧ SqT K H t (ss.map V.int) ∧ SOk ss ws.length ∧ ∀ L us H', H L = none → Same H H' → H' L = some (.lst us) → Bxs K H' us (laidM b ws ss d) → Q (.ref L) H'
@[irreducible] def spLSizes (K : PySem.W.Frag) : Sp := fun vs H Q _ => ∃ (c : Addr) (n : Nat), vs = [.ref c, .int n] ∧ Bag H c ∧ 1 ≤ n ∧ n ≤ 12 ∧ ∀ t ss H', H' t = some (.tup (ss.map V.int)) → SOk ss n → Bag H' c → Kp c H H' → Q (.ref t) H'
@[irreducible] def spTurned : Sp := fun vs H Q _ => ∃ d : Bool, vs = [.str (sd d)] ∧ ∀ r, r = V.str (sd (!d)) → Q r H
@[irreducible] def spParted (K : PySem.W.Frag) : Sp := fun vs H Q _ => ∃ (a t : Addr) (ws ss : List Int), vs = [.ref a, .ref t] ∧ SqL K H a (ws.map V.int) ∧ IntsV K H t ss ∧ SOk ss ws.length ∧ ws.length ≤ 12 ∧ ∀ L us H', H L = none → Same H H' → H' L = some (.lst us) → Al (RwV K H') us (rowsM ws ss) → Q (.ref L) H'
@[irreducible] def spLLaid (K : PySem.W.Frag) : Sp := fun vs H Q _ => ∃ (v : V) (a t : Addr) (b : Bx) (ws ss : List Int) (d : Bool), vs = [v, .ref a, .ref t, .str (sd d)] ∧ BxV K H v b ∧ b.Ok 500 ∧ SqL K H a (ws.map V.int) ∧ WOk ws ∧ IntsV K H t ss ∧ SOk ss ws.length ∧ ∀ L us H', H L = none → Same H H' → H' L = some (.lst us) → Bxs K H' us (laidM b ws ss d) → Q (.ref L) H'
section
variable {K : PySem.W.Frag} {H H' : Hp} {a t : Addr} {ws ss : List Int} {Q : VK} {E : XK} {vs : List V}
theorem rowends_step {n : Nat} (h : SqT K H a (ss.map V.int)) (hs : SOk ss n) (hn : n ≤ 12) (q : ∀ L us H', H L = none → Same H H' → H' L = some (.lst us) → Al (PiV K H') us (endsM ss) → Q (.ref L) H') (hvs : vs = [.ref a] := by rfl) : spRowEnds K vs H Q E := by
  unfold spRowEnds
  exact ⟨a, ss, n, hvs, h, hs, hn, q⟩
theorem checksz_step {n : Nat} (h : SqT K H a (ss.map V.int)) (hs : SOk ss n) (hn : n ≤ 12) (q : ∀ H', Same H H' → Q .non H') (hvs : vs = [.ref a, .int n] := by rfl) : spCheckSz K vs H Q E := by
  unfold spCheckSz
  exact ⟨a, ss, n, hvs, h, hs, hn, fun r H' s e => by rw [e]; exact q H' s⟩
theorem laid_step {v : V} {b : Bx} {d : Bool} {n : Nat} (hv : BxV K H v b) (hb : b.Ok n) (hn : n ≤ 500) (h : IntsV K H a ws) (hw : WOk ws) (ht : SqT K H t (ss.map V.int)) (hs : SOk ss ws.length) (q : ∀ L us H', H L = none → Same H H' → H' L = some (.lst us) → Bxs K H' us (laidM b ws ss d) → Q (.ref L) H') (hvs : vs = [v, .ref a, .ref t, .str (sd d)] := by rfl) : spLaid K vs H Q E := by
  unfold spLaid
  exact ⟨v, a, t, b, ws, ss, d, hvs, hv, hb.mono hn, h, hw, ht, hs, q⟩
theorem lsizes_step {c : Addr} {n : Nat} (hb : Bag H c) (h0 : 1 ≤ n) (h1 : n ≤ 12) (q : ∀ t ss H', H' t = some (.tup (ss.map V.int)) → SOk ss n → Bag H' c → Kp c H H' → Q (.ref t) H') (hvs : vs = [.ref c, .int n] := by rfl) : spLSizes K vs H Q E := by
  unfold spLSizes
  exact ⟨c, n, hvs, hb, h0, h1, q⟩
theorem turned_step {d : Bool} (q : Q (.str (sd (!d))) H) (hvs : vs = [.str (sd d)] := by rfl) : spTurned vs H Q E := by
  unfold spTurned
  exact ⟨d, hvs, fun r e => by rw [e]; exact q⟩
theorem parted_step (h : SqL K H a (ws.map V.int)) (ht : IntsV K H t ss) (hs : SOk ss ws.length) (hl : ws.length ≤ 12) (q : ∀ L us H', H L = none → Same H H' → H' L = some (.lst us) → Al (RwV K H') us (rowsM ws ss) → Q (.ref L) H') (hvs : vs = [.ref a, .ref t] := by rfl) : spParted K vs H Q E := by
  unfold spParted
  exact ⟨a, t, ws, ss, hvs, h, ht, hs, hl, q⟩
theorem llaid_step {v : V} {b : Bx} {d : Bool} {n : Nat} (hv : BxV K H v b) (hb : b.Ok n) (hn : n ≤ 500) (h : SqL K H a (ws.map V.int)) (hw : WOk ws) (ht : IntsV K H t ss) (hs : SOk ss ws.length) (q : ∀ L us H', H L = none → Same H H' → H' L = some (.lst us) → Bxs K H' us (laidM b ws ss d) → Q (.ref L) H') (hvs : vs = [v, .ref a, .ref t, .str (sd d)] := by rfl) : spLLaid K vs H Q E := by
  unfold spLLaid
  exact ⟨v, a, t, b, ws, ss, d, hvs, hv, hb.mono hn, h, hw, ht, hs, q⟩
end
end Cc
namespace Cc
open PySem PySem.Spec PyProof.Rows L2
/-! ### the boxes of a cut, and of rows: mathematics -/
theorem divInt_01 {a c : Int} (h0 : 0 ≤ a) (h1 : a ≤ c) (hc : 0 < c) : 0 ≤ Rat.divInt a c ∧ Rat.divInt a c ≤ 1 := by
  have e : Rat.divInt a c * (c : Rat) = (a : Rat) := by
    rw [Rat.divInt_eq_div, Rat.div_def, Rat.mul_assoc, Rat.inv_mul_cancel _ (by have := int_pos hc; grind), Rat.mul_one]
  have c0 := int_pos hc
  have a0 : (0 : Rat) ≤ (a : Rat) := Rat.intCast_nonneg.mpr h0
  have a1 : (a : Rat) ≤ (c : Rat) := Rat.intCast_le_intCast.mpr h1
  constructor
  · by_cases z : 0 ≤ Rat.divInt a c
    · exact z
    · have := Rat.mul_lt_mul_of_pos_right (show Rat.divInt a c < 0 by grind) c0
      grind
  · by_cases z : Rat.divInt a c ≤ 1
    · exact z
    · have := Rat.mul_lt_mul_of_pos_right (show 1 < Rat.divInt a c by grind) c0
      grind
theorem pre_01 {ws : List Int} (h : WGk ws) (i : Nat) : 0 ≤ pre ws i ∧ pre ws i ≤ 1 := by
  have h1 := sum_nn (ws := ws.drop i) fun x hx => h.w x (List.mem_of_mem_drop hx)
  have h3 : ws.sum = (ws.take i).sum + (ws.drop i).sum := by rw [← List.sum_append, List.take_append_drop]
  exact divInt_01 (h.take i).1 (by omega) h.sum.1
theorem pre_lenG {ws : List Int} (h : WGk ws) : pre ws ws.length = 1 := by
  unfold pre
  rw [List.take_length, Rat.divInt_self' (by have := h.sum; omega)]
theorem lies_iff {b : Bx} {x y : Rat} : lies b x y = true ↔ (¬ x < b.l ∧ x < b.l + b.w) ∧ (¬ y < b.t ∧ y < b.t + b.h) := by
  unfold lies
  simp only [Bool.and_eq_true, Bool.not_eq_true', decide_eq_true_eq, decide_eq_false_iff_not]
/-- what lies in a box of a cut lies in the box -/
theorem lies_sub {b : Bx} {ws : List Int} {d : Bool} {i n : Nat} {x y : Rat} (hb : b.Ok n) (h : WGk ws) (hi : i < ws.length) (hl : lies (cutAt b ws d i) x y = true) : lies b x y = true := by
  have p0 := (pre_01 h i).1
  have p1 := (pre_01 h (i + 1)).2
  rw [pre_succ hi] at p1
  rw [lies_iff] at hl ⊢
  rw [cutAt_eq] at hl
  unfold slab at hl
  cases d with
  | true =>
    rw [if_pos rfl] at hl
    have m0 := Rat.mul_nonneg (Rat.le_of_lt hb.h0) p0
    have m1 := Rat.mul_nonneg (Rat.le_of_lt hb.h0) (show 0 ≤ 1 - (pre ws i + shr ws i) by grind)
    obtain ⟨h1, h2, h3⟩ := hl
    refine ⟨h1, ?_, ?_⟩
    · have : b.t + b.h * pre ws i ≤ y := by
        have := h2
        grind
      grind
    · have h4 : y < b.t + b.h * pre ws i + b.h * shr ws i := h3
      grind
  | false =>
    rw [if_neg Bool.false_ne_true] at hl
    have m0 := Rat.mul_nonneg (Rat.le_of_lt hb.w0) p0
    have m1 := Rat.mul_nonneg (Rat.le_of_lt hb.w0) (show 0 ≤ 1 - (pre ws i + shr ws i) by grind)
    obtain ⟨⟨h2, h3⟩, h1⟩ := hl
    refine ⟨⟨?_, ?_⟩, h1⟩
    · have : b.l + b.w * pre ws i ≤ x := by
        have := h2
        grind
      grind
    · have h4 : x < b.l + b.w * pre ws i + b.w * shr ws i := h3
      grind
def edgeG (b : Bx) (ws : List Int) (d : Bool) (i : Nat) : Rat := if d then b.t + b.h * pre ws i else b.l + b.w * pre ws i
theorem edgeG_succ {b : Bx} {ws : List Int} (d : Bool) {i : Nat} (hi : i < ws.length) : edgeG b ws d (i + 1) = edgeG b ws d i + (if d then b.h else b.w) * shr ws i := by
  unfold edgeG
  rw [pre_succ hi]
  cases d with
  | true =>
    rw [if_pos rfl, if_pos rfl, if_pos rfl]
    grind
  | false =>
    rw [if_neg Bool.false_ne_true, if_neg Bool.false_ne_true, if_neg Bool.false_ne_true]
    grind
theorem edgeG_mono {b : Bx} {ws : List Int} {n : Nat} (hb : b.Ok n) (h : WGk ws) (d : Bool) {i : Nat} (hi : i < ws.length) : edgeG b ws d i ≤ edgeG b ws d (i + 1) := by
  rw [edgeG_succ d hi]
  have e1 := h.shr hi
  cases d with
  | true =>
    rw [if_pos rfl]
    have := Rat.mul_pos hb.h0 e1
    grind
  | false =>
    rw [if_neg Bool.false_ne_true]
    have := Rat.mul_pos hb.w0 e1
    grind
theorem lies_cutG {b : Bx} {ws : List Int} (d : Bool) {i : Nat} (hi : i < ws.length) {x y : Rat} (hl : lies b x y = true) :
    lies (cutAt b ws d i) x y = inStretch (edgeG b ws d) (if d then y else x) i := by
  have e := edgeG_succ (b := b) d hi
  obtain ⟨⟨x0, x1⟩, y0, y1⟩ := lies_iff.mp hl
  rw [cutAt_eq]
  unfold lies inStretch
  rw [e]
  unfold edgeG slab
  cases d with
  | true =>
    rw [if_pos rfl, if_pos rfl, if_pos rfl, if_pos rfl]
    rw [decide_eq_false x0, decide_eq_true x1]
    rfl
  | false =>
    rw [if_neg Bool.false_ne_true, if_neg Bool.false_ne_true, if_neg Bool.false_ne_true, if_neg Bool.false_ne_true]
    rw [decide_eq_false y0, decide_eq_true y1]
    simp
theorem count_liesG {b : Bx} {ws : List Int} {n : Nat} (hb : b.Ok n) (h : WGk ws) (d : Bool) {x y : Rat} (hl : lies b x y = true) :
    ((List.range ws.length).map fun i => lies (cutAt b ws d i) x y).count true = 1 := by
  have e : ((List.range ws.length).map fun i => lies (cutAt b ws d i) x y) = (List.range ws.length).map (inStretch (edgeG b ws d) (if d then y else x)) :=
    List.map_congr_left fun i hi => lies_cutG d (List.mem_range.mp hi) hl
  obtain ⟨⟨x0, x1⟩, y0, y1⟩ := lies_iff.mp hl
  rw [e]
  refine count_one _ _ _ (fun i hi => edgeG_mono hb h d hi) ?_ ?_
  · unfold edgeG
    rw [pre_zero]
    cases d with
    | true => rw [if_pos rfl, if_pos rfl]; grind
    | false => rw [if_neg Bool.false_ne_true, if_neg Bool.false_ne_true]; grind
  · unfold edgeG
    rw [pre_lenG h]
    cases d with
    | true => rw [if_pos rfl, if_pos rfl]; grind
    | false => rw [if_neg Bool.false_ne_true, if_neg Bool.false_ne_true]; grind
theorem count_zero {α : Type} {f : α → Bool} : ∀ {xs : List α}, (∀ x ∈ xs, f x = false) → (xs.map f).count true = 0
  | [], _ => rfl
  | x :: r, h => by
    rw [List.map_cons, List.count_cons, h x List.mem_cons_self, count_zero fun y hy => h y (List.mem_cons_of_mem _ hy)]
    rfl
section
variable {b : Bx} {ws ss : List Int} {d : Bool} {n : Nat}
theorem count_laidTo (hb : b.Ok n) (hW : WOk ws) (hS : SOk ss ws.length) (x y : Rat) : ∀ j, j ≤ ss.length → ((laidTo b ws ss d j).map fun c => lies c x y).count true = ((List.range j).map fun i => lies (cutAt b (sumsM ws ss) d i) x y).count true
  | 0, _ => rfl
  | j + 1, hj => by
    have hG := sums_ok hW hS
    have hjl : j < (sumsM ws ss).length := by rw [sums_len]; omega
    have hc := slab_okG (d := d) hb hG hjl
    have hr := (row_ok hW hS (i := j) (by omega)).g
    rw [laidTo_succ, List.map_append, List.count_append, count_laidTo hb hW hS x y j (by omega), List.range_succ, List.map_append, List.count_append]
    congr 1
    rw [List.map_cons, List.map_nil]
    unfold laidAt cutM
    rw [List.map_map]
    by_cases hl : lies (cutAt b (sumsM ws ss) d j) x y = true
    · rw [hl]
      exact count_liesG hc hr (!d) hl
    · have e : lies (cutAt b (sumsM ws ss) d j) x y = false := by
        cases z : lies (cutAt b (sumsM ws ss) d j) x y with
        | true => exact absurd z hl
        | false => rfl
      rw [e]
      refine count_zero fun k hk => ?_
      show lies (cutAt (cutAt b (sumsM ws ss) d j) (rowAt ws ss j) (!d) k) x y = false
      cases z : lies (cutAt (cutAt b (sumsM ws ss) d j) (rowAt ws ss j) (!d) k) x y with
      | true => exact absurd (lies_sub hc hr (List.mem_range.mp hk) z) hl
      | false => rfl
/-- each point of the box lies in just one of the laid boxes -/
theorem count_laid (hb : b.Ok n) (hW : WOk ws) (hS : SOk ss ws.length) {x y : Rat} (hl : lies b x y = true) : ((laidM b ws ss d).map fun c => lies c x y).count true = 1 := by
  have e := count_liesG hb (sums_ok hW hS) d hl
  rw [sums_len] at e
  rw [← e]
  exact count_laidTo hb hW hS x y _ (Nat.le_refl _)
theorem laid_mem {c : Bx} (hS : SOk ss ws.length) (h : c ∈ laidM b ws ss d) : ∃ j k, j < ss.length ∧ k < (rowAt ws ss j).length ∧ c = cutAt (cutAt b (sumsM ws ss) d j) (rowAt ws ss j) (!d) k := by
  unfold laidM laidTo at h
  obtain ⟨l, hl, hc⟩ := List.mem_flatten.mp h
  obtain ⟨j, hj, rfl⟩ := List.mem_map.mp hl
  unfold laidAt cutM at hc
  obtain ⟨k, hk, rfl⟩ := List.mem_map.mp hc
  exact ⟨j, k, List.mem_range.mp hj, List.mem_range.mp hk, rfl⟩
theorem laid_ok {c : Bx} (hb : b.Ok n) (hW : WOk ws) (hS : SOk ss ws.length) (h : c ∈ laidM b ws ss d) : c.Ok (4 * n + 72) := by
  obtain ⟨j, k, hj, hk, rfl⟩ := laid_mem hS h
  exact (slab_okG (slab_okG hb (sums_ok hW hS) (by rw [sums_len]; exact hj)) (row_ok hW hS hj).g hk).mono (by omega)
theorem laid_in {c : Bx} (hb : b.Ok n) (hW : WOk ws) (hS : SOk ss ws.length) (h : c ∈ laidM b ws ss d) : lies b c.l c.t = true := by
  have ho := laid_ok hb hW hS h
  obtain ⟨j, k, hj, hk, rfl⟩ := laid_mem hS h
  have hG := sums_ok hW hS
  have hjl : j < (sumsM ws ss).length := by rw [sums_len]; omega
  refine lies_sub (d := d) hb hG hjl (lies_sub (d := !d) (slab_okG (d := d) hb hG hjl) (row_ok hW hS hj).g hk (lies_iff.mpr ?_))
  have h0 := ho.w0
  have h1 := ho.h0
  exact ⟨⟨by grind, by grind⟩, by grind, by grind⟩
theorem cut_area (b : Bx) (ws : List Int) (d : Bool) (i : Nat) : (cutAt b ws d i).w * (cutAt b ws d i).h = b.w * b.h * shr ws i := by
  rw [cutAt_eq]
  unfold slab
  cases d with
  | true =>
    rw [if_pos rfl]
    show b.w * (b.h * shr ws i) = b.w * b.h * shr ws i
    grind
  | false =>
    rw [if_neg Bool.false_ne_true]
    show (b.w * shr ws i) * b.h = b.w * b.h * shr ws i
    grind
theorem row_getD (hS : SOk ss ws.length) {j k : Nat} (hj : j < ss.length) (hk : k < (rowAt ws ss j).length) : (rowAt ws ss j).getD k 0 = ws.getD (off ss j + k) 0 := by
  rw [row_len hS hj] at hk
  unfold rowAt
  generalize ss.getD j 0 = z at *
  rw [List.getD_eq_getElem?_getD, List.getD_eq_getElem?_getD, List.getElem?_take_of_lt hk, List.getElem?_drop]
theorem dv_chain {R T w : Int} (hR : R ≠ 0) : Rat.divInt R T * Rat.divInt w R = Rat.divInt w T := by
  rw [Rat.divInt_eq_div, Rat.divInt_eq_div, Rat.divInt_eq_div, Rat.div_def, Rat.div_def, Rat.div_def]
  have e := Rat.mul_inv_cancel (R : Rat) (fun z => hR (Rat.intCast_eq_zero_iff.mp z))
  grind
theorem shr_row (hW : WOk ws) (hS : SOk ss ws.length) {j k : Nat} (hj : j < ss.length) (hk : k < (rowAt ws ss j).length) : shr (sumsM ws ss) j * shr (rowAt ws ss j) k = shr ws (off ss j + k) := by
  unfold shr
  rw [sums_getD hj, sums_sum hS, row_getD hS hj hk]
  exact dv_chain (by have := (row_ok hW hS hj).sum; omega)
theorem laid_areas (hW : WOk ws) (hS : SOk ss ws.length) : ∀ j, j ≤ ss.length → (laidTo b ws ss d j).map (fun c => c.w * c.h) = (List.range (off ss j)).map fun i => b.w * b.h * shr ws i
  | 0, _ => by simp [laidTo, off]
  | j + 1, hj => by
    rw [laidTo_succ, List.map_append, laid_areas hW hS j (by omega), hS.off_succ (by omega), List.range_add, List.map_append]
    congr 1
    unfold laidAt cutM
    rw [List.map_map, List.map_map, row_len hS (by omega)]
    refine List.map_congr_left fun k hk => ?_
    have hk2 : k < (rowAt ws ss j).length := by
      rw [row_len hS (by omega)]
      exact List.mem_range.mp hk
    show (cutAt (cutAt b (sumsM ws ss) d j) (rowAt ws ss j) (!d) k).w * (cutAt (cutAt b (sumsM ws ss) d j) (rowAt ws ss j) (!d) k).h = b.w * b.h * shr ws (off ss j + k)
    rw [cut_area, cut_area, ← shr_row hW hS (by omega) hk2]
    grind
theorem laid_area {i : Nat} {c : Bx} (hW : WOk ws) (hS : SOk ss ws.length) (h : (laidM b ws ss d)[i]? = some c) : i < ws.length ∧ c.w * c.h = b.w * b.h * shr ws i := by
  have e := laid_areas (b := b) (d := d) hW hS ss.length (Nat.le_refl _)
  have hi := (List.getElem?_eq_some_iff.mp h).1
  rw [laidM_len b d hS] at hi
  rw [hS.off_len] at e
  have e2 := congrArg (fun l => l[i]?) e
  simp only [List.getElem?_map, List.getElem?_range hi] at e2
  have h' : (laidTo b ws ss d ss.length)[i]? = some c := h
  rw [h'] at e2
  exact ⟨hi, Option.some.inj e2⟩
theorem shr_timesG (h : WGk ws) (i : Nat) : shr ws i * ((ws.sum : Int) : Rat) = ((ws.getD i 0 : Int) : Rat) := by
  unfold shr
  rw [Rat.divInt_eq_div, Rat.div_def, Rat.mul_assoc, Rat.inv_mul_cancel _ (by have := int_pos h.sum.1; grind), Rat.mul_one]
theorem sz_shr (h : WOk ws) {i : Nat} (hi : i < ws.length) : Sz 23 (shr ws i) := sz_share (by have := getD_ok h hi; omega) h.sum
theorem sz_pre (h : WOk ws) (i : Nat) : Sz 23 (pre ws i) := sz_share (h.take i) h.sum
end
theorem point_inM {l w : Rat} {r m : Int} (hw : 0 < w) (h0 : 0 ≤ r) (h1 : r < m) : ¬ l + w * Rat.divInt r m < l ∧ l + w * Rat.divInt r m < l + w := by
  have m0 := int_pos (show (0 : Int) < m by omega)
  have e : Rat.divInt r m * (m : Rat) = (r : Rat) := by
    rw [Rat.divInt_eq_div, Rat.div_def, Rat.mul_assoc, Rat.inv_mul_cancel _ (by grind), Rat.mul_one]
  have r1 : (r : Rat) < ((m : Int) : Rat) := Rat.intCast_lt_intCast.mpr h1
  have s0 := (divInt_01 h0 (Int.le_of_lt h1) (by omega)).1
  have s1 : Rat.divInt r m < 1 := by
    by_cases z : Rat.divInt r m < 1
    · exact z
    · have z2 : Rat.divInt r m = 1 := by
        have := (divInt_01 h0 (Int.le_of_lt h1) (by omega)).2
        grind
      rw [z2] at e
      grind
  have n0 := Rat.mul_nonneg (Rat.le_of_lt hw) s0
  have n1 := Rat.mul_lt_mul_of_pos_left s1 hw
  rw [Rat.mul_one] at n1
  constructor <;> grind
/-! ### a list of parts, added up -/
@[irreducible] def spTotal (K : PySem.W.Frag) : Sp := fun vs H Q _ => ∃ (L : Addr) (us : List V) (qs : List Rat) (f : Nat → Rat), vs = [.ref L] ∧ SqL K H L us ∧ Al (PtV K H) us qs ∧ f 0 = 0 ∧ (∀ i q, qs[i]? = some q → f (i + 1) = f i + q ∧ Sz 3000 q) ∧ (∀ i, i ≤ qs.length → Sz 3000 (f i)) ∧ ∀ u H', Same H H' → PtV K H' u (f qs.length) → Q u H'
theorem total_step {K : PySem.W.Frag} {H : Hp} {Q : VK} {E : XK} {vs : List V} {L : Addr} {us : List V} {qs : List Rat} (f : Nat → Rat) (hL : SqL K H L us) (hA : Al (PtV K H) us qs) (f0 : f 0 = 0) (fs : ∀ i q, qs[i]? = some q → f (i + 1) = f i + q ∧ Sz 3000 q) (fz : ∀ i, i ≤ qs.length → Sz 3000 (f i)) (q : ∀ u H', Same H H' → PtV K H' u (f qs.length) → Q u H') (hvs : vs = [.ref L] := by rfl) : spTotal K vs H Q E := by
  unfold spTotal
  exact ⟨L, us, qs, f, hvs, hL, hA, f0, fs, fz, q⟩
end Cc
namespace Cc
open PySem PySem.Spec PyProof.Rows L2
/-! ### the greatest of parts -/
def mostL (qs : List Rat) : Rat := qs.foldl gr (qs.headD 0)
theorem gr_self (x : Rat) : gr x x = x := by
  unfold gr
  split <;> rfl
theorem gr_ge (x y : Rat) : x ≤ gr x y ∧ y ≤ gr x y := by
  unfold gr
  split <;> constructor <;> grind
theorem gr_or (x y : Rat) : gr x y = x ∨ gr x y = y := by
  unfold gr
  split
  · exact .inr rfl
  · exact .inl rfl
theorem foldl_gr_mem : ∀ (l : List Rat) (x : Rat), l.foldl gr x = x ∨ l.foldl gr x ∈ l
  | [], _ => .inl rfl
  | y :: r, x => by
    rw [List.foldl_cons]
    rcases foldl_gr_mem r (gr x y) with h | h
    · rcases gr_or x y with e | e
      · exact .inl (h.trans e)
      · rw [h, e]
        exact .inr List.mem_cons_self
    · exact .inr (List.mem_cons_of_mem _ h)
theorem foldl_gr_ge : ∀ (l : List Rat) (x : Rat), x ≤ l.foldl gr x ∧ ∀ q ∈ l, q ≤ l.foldl gr x
  | [], x => ⟨by rw [List.foldl_nil]; exact Rat.le_refl, fun q hq => by cases hq⟩
  | y :: r, x => by
    have ih := foldl_gr_ge r (gr x y)
    have g := gr_ge x y
    rw [List.foldl_cons]
    refine ⟨Rat.le_trans g.1 ih.1, fun q hq => ?_⟩
    rcases List.mem_cons.mp hq with rfl | hq
    · exact Rat.le_trans g.2 ih.1
    · exact ih.2 q hq
theorem mostL_mem {qs : List Rat} (h : qs ≠ []) : mostL qs ∈ qs := by
  cases qs with
  | nil => exact absurd rfl h
  | cons x r =>
    unfold mostL
    rw [List.headD_cons]
    rcases foldl_gr_mem (x :: r) x with e | e
    · rw [e]
      exact List.mem_cons_self
    · exact e
theorem mostL_ge {qs : List Rat} {q : Rat} (h : q ∈ qs) : q ≤ mostL qs := (foldl_gr_ge qs _).2 q h
theorem mostL_eq {qs : List Rat} {m : Rat} (h : m ∈ qs) (h2 : ∀ q ∈ qs, q ≤ m) : mostL qs = m :=
  Rat.le_antisymm (h2 _ (mostL_mem (List.ne_nil_of_mem h))) (mostL_ge h)
theorem mostL_flat {ls : List (List Rat)} (h : ∀ l ∈ ls, l ≠ []) (h0 : ls ≠ []) : mostL ls.flatten = mostL (ls.map mostL) := by
  have hm : mostL (ls.map mostL) ∈ ls.map mostL := mostL_mem (by simpa using h0)
  obtain ⟨l, hl, e⟩ := List.mem_map.mp hm
  refine mostL_eq ?_ fun q hq => ?_
  · rw [← e]
    exact List.mem_flatten.mpr ⟨l, hl, mostL_mem (h l hl)⟩
  · obtain ⟨l2, hl2, hq⟩ := List.mem_flatten.mp hq
    exact Rat.le_trans (mostL_ge hq) (mostL_ge (List.mem_map.mpr ⟨l2, hl2, rfl⟩))
theorem most_take {qs : List Rat} {i : Nat} {q x : Rat} (h : qs[i]? = some q) : (qs.take (i + 1)).foldl gr x = gr ((qs.take i).foldl gr x) q := by
  rw [List.take_add_one, h, List.foldl_append]
  rfl
theorem most_take_mem {qs : List Rat} {i : Nat} (h : qs ≠ []) : (qs.take i).foldl gr (qs.headD 0) ∈ qs := by
  rcases foldl_gr_mem (qs.take i) (qs.headD 0) with e | e
  · rw [e]
    cases qs with
    | nil => exact absurd rfl h
    | cons x r => exact List.mem_cons_self
  · exact List.mem_of_mem_take e
/-! ### shapes of rows -/
def shpX (g : Rat) (x : Int) : Rat := gr (g * (x : Rat)) (1 / (g * (x : Rat)))
def rowM (ws : List Int) (first size : Nat) : List Int := (ws.drop first).take size
def gform (b : Bx) (T : Int) (row : List Int) (d : Bool) : Rat := (if d then b.w / b.h else b.h / b.w) * Rat.divInt T (row.sum * row.sum)
def rowShape (b : Bx) (ws : List Int) (first size : Nat) (d : Bool) : Rat := mostL ((rowM ws first size).map (shpX (gform b ws.sum (rowM ws first size) d)))
def shapesM (b : Bx) (ws ss : List Int) (d : Bool) : List Rat := (List.range ss.length).map fun j => rowShape b ws (off ss j) (ss.getD j 0).toNat d
def worstM (b : Bx) (ws ss : List Int) (d : Bool) : Rat := mostL (shapesM b ws ss d)
theorem div_of {A B C : Rat} (h : A = C * B) (hB : B ≠ 0) : A / B = C := by
  rw [h, Rat.div_def, Rat.mul_assoc, Rat.mul_inv_cancel B hB, Rat.mul_one]
theorem inv_le {a b : Rat} (ha : 0 < a) (h : a ≤ b) : 1 / b ≤ 1 / a := by
  have hb : 0 < b := by grind
  have e1 : 1 / a * a = 1 := by rw [Rat.div_def, Rat.one_mul, Rat.inv_mul_cancel a (by grind)]
  have e2 : 1 / b * b = 1 := by rw [Rat.div_def, Rat.one_mul, Rat.inv_mul_cancel b (by grind)]
  have p0 : 0 < 1 / a := by
    rw [Rat.div_def, Rat.one_mul]
    exact Rat.inv_pos.mpr ha
  by_cases z : 1 / b ≤ 1 / a
  · exact z
  · have z' : 1 / a < 1 / b := by grind
    have h1 := Rat.mul_lt_mul_of_pos_right z' hb
    have h2 := Rat.mul_le_mul_of_nonneg_left h (Rat.le_of_lt p0)
    grind
theorem gform_pos {b : Bx} {T : Int} {row : List Int} {n : Nat} (hb : b.Ok n) (hT : 0 < T) (hR : 0 < row.sum) (d : Bool) : 0 < gform b T row d := by
  unfold gform
  have h1 : 0 < Rat.divInt T (row.sum * row.sum) := divInt_pos hT (Int.mul_pos hR hR)
  cases d with
  | true =>
    rw [if_pos rfl, Rat.div_def]
    exact Rat.mul_pos (Rat.mul_pos hb.w0 (Rat.inv_pos.mpr hb.h0)) h1
  | false =>
    rw [if_neg Bool.false_ne_true, Rat.div_def]
    exact Rat.mul_pos (Rat.mul_pos hb.h0 (Rat.inv_pos.mpr hb.w0)) h1
theorem shp_form {w h s S D R T x : Rat} (hw : 0 < w) (hh : 0 < h) (hS : 0 < S) (hs : 0 < s) (hR : 0 < R) (e1 : s * R = x) (e2 : S * T = R) (e3 : D * (R * R) = T) :
    (w * s) / (h * S) = w / h * D * x ∧ (h * S) / (w * s) = 1 / (w / h * D * x) := by
  have k : D * R * S = 1 := by
    have h1 : (D * R * S) * R = R := by grind
    have h2 := congrArg (fun z => z * R⁻¹) h1
    simp only [Rat.mul_assoc, Rat.mul_inv_cancel R (by grind : R ≠ 0), Rat.mul_one] at h2
    grind
  have hwh : w / h * h = w := by rw [Rat.div_def, Rat.mul_assoc, Rat.inv_mul_cancel h (by grind), Rat.mul_one]
  have hA : w * s = (w / h * D * x) * (h * S) := by
    have : (w / h * D * x) * (h * S) = (w / h * h) * (s * (D * R * S)) := by rw [← e1]; grind
    rw [this, k, hwh, Rat.mul_one]
  have p1 : 0 < h * S := Rat.mul_pos hh hS
  have p2 : 0 < w * s := Rat.mul_pos hw hs
  refine ⟨div_of hA (by grind), div_of ?_ (by grind)⟩
  generalize w / h * D * x = C at *
  have hC : C ≠ 0 := fun z => by
    rw [z, Rat.zero_mul] at hA
    grind
  rw [hA, ← Rat.mul_assoc, Rat.div_def, Rat.one_mul, Rat.inv_mul_cancel C hC, Rat.one_mul]
section
variable {b : Bx} {ws ss : List Int} {n : Nat}
theorem shp_laid (hb : b.Ok n) (hW : WOk ws) (hS : SOk ss ws.length) (d : Bool) {j k : Nat} (hj : j < ss.length) (hk : k < (rowAt ws ss j).length) :
    shp (cutAt (cutAt b (sumsM ws ss) d j) (rowAt ws ss j) (!d) k) = shpX (gform b ws.sum (rowAt ws ss j) d) ((rowAt ws ss j).getD k 0) := by
  have hR := (row_ok hW hS hj)
  have hG := sums_ok hW hS
  have r0 := int_pos hR.sum.1
  have e1 := shr_times hR k
  have e2 : shr (sumsM ws ss) j * ((ws.sum : Int) : Rat) = (((rowAt ws ss j).sum : Int) : Rat) := by
    rw [← sums_sum hS, shr_timesG hG, sums_getD hj]
  have e3 : Rat.divInt ws.sum ((rowAt ws ss j).sum * (rowAt ws ss j).sum) * ((((rowAt ws ss j).sum : Int) : Rat) * (((rowAt ws ss j).sum : Int) : Rat)) = ((ws.sum : Int) : Rat) := by
    rw [Rat.divInt_eq_div, Rat.div_def, Rat.mul_assoc, Rat.intCast_mul, Rat.inv_mul_cancel _ (by have := Rat.mul_pos r0 r0; grind), Rat.mul_one]
  have s0 := hG.shr (i := j) (by rw [sums_len]; exact hj)
  have s1 := hR.g.shr hk
  rw [cutAt_eq, cutAt_eq]
  unfold shp shpX gform slab
  cases d with
  | true =>
    simp only [Bool.not_true, if_true, if_false, Bool.false_eq_true]
    obtain ⟨f1, f2⟩ := shp_form hb.w0 hb.h0 s0 s1 r0 e1 e2 e3
    rw [f1, f2]
  | false =>
    simp only [Bool.not_false, if_true, if_false, Bool.false_eq_true]
    obtain ⟨f1, f2⟩ := shp_form hb.h0 hb.w0 s0 s1 r0 e1 e2 e3
    rw [f1, f2, gr_comm]
theorem map_getD {α : Type} (f : Int → α) : ∀ (row : List Int), (List.range row.length).map (fun k => f (row.getD k 0)) = row.map f
  | [] => rfl
  | x :: r => by
    rw [List.length_cons, List.range_succ_eq_map, List.map_cons, List.map_map, List.map_cons, ← map_getD f r]
    rfl
theorem shp_row (hb : b.Ok n) (hW : WOk ws) (hS : SOk ss ws.length) (d : Bool) {j : Nat} (hj : j < ss.length) : (laidAt b ws ss d j).map shp = (rowAt ws ss j).map (shpX (gform b ws.sum (rowAt ws ss j) d)) := by
  rw [← map_getD]
  unfold laidAt cutM
  rw [List.map_map]
  exact List.map_congr_left fun k hk => shp_laid hb hW hS d hj (List.mem_range.mp hk)
theorem most_laid (hb : b.Ok n) (hW : WOk ws) (hS : SOk ss ws.length) (d : Bool) : mostL ((laidM b ws ss d).map shp) = worstM b ws ss d := by
  unfold worstM shapesM laidM laidTo
  rw [List.map_flatten, List.map_map]
  rw [mostL_flat, List.map_map]
  · congr 1
    refine List.map_congr_left fun j hj => ?_
    show mostL ((laidAt b ws ss d j).map shp) = _
    rw [shp_row hb hW hS d (List.mem_range.mp hj)]
    rfl
  · intro l hl
    obtain ⟨j, hj, rfl⟩ := List.mem_map.mp hl
    have h := (row_ok hW hS (List.mem_range.mp hj)).l0
    intro z
    have z2 : ((laidAt b ws ss d j).map shp).length = 0 := congrArg List.length (show (laidAt b ws ss d j).map shp = [] from z)
    rw [List.length_map] at z2
    unfold laidAt at z2
    rw [cutM_len] at z2
    omega
  · have h := hS.ne hW.l0
    intro z
    have z2 := congrArg List.length z
    rw [List.length_map, List.length_range, List.length_nil] at z2
    omega
/-- the greatest shape of a row by its greatest and its least weight -/
theorem most_ends {row : List Int} {g : Rat} {M m : Int} (hg : 0 < g) (h1 : ∀ x ∈ row, 1 ≤ x) (hM : M ∈ row) (hM2 : ∀ x ∈ row, x ≤ M) (hm : m ∈ row) (hm2 : ∀ x ∈ row, m ≤ x) :
    mostL (row.map (shpX g)) = gr (g * (M : Rat)) (1 / (g * (m : Rat))) := by
  have cast : ∀ {x y : Int}, x ≤ y → g * (x : Rat) ≤ g * (y : Rat) := fun h => Rat.mul_le_mul_of_nonneg_left (Rat.intCast_le_intCast.mpr h) (Rat.le_of_lt hg)
  have pos : ∀ {x : Int}, x ∈ row → 0 < g * (x : Rat) := fun h => Rat.mul_pos hg (int_pos (by have := h1 _ h; omega))
  have i1 := inv_le (pos hm) (cast (hm2 M hM))
  have c1 := cast (hm2 M hM)
  refine mostL_eq ?_ fun q hq => ?_
  · rw [List.mem_map]
    by_cases e : g * (M : Rat) < 1 / (g * (m : Rat))
    · refine ⟨m, hm, ?_⟩
      unfold shpX gr
      rw [if_pos e, if_pos (by grind)]
    · refine ⟨M, hM, ?_⟩
      unfold shpX gr
      rw [if_neg e, if_neg (by grind)]
  · obtain ⟨x, hx, rfl⟩ := List.mem_map.mp hq
    have i2 := inv_le (pos hm) (cast (hm2 x hx))
    have c2 := cast (hM2 x hx)
    have g1 := gr_ge (g * (M : Rat)) (1 / (g * (m : Rat)))
    unfold shpX
    rcases gr_or (g * (x : Rat)) (1 / (g * (x : Rat))) with e | e
    · rw [e]
      grind
    · rw [e]
      grind
theorem laidTo_take (hS : SOk ss ws.length) (d : Bool) : ∀ m i, i ≤ m → m ≤ ss.length → (laidTo b ws ss d m).take (off ss i) = laidTo b ws ss d i
  | 0, i, hi, _ => by
    have : i = 0 := by omega
    subst this
    simp [laidTo]
  | m + 1, i, hi, hm => by
    by_cases e : i = m + 1
    · subst e
      exact List.take_of_length_le (by rw [laidTo_len b d hS _ hm]; exact Nat.le_refl _)
    · have h1 := laidTo_take hS d m i (by omega) (by omega)
      have h2 := laidTo_len b d hS m (by omega)
      have h3 : off ss i ≤ off ss m := by
        have := congrArg List.length h1
        rw [List.length_take, laidTo_len b d hS i (by omega), h2] at this
        omega
      rw [laidTo_succ, List.take_append_of_le_length (by rw [h2]; exact h3), h1]
theorem laid_slice (hS : SOk ss ws.length) (d : Bool) {j : Nat} (hj : j < ss.length) : ((laidM b ws ss d).drop (off ss j)).take (ss.getD j 0).toNat = laidAt b ws ss d j := by
  have h1 := laidTo_take (b := b) hS d ss.length (j + 1) hj (Nat.le_refl _)
  rw [hS.off_succ hj, laidTo_succ] at h1
  have h2 := congrArg (List.drop (off ss j)) h1
  rw [List.drop_take, Nat.add_sub_cancel_left, ← laidTo_len b d hS j (by omega), List.drop_left] at h2
  rw [← laidTo_len b d hS j (by omega)]
  exact h2
end
/-! ### sizes of shapes -/
theorem sz_gform {b : Bx} {T : Int} {row : List Int} {n : Nat} (hb : b.Ok n) (hT : 0 ≤ T ∧ T ≤ 4800000) (hR : 0 < row.sum ∧ row.sum ≤ 4800000) (d : Bool) : Sz (n + n + 46) (gform b T row d) := by
  unfold gform
  have h0 := Int.mul_pos hR.1 hR.1
  have h1 : row.sum * row.sum ≤ 4800000 * 4800000 := Int.mul_le_mul hR.2 hR.2 (by omega) (by omega)
  have z : Sz 46 (Rat.divInt T (row.sum * row.sum)) := size_divInt (by omega) (show T.natAbs < 2 ^ 46 by omega) (show (row.sum * row.sum).natAbs < 2 ^ 46 by omega)
  refine sz_mul (m := n + n) ?_ z (by omega)
  cases d with
  | true =>
    rw [if_pos rfl]
    exact sz_div hb.sw hb.sh (by have := hb.h0; grind) (Nat.le_refl _)
  | false =>
    rw [if_neg Bool.false_ne_true]
    exact sz_div hb.sh hb.sw (by have := hb.w0; grind) (Nat.le_refl _)
theorem sz_gr {n : Nat} {x y : Rat} (hx : Sz n x) (hy : Sz n y) : Sz n (gr x y) := by
  rcases gr_or x y with e | e <;> rw [e] <;> assumption
theorem sz_int {i : Int} (h : -4800000 ≤ i ∧ i ≤ 4800000) : Sz 23 (i : Rat) := ⟨sz23 h, Nat.one_lt_two_pow (by decide)⟩
end Cc
namespace Cc
open PySem PySem.Spec PyProof.Rows L2
/-! ### promises about shapes -/
def OneAt (K : PySem.W.Frag) (mg : Str → Option Value) : Prop := ∃ a, mg "ONE" = some (.ref a) ∧ ∀ H, PtV K H (.ref a) 1
theorem one_mk {K : PySem.W.Frag} {mg : Str → Option Value} {h : Heap} (X : K.In h) (G : h.Ns mainGlobals mg) {a : Addr} {dd : Option Addr} {n : Nat} {t u : Tok} {sl : Array (Option Value)}
    (e : PySem.W.nsIn K mainGlobals "ONE" = some (some (.ref a))) (l : K.lookup a = some ⟨.type "tuple", dd, .seq #[.int 1 t, .int 1 u] n, sl⟩) : OneAt K mg :=
  ⟨a, PySem.W.mg_of X G e, fun _ => ⟨a, rfl, .inr ⟨_, _, _, l, rfl, rfl, (show 2 ≤ sizeLine by decide), .cons ⟨t, rfl⟩ (.cons ⟨u, rfl⟩ .nil)⟩⟩⟩
theorem cut_rowM {ws : List Int} {first size : Nat} {lo hi : Int} (e1 : lo = first) (e2 : hi = (first : Int) + size) (h : first + size ≤ ws.length) : cutV (ws.map V.int) (some lo) (some hi) = (rowM ws first size).map V.int := by
  unfold cutV rowM
  rw [e2, e1, show (first : Int) + (size : Int) = ((first + size : Nat) : Int) by omega, List.length_map, HT.sIx_nat, HT.sIx_nat, Nat.min_eq_left (by omega), Nat.min_eq_left (by omega), Nat.add_sub_cancel_left, List.map_take, List.map_drop]
theorem rowM_ok {ws : List Int} {first size : Nat} (hW : WOk ws) (h0 : 1 ≤ size) (h : first + size ≤ ws.length) : WOk (rowM ws first size) := by
  have h1 := hW.l1
  unfold rowM
  refine ⟨by rw [List.length_take, List.length_drop]; omega, by rw [List.length_take, List.length_drop]; omega, fun x hx => hW.w x (List.mem_of_mem_drop (List.mem_of_mem_take hx))⟩
theorem sz_one : Sz 1 (1 : Rat) := ⟨by decide, by decide⟩
theorem rowShape_eq {b : Bx} {ws : List Int} {first size n : Nat} {d : Bool} {M m : Int} (hb : b.Ok n) (hW : WOk ws) (h0 : 1 ≤ size) (h : first + size ≤ ws.length) (hM : M ∈ rowM ws first size) (hM2 : ∀ x ∈ rowM ws first size, x ≤ M) (hm : m ∈ rowM ws first size) (hm2 : ∀ x ∈ rowM ws first size, m ≤ x) :
    rowShape b ws first size d = gr (gform b ws.sum (rowM ws first size) d * (M : Rat)) (1 / (gform b ws.sum (rowM ws first size) d * (m : Rat))) := by
  have hr := rowM_ok hW h0 h
  exact most_ends (gform_pos hb hW.sum.1 hr.sum.1 d) hr.g.w hM hM2 hm hm2
theorem sz_shpX {g : Rat} {x : Int} {n : Nat} (hg : Sz n g) (h0 : 0 < g) (hx : 1 ≤ x ∧ x ≤ 4800000) : Sz (n + 24) (shpX g x) := by
  have h1 := Rat.mul_pos h0 (int_pos (i := x) (by omega))
  have z : Sz (n + 23) (g * (x : Rat)) := sz_mul hg (sz_int (by omega)) (Nat.le_refl _)
  exact sz_gr (z.mono (by omega)) (sz_div sz_one z (by grind) (by omega))
theorem sz_rowShape {b : Bx} {ws : List Int} {first size n : Nat} (hb : b.Ok n) (hW : WOk ws) (h0 : 1 ≤ size) (h : first + size ≤ ws.length) (d : Bool) : Sz (n + n + 70) (rowShape b ws first size d) := by
  have hr := rowM_ok hW h0 h
  have hl := hr.l0
  have hm : rowShape b ws first size d ∈ (rowM ws first size).map (shpX (gform b ws.sum (rowM ws first size) d)) := mostL_mem (fun z => by
    have z2 := congrArg List.length z
    rw [List.length_map, List.length_nil] at z2
    omega)
  obtain ⟨x, hx, e⟩ := List.mem_map.mp hm
  rw [← e]
  have hs := hW.sum
  have hrs := hr.sum
  exact (sz_shpX (sz_gform hb (by omega) hrs d) (gform_pos hb hs.1 hrs.1 d) (hr.g.mem hx)).mono (by omega)
@[irreducible] def spGreat (K : PySem.W.Frag) : Sp := fun vs H Q _ => ∃ (L : Addr) (us : List V) (qs : List Rat), vs = [.ref L] ∧ SqL K H L us ∧ Al (PtV K H) us qs ∧ qs ≠ [] ∧ (∀ q ∈ qs, Sz 3900 q) ∧ ∀ u H', Same H H' → PtV K H' u (mostL qs) → Q u H'
@[irreducible] def spShapeB (K : PySem.W.Frag) : Sp := fun vs H Q _ => ∃ (v : V) (a : Addr) (b : Bx) (ws : List Int) (lo hi : Int) (first size : Nat) (d : Bool), vs = [v, .ref a, .int lo, .int hi, .str (sd d)] ∧ BxV K H v b ∧ b.Ok 450 ∧ IntsV K H a ws ∧ WOk ws ∧ lo = first ∧ hi = (first : Int) + size ∧ 1 ≤ size ∧ first + size ≤ ws.length ∧ ∀ u H', Same H H' → PtV K H' u (rowShape b ws first size d) → Q u H'
@[irreducible] def spRowShape (K : PySem.W.Frag) : Sp := fun vs H Q _ => ∃ (v : V) (a : Addr) (b : Bx) (ws : List Int) (lo hi : Int) (first size : Nat) (d : Bool), vs = [v, .ref a, .int lo, .int hi, .str (sd d)] ∧ BxV K H v b ∧ b.Ok 450 ∧ SqL K H a (ws.map V.int) ∧ WOk ws ∧ lo = first ∧ hi = size ∧ 1 ≤ size ∧ first + size ≤ ws.length ∧ ∀ u H', Same H H' → PtV K H' u (rowShape b ws first size d) → Q u H'
@[irreducible] def spWorst (K : PySem.W.Frag) : Sp := fun vs H Q _ => ∃ (v : V) (a t : Addr) (b : Bx) (ws ss : List Int) (d : Bool), vs = [v, .ref a, .ref t, .str (sd d)] ∧ BxV K H v b ∧ b.Ok 450 ∧ SqL K H a (ws.map V.int) ∧ WOk ws ∧ SqT K H t (ss.map V.int) ∧ SOk ss ws.length ∧ ∀ u H', Same H H' → PtV K H' u (worstM b ws ss d) → Q u H'
section
variable {K : PySem.W.Frag} {H H' : Hp} {a t : Addr} {ws ss : List Int} {Q : VK} {E : XK} {vs : List V} {b : Bx} {v : V} {d : Bool} {n : Nat}
theorem great_step {L : Addr} {us : List V} {qs : List Rat} (hL : SqL K H L us) (hA : Al (PtV K H) us qs) (h0 : qs ≠ []) (hz : ∀ q ∈ qs, Sz n q) (hn : n ≤ 3900) (q : ∀ u H', Same H H' → PtV K H' u (mostL qs) → Q u H') (hvs : vs = [.ref L] := by rfl) : spGreat K vs H Q E := by
  unfold spGreat
  exact ⟨L, us, qs, hvs, hL, hA, h0, fun q hq => (hz q hq).mono hn, q⟩
theorem shapebI_step {lo hi : Int} (first size : Nat) (hv : BxV K H v b) (hb : b.Ok n) (hn : n ≤ 450) (h : IntsV K H a ws) (hw : WOk ws) (e1 : lo = first) (e2 : hi = (first : Int) + size) (h0 : 1 ≤ size) (h1 : first + size ≤ ws.length) (q : ∀ u H', Same H H' → PtV K H' u (rowShape b ws first size d) → Q u H') (hvs : vs = [v, .ref a, .int lo, .int hi, .str (sd d)] := by rfl) : spShapeB K vs H Q E := by
  unfold spShapeB
  exact ⟨v, a, b, ws, lo, hi, first, size, d, hvs, hv, hb.mono hn, h, hw, e1, e2, h0, h1, q⟩
theorem shapeb_step {lo hi : Int} (first size : Nat) (hv : BxV K H v b) (hb : b.Ok n) (hn : n ≤ 450) (h : SqL K H a (ws.map V.int)) (hw : WOk ws) (e1 : lo = first) (e2 : hi = (first : Int) + size) (h0 : 1 ≤ size) (h1 : first + size ≤ ws.length) (q : ∀ u H', Same H H' → PtV K H' u (rowShape b ws first size d) → Q u H') (hvs : vs = [v, .ref a, .int lo, .int hi, .str (sd d)] := by rfl) : spShapeB K vs H Q E :=
  shapebI_step first size hv hb hn (.inl h) hw e1 e2 h0 h1 q hvs
theorem rowshape_step {lo hi : Int} (first size : Nat) (hv : BxV K H v b) (hb : b.Ok n) (hn : n ≤ 450) (h : SqL K H a (ws.map V.int)) (hw : WOk ws) (e1 : lo = first) (e2 : hi = size) (h0 : 1 ≤ size) (h1 : first + size ≤ ws.length) (q : ∀ u H', Same H H' → PtV K H' u (rowShape b ws first size d) → Q u H') (hvs : vs = [v, .ref a, .int lo, .int hi, .str (sd d)] := by rfl) : spRowShape K vs H Q E := by
  unfold spRowShape
  exact ⟨v, a, b, ws, lo, hi, first, size, d, hvs, hv, hb.mono hn, h, hw, e1, e2, h0, h1, q⟩
theorem worst_step (hv : BxV K H v b) (hb : b.Ok n) (hn : n ≤ 450) (h : SqL K H a (ws.map V.int)) (hw : WOk ws) (ht : SqT K H t (ss.map V.int)) (hs : SOk ss ws.length) (q : ∀ u H', Same H H' → PtV K H' u (worstM b ws ss d) → Q u H') (hvs : vs = [v, .ref a, .ref t, .str (sd d)] := by rfl) : spWorst K vs H Q E := by
  unfold spWorst
  exact ⟨v, a, t, b, ws, ss, d, hvs, hv, hb.mono hn, h, hw, ht, hs, q⟩
end
theorem Bxs.drop {K : PySem.W.Frag} {H : Hp} : ∀ (k : Nat) {vs : List V} {bs : List Bx}, Bxs K H vs bs → Bxs K H (vs.drop k) (bs.drop k)
  | 0, _, _, h => h
  | _ + 1, _, _, .nil => .nil
  | k + 1, _, _, .cons _ r => Bxs.drop k r
theorem Bxs.take {K : PySem.W.Frag} {H : Hp} : ∀ (k : Nat) {vs : List V} {bs : List Bx}, Bxs K H vs bs → Bxs K H (vs.take k) (bs.take k)
  | 0, _, _, _ => .nil
  | _ + 1, _, _, .nil => .nil
  | k + 1, _, _, .cons a r => .cons a (Bxs.take k r)
/-- the sizes that single a row out -/
def ss3 (first size n : Nat) : List Int := [(first : Int), (size : Int), (n : Int) - first - size].filter (fun x => decide (x > 0))
theorem ss3_eq {first size n : Nat} (h0 : 1 ≤ size) : ss3 first size n = (if (first : Int) > 0 then [(first : Int)] else []) ++ ((size : Int) :: (if (n : Int) - first - size > 0 then [(n : Int) - first - size] else [])) := by
  have hs : (size : Int) > 0 := by omega
  unfold ss3
  rw [List.filter_cons, List.filter_cons, List.filter_cons, List.filter_nil]
  by_cases a1 : (first : Int) > 0
  · rw [if_pos a1, if_pos (decide_eq_true a1), if_pos (decide_eq_true hs)]
    by_cases a3 : (n : Int) - first - size > 0
    · rw [if_pos a3, if_pos (decide_eq_true a3)]
      rfl
    · rw [if_neg a3, if_neg (fun z => a3 (of_decide_eq_true z))]
      rfl
  · rw [if_neg a1, if_neg (fun z => a1 (of_decide_eq_true z)), if_pos (decide_eq_true hs)]
    by_cases a3 : (n : Int) - first - size > 0
    · rw [if_pos a3, if_pos (decide_eq_true a3)]
      rfl
    · rw [if_neg a3, if_neg (fun z => a3 (of_decide_eq_true z))]
      rfl
theorem ss3_ok {first size n : Nat} (h0 : 1 ≤ size) (h : first + size ≤ n) : SOk (ss3 first size n) n ∧ ∃ j, j < (ss3 first size n).length ∧ off (ss3 first size n) j = first ∧ (ss3 first size n).getD j 0 = size := by
  refine ⟨⟨fun x hx => ?_, ?_⟩, ?_⟩
  · have := (List.mem_filter.mp hx).2
    have := of_decide_eq_true this
    omega
  · rw [ss3_eq h0, List.sum_append, List.sum_cons]
    split <;> split <;> simp <;> omega
  · rw [ss3_eq h0]
    by_cases a1 : (first : Int) > 0
    · rw [if_pos a1]
      exact ⟨1, by simp, by simp [off], rfl⟩
    · rw [if_neg a1]
      exact ⟨0, by simp, by simp [off]; omega, rfl⟩
/-! ### weights mixed, rows' places -/
def rLenK (K : PySem.W.Frag) : List V → Hp → VK → Prop := fun xs H Q => ∃ p ys, xs = [.ref p] ∧ (SqL K H p ys ∨ SqT K H p ys) ∧ Q (.int ys.length) H
theorem kk_len {X : Cx} {K : PySem.W.Frag} (hK : X.K = K) : CallR X (.builtin "len") (rLenK K) := by
  subst hK
  exact call_len_seq
theorem kk_bm {X : Cx} {K : PySem.W.Frag} {o e : Expr} {es : List Expr} {to : TE} {t : TA} {name : Str} {apos cpos : Pos} {T id : String} {r : V → List V → Hp → VK → Prop} (hK : X.K = K) (pa : PlainAttrs T) (slot : Slot T name id) (hty : typeOf (.builtin id) = pure (.type "method_descriptor")) (hm : MtR X id r) (ho : PE X o to) (ha : PA X (e :: es) t)
    (hbase : attributeBase o name X.env (eval o X.env) = eval o X.env := by rfl)
    (hfew : ((backTo cpos (starEach (e :: es) X.env)).all (fun x => !x.1) && (backToKw cpos (keywordEach [] X.env)).all (fun x => x.1.isSome)
      && decide ((e :: es).length + ([] : List Keyword).length + (if ([] : List Keyword).isEmpty then 0 else 1) < 30)) = true := by rfl)
    (hline : (apos.endLine == cpos.line) = true := by rfl) (hs : starEach (e :: es) X.env = (false, eval e X.env) :: starEach es X.env := by rfl) (hplain : (backTo cpos (starEach es X.env)).any (·.1) = false := by rfl) :
    PE X (.Call (.Attribute o name apos) (e :: es) [] cpos) (tBM K T r to t) := by
  subst hK
  exact pe_bm pa slot hty hm ho ha hbase hfew hline hs hplain
def spotsM (ss : List Int) : List (Int × Int) := (List.range ss.length).map fun i => ((ss.take i).sum, ss.getD i 0)
theorem spots_len {ss : List Int} : (spotsM ss).length = ss.length := by
  unfold spotsM
  rw [List.length_map, List.length_range]
theorem spots_get {ss : List Int} {i : Nat} {x : Int × Int} (h : (spotsM ss)[i]? = some x) : i < ss.length ∧ x = ((ss.take i).sum, ss.getD i 0) := by
  have hi := (List.getElem?_eq_some_iff.mp h).1
  rw [spots_len] at hi
  unfold spotsM at h
  rw [List.getElem?_map, List.getElem?_range hi] at h
  exact ⟨hi, (Option.some.inj h).symm⟩
@[irreducible] def spSpots (K : PySem.W.Frag) : Sp := fun vs H Q _ => ∃ (a : Addr) (ss : List Int) (n : Nat), vs = [.ref a] ∧ SqT K H a (ss.map V.int) ∧ SOk ss n ∧ n ≤ 12 ∧ ∀ L us H', H L = none → Same H H' → H' L = some (.lst us) → Al (PiV K H') us (spotsM ss) → Q (.ref L) H'
@[irreducible] def spMixed (K : PySem.W.Frag) : Sp := fun vs H Q _ => ∃ (c a : Addr) (xs : List Int) (P : Int → Prop), vs = [.ref c, .ref a] ∧ Bag H c ∧ H a = some (.lst (xs.map V.int)) ∧ a ≠ c ∧ xs.length ≤ 60 ∧ (∀ x ∈ xs, P x) ∧ ∀ L (ys : List Int) H', H L = none → H' L = some (.lst (ys.map V.int)) → ys.length = xs.length → ys.sum = xs.sum → (∀ x ∈ ys, P x) → Bag H' c → KpG c H H' → Q (.ref L) H'
section
variable {K : PySem.W.Frag} {H H' : Hp} {a : Addr} {ss : List Int} {Q : VK} {E : XK} {vs : List V}
theorem spots_step {n : Nat} (h : SqT K H a (ss.map V.int)) (hs : SOk ss n) (hn : n ≤ 12) (q : ∀ L us H', H L = none → Same H H' → H' L = some (.lst us) → Al (PiV K H') us (spotsM ss) → Q (.ref L) H') (hvs : vs = [.ref a] := by rfl) : spSpots K vs H Q E := by
  unfold spSpots
  exact ⟨a, ss, n, hvs, h, hs, hn, q⟩
theorem mixed_stepP (P : Int → Prop) {c : Addr} {xs : List Int} (hb : Bag H c) (h : H a = some (.lst (xs.map V.int))) (hne : a ≠ c) (hl : xs.length ≤ 60) (hw : ∀ x ∈ xs, P x) (q : ∀ L (ys : List Int) H', H L = none → H' L = some (.lst (ys.map V.int)) → ys.length = xs.length → ys.sum = xs.sum → (∀ x ∈ ys, P x) → Bag H' c → KpG c H H' → Q (.ref L) H') (hvs : vs = [.ref c, .ref a] := by rfl) : spMixed K vs H Q E := by
  unfold spMixed
  exact ⟨c, a, xs, P, hvs, hb, h, hne, hl, hw, q⟩
theorem mixed_step {c : Addr} {xs : List Int} (hb : Bag H c) (h : H a = some (.lst (xs.map V.int))) (hne : a ≠ c) (hl : xs.length ≤ 12) (hw : ∀ x ∈ xs, 1 ≤ x ∧ x ≤ 400000) (q : ∀ L (ys : List Int) H', H L = none → H' L = some (.lst (ys.map V.int)) → ys.length = xs.length → ys.sum = xs.sum → (∀ x ∈ ys, 1 ≤ x ∧ x ≤ 400000) → Bag H' c → KpG c H H' → Q (.ref L) H') (hvs : vs = [.ref c, .ref a] := by rfl) : spMixed K vs H Q E :=
  mixed_stepP _ hb h hne (by omega) hw q hvs
end
theorem cut_lo {ws : List Int} {first : Nat} {hi : Int} (e : hi = first) : cutV (ws.map V.int) none (some hi) = (ws.take first).map V.int := by
  unfold cutV
  rw [e, HT.sIx_none, HT.sIx_nat, List.drop_zero, Nat.sub_zero, List.length_map, ← List.map_take]
  congr 1
  rcases Nat.le_total first ws.length with h | h
  · rw [Nat.min_eq_left h]
  · rw [Nat.min_eq_right h, List.take_length, List.take_of_length_le h]
theorem cut_hi {ws : List Int} {at' : Nat} {lo : Int} (e : lo = at') (h : at' ≤ ws.length) : cutV (ws.map V.int) (some lo) none = (ws.drop at').map V.int := by
  unfold cutV
  rw [e, HT.sIx_none, HT.sIx_nat, List.length_map, Nat.min_eq_left h, List.map_drop]
  exact List.take_of_length_le (by rw [List.length_drop, List.length_map]; exact Nat.le_refl _)
theorem rowShape_of {b : Bx} {ws ws' : List Int} {f f' size : Nat} {d : Bool} (h1 : ws'.sum = ws.sum) (h2 : rowM ws' f' size = rowM ws f size) : rowShape b ws' f' size d = rowShape b ws f size d := by
  unfold rowShape
  rw [h1, h2]
theorem sum_erase : ∀ {xs : List Int} {k : Nat} {y : Int}, xs[k]? = some y → (xs.eraseIdx k).sum + y = xs.sum
  | [], k, y, h => by simp at h
  | x :: r, 0, y, h => by
    cases h
    rw [List.eraseIdx_cons_zero, List.sum_cons]
    omega
  | x :: r, k + 1, y, h => by
    rw [List.getElem?_cons_succ] at h
    have ih := sum_erase h
    rw [List.eraseIdx_cons_succ, List.sum_cons, List.sum_cons]
    omega
theorem map_erase (xs : List Int) (k : Nat) : (xs.map V.int).eraseIdx k = (xs.eraseIdx k).map V.int := by
  induction xs generalizing k with
  | nil => rfl
  | cons x r ih =>
    cases k with
    | zero => rfl
    | succ k => rw [List.map_cons, List.eraseIdx_cons_succ, List.eraseIdx_cons_succ, List.map_cons, ih]
end Cc
namespace Cc
open PySem PySem.Spec PyProof.Rows L2
/-! ### a dict of shapes, by the rows' ends -/
theorem u1 {n : Nat} (h : n + 64 < cLine) : n + 1 < cLine := by omega
def ky (i j : Nat) : List Key := [.inl (i : Int), .inl (j : Int)]
theorem ky_inj {i j i' j' : Nat} (h : ky i j = ky i' j') : i = i' ∧ j = j' := by
  unfold ky at h
  simp only [List.cons.injEq, Sum.inl.injEq, Int.natCast_inj, and_true] at h
  exact h
/-- all rows of n things -/
def AllR (n : Nat) (i j : Nat) : Prop := i < j ∧ j ≤ n
def DSh (K : PySem.W.Frag) (N : Nat) (C : Nat → Nat → Prop) (f : Nat → Nat → Rat) (m : Nat) (H : Hp) (a : Addr) : Prop := ∃ kvs : List (List Key × V), H a = some (.dT kvs) ∧ kvs.length ≤ m ∧ (∀ kv ∈ kvs, ∃ i j, kv.1 = ky i j ∧ AllR N i j) ∧ ∀ i j, C i j → ∃ v, valV kvs (ky i j) = some v ∧ PtV K H v (f i j)
section
variable {K : PySem.W.Frag} {C : Nat → Nat → Prop} {f : Nat → Nat → Rat} {m N : Nat} {H H' : Hp} {a : Addr}
theorem DSh.same (x : DSh K N C f m H a) (e : Same H H') : DSh K N C f m H' a := by
  obtain ⟨kvs, h1, h2, hk, h3⟩ := x
  refine ⟨kvs, e _ _ h1, h2, hk, fun i j c => ?_⟩
  obtain ⟨v, h4, h5⟩ := h3 i j c
  exact ⟨v, h4, h5.same e⟩
theorem DSh.ne (x : DSh K N C f m H a) {b : Addr} {ys : List V} (hb : H b = some (.lst ys)) : a ≠ b := fun z => by
  obtain ⟨kvs, h1, _⟩ := x
  rw [z, hb] at h1
  cases h1
theorem DSh.bag {b : Addr} (x : DSh K N C f m H a) (e : Kp b H H') (hb : Bag H b) : DSh K N C f m H' a := by
  obtain ⟨ys, hy⟩ := hb.lst
  have hn := x.ne hy
  obtain ⟨kvs, h1, h2, hk, h3⟩ := x
  refine ⟨kvs, e _ _ h1 hn, h2, hk, fun i j c => ?_⟩
  obtain ⟨v, h4, h5⟩ := h3 i j c
  exact ⟨v, h4, h5.bag e hb⟩
theorem DSh.mono {C' : Nat → Nat → Prop} {m' : Nat} (x : DSh K N C f m H a) (h : ∀ i j, C' i j → C i j) (hm : m ≤ m') : DSh K N C' f m' H a := by
  obtain ⟨kvs, h1, h2, hk, h3⟩ := x
  exact ⟨kvs, h1, Nat.le_trans h2 hm, hk, fun i j c => h3 i j (h i j c)⟩
theorem seqT_kpD {b a : Addr} {xs : List V} {kvs : List (List Key × V)} (e : Kp b H H') (hb : H b = some (.dT kvs)) (h : SqT K H a xs) : SqT K H' a xs := by
  rcases h with (h | ⟨o, h⟩) | h
  · exact .inl (.inl (e _ _ h (ne_of h hb (by intro z; cases z))))
  · exact .inl (.inr ⟨o, e _ _ h (ne_of h hb (by intro z; cases z))⟩)
  · exact .inr h
theorem PtV.kpD {b : Addr} {kvs : List (List Key × V)} {v : V} {q : Rat} (h : PtV K H v q) (e : Kp b H H') (hb : H b = some (.dT kvs)) : PtV K H' v q := by
  obtain ⟨a, rfl, h⟩ := h
  exact ⟨a, rfl, seqT_kpD e hb h⟩
theorem putK_len' {kvs : List (List Key × V)} {k : List Key} {v : V} : (putK kvs k v).length ≤ kvs.length + 1 := by
  unfold putK
  split
  · rw [List.length_map]
    omega
  · rw [List.length_append]
    exact Nat.le_refl _
/-- one shape more -/
theorem mem_putK {kvs : List (List Key × V)} {k : List Key} {v : V} {kv : List Key × V} (h : kv ∈ putK kvs k v) : kv.1 = k ∨ kv.1 ∈ kvs.map (·.1) := by
  unfold putK at h
  split at h
  · obtain ⟨y, hy, e⟩ := List.mem_map.mp h
    by_cases z : y.1 = k
    · rw [if_pos z] at e
      rw [← e]
      first | exact .inl rfl | exact .inl z
    · rw [if_neg z] at e
      rw [← e]
      exact .inr (List.mem_map.mpr ⟨y, hy, rfl⟩)
  · rcases List.mem_append.mp h with h | h
    · exact .inr (List.mem_map.mpr ⟨kv, h, rfl⟩)
    · rw [List.mem_singleton.mp h]
      exact .inl rfl
theorem DSh.put {i j : Nat} {v : V} (x : DSh K N C f m H a) (hN : AllR N i j) (hm : m < 900) (hv : PtV K H v (f i j)) (p : Addr) (hp : H p = some (.tup [.int i, .int j])) :
    ∃ H4, DPut H a (.ref p) v H4 ∧ Kp a H H4 ∧ DSh K N (fun i' j' => C i' j' ∨ (i' = i ∧ j' = j)) f (m + 1) H4 a := by
  obtain ⟨kvs, h1, h2, hk, h3⟩ := x
  refine ⟨upd H a (.dT (putK kvs (ky i j) v)), DPut.t h1 hp (small1000 (by omega)), Kp.upd, _, upd_same, Nat.le_trans putK_len' (by omega), fun kv hkv => ?_, fun i' j' c => ?_⟩
  · rcases mem_putK hkv with e | e
    · exact ⟨i, j, e, hN⟩
    · obtain ⟨kv', h4, h5⟩ := List.mem_map.mp e
      obtain ⟨i', j', h6, h7⟩ := hk kv' h4
      exact ⟨i', j', by rw [← h5]; exact h6, h7⟩
  rw [valV_put]
  by_cases e : ky i' j' = ky i j
  · obtain ⟨rfl, rfl⟩ := ky_inj e
    rw [if_pos rfl]
    exact ⟨v, rfl, hv.kpD Kp.upd h1⟩
  · rw [if_neg e]
    rcases c with c | ⟨rfl, rfl⟩
    · obtain ⟨w, h4, h5⟩ := h3 i' j' c
      exact ⟨w, h4, h5.kpD Kp.upd h1⟩
    · exact absurd rfl e
/-- a shape looked up -/
theorem DSh.get {i j : Nat} (x : DSh K N C f m H a) (c : C i j) (p : Addr) (hp : H p = some (.tup [.int i, .int j])) : ∃ v, DGet H a (.ref p) (some v) ∧ PtV K H v (f i j) := by
  obtain ⟨kvs, h1, h2, hk, h3⟩ := x
  obtain ⟨v, h4, h5⟩ := h3 i j c
  refine ⟨v, ?_, h5⟩
  rw [← h4]
  exact DGet.t h1 hp
end
def fSh (b : Bx) (ws : List Int) (d : Bool) (i j : Nat) : Rat := rowShape b ws i (j - i) d
@[irreducible] def spShapes (K : PySem.W.Frag) : Sp := fun vs H Q _ => ∃ (v : V) (a : Addr) (b : Bx) (ws : List Int) (d : Bool), vs = [v, .ref a, .str (sd d)] ∧ BxV K H v b ∧ b.Ok 450 ∧ SqL K H a (ws.map V.int) ∧ WOk ws ∧ ∀ D H', H D = none → Same H H' → DSh K ws.length (AllR ws.length) (fSh b ws d) 200 H' D → Q (.ref D) H'
theorem shapes_step {K : PySem.W.Frag} {H : Hp} {a : Addr} {ws : List Int} {Q : VK} {E : XK} {vs : List V} {b : Bx} {v : V} {d : Bool} {n : Nat} (hv : BxV K H v b) (hb : b.Ok n) (hn : n ≤ 450) (h : SqL K H a (ws.map V.int)) (hw : WOk ws) (q : ∀ D H', H D = none → Same H H' → DSh K ws.length (AllR ws.length) (fSh b ws d) 200 H' D → Q (.ref D) H') (hvs : vs = [v, .ref a, .str (sd d)] := by rfl) : spShapes K vs H Q E := by
  unfold spShapes
  exact ⟨v, a, b, ws, d, hvs, hv, hb.mono hn, h, hw, q⟩
@[irreducible] def spShapesI (K : PySem.W.Frag) : Sp := fun vs H Q _ => ∃ (v : V) (a : Addr) (b : Bx) (ws : List Int) (d : Bool), vs = [v, .ref a, .str (sd d)] ∧ BxV K H v b ∧ b.Ok 450 ∧ IntsV K H a ws ∧ WOk ws ∧ ∀ D H', H D = none → Same H H' → DSh K ws.length (AllR ws.length) (fSh b ws d) 200 H' D → Q (.ref D) H'
theorem shapesI_step {K : PySem.W.Frag} {H : Hp} {a : Addr} {ws : List Int} {Q : VK} {E : XK} {vs : List V} {b : Bx} {v : V} {d : Bool} {n : Nat} (hv : BxV K H v b) (hb : b.Ok n) (hn : n ≤ 450) (h : IntsV K H a ws) (hw : WOk ws) (q : ∀ D H', H D = none → Same H H' → DSh K ws.length (AllR ws.length) (fSh b ws d) 200 H' D → Q (.ref D) H') (hvs : vs = [v, .ref a, .str (sd d)] := by rfl) : spShapesI K vs H Q E := by
  unfold spShapesI
  exact ⟨v, a, b, ws, d, hvs, hv, hb.mono hn, h, hw, q⟩
/-! ### greedy sizes -/
def gEnd (f : Nat → Nat → Rat) (n b e : Nat) : Nat := if e < n ∧ ¬ f b e < f b (e + 1) then gEnd f n b (e + 1) else e
termination_by n - e
theorem gEnd_go {f : Nat → Nat → Rat} {n b e : Nat} (h : e < n ∧ ¬ f b e < f b (e + 1)) : gEnd f n b e = gEnd f n b (e + 1) := by
  rw [gEnd, if_pos h]
theorem gEnd_stop {f : Nat → Nat → Rat} {n b e : Nat} (h : ¬ (e < n ∧ ¬ f b e < f b (e + 1))) : gEnd f n b e = e := by
  rw [gEnd, if_neg h]
theorem gEnd_ge (f : Nat → Nat → Rat) (n b : Nat) : ∀ k e, n - e ≤ k → e ≤ gEnd f n b e
  | 0, e, h => by
    rw [gEnd_stop (by omega)]
    exact Nat.le_refl _
  | k + 1, e, h => by
    by_cases c : e < n ∧ ¬ f b e < f b (e + 1)
    · rw [gEnd_go c]
      have := gEnd_ge f n b k (e + 1) (by omega)
      omega
    · rw [gEnd_stop c]
      exact Nat.le_refl _
theorem gEnd_le (f : Nat → Nat → Rat) (n b : Nat) : ∀ k e, n - e ≤ k → e ≤ n → gEnd f n b e ≤ n
  | 0, e, h, h2 => by
    rw [gEnd_stop (by omega)]
    exact h2
  | k + 1, e, h, h2 => by
    by_cases c : e < n ∧ ¬ f b e < f b (e + 1)
    · rw [gEnd_go c]
      exact gEnd_le f n b k (e + 1) (by omega) (by omega)
    · rw [gEnd_stop c]
      exact h2
def greedyL (f : Nat → Nat → Rat) (n b : Nat) : List Int := if b < n then ((gEnd f n b (b + 1) - b : Nat) : Int) :: greedyL f n (gEnd f n b (b + 1)) else []
termination_by n - b
decreasing_by
  have := gEnd_ge f n b (n - (b + 1)) (b + 1) (Nat.le_refl _)
  omega
theorem greedyL_go {f : Nat → Nat → Rat} {n b : Nat} (h : b < n) : greedyL f n b = ((gEnd f n b (b + 1) - b : Nat) : Int) :: greedyL f n (gEnd f n b (b + 1)) := by
  rw [greedyL, if_pos h]
theorem greedyL_stop {f : Nat → Nat → Rat} {n b : Nat} (h : ¬ b < n) : greedyL f n b = [] := by
  rw [greedyL, if_neg h]
/-- greedy sizes are sizes -/
theorem greedy_ok (f : Nat → Nat → Rat) (n : Nat) : ∀ k b, n - b ≤ k → b ≤ n → (∀ x ∈ greedyL f n b, 1 ≤ x) ∧ (greedyL f n b).sum = (n : Int) - b
  | 0, b, h, hb => by
    rw [greedyL_stop (by omega)]
    refine ⟨by simp, ?_⟩
    rw [List.sum_nil]
    omega
  | k + 1, b, h, hb => by
    by_cases c : b < n
    · have g1 := gEnd_ge f n b (n - (b + 1)) (b + 1) (Nat.le_refl _)
      have g2 := gEnd_le f n b (n - (b + 1)) (b + 1) (Nat.le_refl _) (by omega)
      obtain ⟨h1, h2⟩ := greedy_ok f n k (gEnd f n b (b + 1)) (by omega) g2
      rw [greedyL_go c]
      refine ⟨fun x hx => ?_, ?_⟩
      · rcases List.mem_cons.mp hx with rfl | hx
        · omega
        · exact h1 x hx
      · rw [List.sum_cons, h2]
        omega
    · rw [greedyL_stop c]
      refine ⟨by simp, ?_⟩
      rw [List.sum_nil]
      omega
theorem greedy_sok (f : Nat → Nat → Rat) (n : Nat) : SOk (greedyL f n 0) n := by
  obtain ⟨h1, h2⟩ := greedy_ok f n n 0 (by omega) (by omega)
  exact ⟨h1, by rw [h2]; omega⟩
@[irreducible] def spGreedy (K : PySem.W.Frag) : Sp := fun vs H Q _ => ∃ (v : V) (a : Addr) (b : Bx) (ws : List Int) (d : Bool), vs = [v, .ref a, .str (sd d)] ∧ BxV K H v b ∧ b.Ok 450 ∧ SqL K H a (ws.map V.int) ∧ WOk ws ∧ ∀ t H', Same H H' → H' t = some (.tup ((greedyL (fSh b ws d) ws.length 0).map V.int)) → Q (.ref t) H'
@[irreducible] def spLGreedy (K : PySem.W.Frag) : Sp := fun vs H Q _ => ∃ (D : Addr) (n : Nat) (f : Nat → Nat → Rat) (m : Nat), vs = [.ref D, .int n] ∧ DSh K n (AllR n) f m H D ∧ n ≤ 12 ∧ (∀ i j, AllR n i j → Sz 3900 (f i j)) ∧ ∀ t H', Same H H' → H' t = some (.tup ((greedyL f n 0).map V.int)) → Q (.ref t) H'
section
variable {K : PySem.W.Frag} {H : Hp} {a : Addr} {ws : List Int} {Q : VK} {E : XK} {vs : List V} {b : Bx} {v : V} {d : Bool} {n m : Nat}
theorem greedy_step (hv : BxV K H v b) (hb : b.Ok n) (hn : n ≤ 450) (h : SqL K H a (ws.map V.int)) (hw : WOk ws) (q : ∀ t H', Same H H' → H' t = some (.tup ((greedyL (fSh b ws d) ws.length 0).map V.int)) → Q (.ref t) H') (hvs : vs = [v, .ref a, .str (sd d)] := by rfl) : spGreedy K vs H Q E := by
  unfold spGreedy
  exact ⟨v, a, b, ws, d, hvs, hv, hb.mono hn, h, hw, q⟩
theorem lgreedy_step {D : Addr} {f : Nat → Nat → Rat} (h : DSh K n (AllR n) f m H D) (hn : n ≤ 12) (hz : ∀ i j, AllR n i j → Sz 3900 (f i j)) (q : ∀ t H', Same H H' → H' t = some (.tup ((greedyL f n 0).map V.int)) → Q (.ref t) H') (hvs : vs = [.ref D, .int n] := by rfl) : spLGreedy K vs H Q E := by
  unfold spLGreedy
  exact ⟨D, n, f, m, hvs, h, hn, hz, q⟩
end
theorem sz_fSh {b : Bx} {ws : List Int} {n : Nat} (hb : b.Ok n) (hW : WOk ws) (d : Bool) (hn : n ≤ 450) : ∀ i j, AllR ws.length i j → Sz 3900 (fSh b ws d i j) := fun i j h => by
  have h1 := h.1
  have h2 := h.2
  exact (sz_rowShape hb hW (by omega) (by omega) d).mono (by omega)
theorem same_kp {H H3 H4 : Hp} {F : Addr} (nF : H F = none) (s : Same H H3) (k : Kp F H3 H4) : Same H H4 := fun b u e => k b u (s b u e) (ne_of_none e nF)
/-- the shape of a thing of a row, as a law reckons it -/
theorem shp_own {L W : Rat} {R T x : Int} (hL : 0 < L) (hW : 0 < W) (hR : 0 < R) (hT : 0 < T) (hx : 0 < x) :
    gr ((L * Rat.divInt R T) / (W * Rat.divInt x R)) ((W * Rat.divInt x R) / (L * Rat.divInt R T)) = shpX (W / L * Rat.divInt T (R * R)) x := by
  have r0 := int_pos hR
  have t0 := int_pos hT
  have rr := Int.mul_pos hR hR
  have mulr : ∀ {a c : Int}, 0 < c → Rat.divInt a c * (c : Rat) = (a : Rat) := fun {a c} h => by
    have := int_pos h
    rw [Rat.divInt_eq_div, Rat.div_def, Rat.mul_assoc, Rat.inv_mul_cancel _ (by grind), Rat.mul_one]
  have e3 : Rat.divInt T (R * R) * ((R : Rat) * (R : Rat)) = (T : Rat) := by
    have := mulr (a := T) rr
    rw [Rat.intCast_mul] at this
    exact this
  obtain ⟨f1, f2⟩ := shp_form hW hL (divInt_pos hR hT) (divInt_pos hx hR) r0 (mulr hR) (mulr hT) e3
  unfold shpX
  rw [f1, f2, gr_comm]
end Cc
namespace Cc
open PySem PySem.Spec PyProof.Rows L2
/-! ### t * 1 is t -/
theorem tuple_mul1 (l : Addr) (items : Array Value) (n : Nat) (dd : Option Addr) (sl : Array (Option Value)) (u : Tok) :
    Meets (Builtin.«tuple.__mul__» ⟨[.ref l, .int 1 u], []⟩) (fun _ R s => s.heap.get? l = some { cls := .type "tuple", dict := dd, data := .seq items n, slots := sl } ∧ R (.ok (.ret (Value.ref l))) s) :=
  .of_wp fun prog w A R s h => by
    obtain ⟨hp, g, d, tk, os⟩ := s
    obtain ⟨hl, h⟩ := h
    have f1 := AutoSeq1.idx_int
    have c1 : (items.isEmpty || (1 : Int) == 1) = true := by simp
    wp_walk using wpAny_loadPart' hl
    repeat (first
      | (refine wpAny_ite_true (decide_eq_true (by rw [c1])) ?_; wp_walk using wpAny_loadPart' hl)
      | (refine wpAny_ite_true (by rw [c1]) ?_; wp_walk using wpAny_loadPart' hl))
    exact ⟨_, rfl, h⟩
def rRepT1 (K : PySem.W.Frag) : R2 := fun x y H Q => ∃ l xs, x = .ref l ∧ y = .int 1 ∧ SqT K H l xs ∧ Q (.ref l) H
theorem op_repT1 {X : Cx} : OpR X (binaryOp .Mult) (rRepT1 X.K) := by
  intro pins s σ H x y v u Q I rx ry h
  obtain ⟨l, xs, rfl, rfl, hT, q⟩ := h
  cases rx
  obtain ⟨t, rfl⟩ := ry
  obtain ⟨its, r, ⟨⟨cls, dd, data, sl⟩, ho, hc, n, hd⟩, hs⟩ := I.tuple hT
  simp only at hc hd
  subst hc hd
  refine wpAny_binaryOp_repeat_ref (T := "tuple") (U := "int") (by decide) ⟨_, ho, rfl⟩ (fun s' => typeIs_int s' 1 t) noFill_tuple_mul F.fills_int_mul F.slot_int_rmul repeat_tuple F.slot_int_index.lookup
    (call_meets F.slot_int_rmul (typeIs_int s 1 t) F.entry_int_rmul (F.args_int_rmul_2 _ _) (int_rmul_tuple 1 t l its.toArray n dd sl)
      ⟨ho, rfl, ⟨_, ho, rfl⟩, call_meets F.slot_tuple_mul ⟨_, ho, rfl⟩ F.entry_tuple_mul (F.args_tuple_mul_2 _ _) (tuple_mul1 l its.toArray n dd sl t) ⟨ho, ?_⟩⟩)
  exact ⟨.ref l, H, I, rfl, q⟩
theorem op_or2 {X : Cx} {f : Value → Value → Sem Value} {r1 r2 : R2} (h1 : OpR X f r1) (h2 : OpR X f r2) : OpR X f (fun x y H Q => r1 x y H Q ∨ r2 x y H Q) := by
  intro pins s σ H x y v u Q I rx ry h
  rcases h with h | h
  · exact h1 pins s σ H x y v u Q I rx ry h
  · exact h2 pins s σ H x y v u Q I rx ry h
/-! ### the least of parts -/
def leastL (qs : List Rat) : Rat := qs.foldl ls (qs.headD 0)
theorem ls_or (x y : Rat) : ls x y = x ∨ ls x y = y := by
  unfold ls
  split
  · exact .inl rfl
  · exact .inr rfl
theorem ls_le (x y : Rat) : ls x y ≤ x ∧ ls x y ≤ y := by
  unfold ls
  split <;> constructor <;> grind
theorem foldl_ls_mem : ∀ (l : List Rat) (x : Rat), l.foldl ls x = x ∨ l.foldl ls x ∈ l
  | [], _ => .inl rfl
  | y :: r, x => by
    rw [List.foldl_cons]
    rcases foldl_ls_mem r (ls x y) with h | h
    · rcases ls_or x y with e | e
      · exact .inl (h.trans e)
      · rw [h, e]
        exact .inr List.mem_cons_self
    · exact .inr (List.mem_cons_of_mem _ h)
theorem foldl_ls_le : ∀ (l : List Rat) (x : Rat), l.foldl ls x ≤ x ∧ ∀ q ∈ l, l.foldl ls x ≤ q
  | [], x => ⟨by rw [List.foldl_nil]; exact Rat.le_refl, fun q hq => by cases hq⟩
  | y :: r, x => by
    have ih := foldl_ls_le r (ls x y)
    have g := ls_le x y
    rw [List.foldl_cons]
    refine ⟨Rat.le_trans ih.1 g.1, fun q hq => ?_⟩
    rcases List.mem_cons.mp hq with rfl | hq
    · exact Rat.le_trans ih.1 g.2
    · exact ih.2 q hq
theorem leastL_mem {qs : List Rat} (h : qs ≠ []) : leastL qs ∈ qs := by
  cases qs with
  | nil => exact absurd rfl h
  | cons x r =>
    unfold leastL
    rw [List.headD_cons]
    rcases foldl_ls_mem (x :: r) x with e | e
    · rw [e]
      exact List.mem_cons_self
    · exact e
theorem leastL_le {qs : List Rat} {q : Rat} (h : q ∈ qs) : leastL qs ≤ q := (foldl_ls_le qs _).2 q h
theorem least_take {qs : List Rat} {i : Nat} {q x : Rat} (h : qs[i]? = some q) : (qs.take (i + 1)).foldl ls x = ls ((qs.take i).foldl ls x) q := by
  rw [List.take_add_one, h, List.foldl_append]
  rfl
theorem least_take_mem {qs : List Rat} {i : Nat} (h : qs ≠ []) : (qs.take i).foldl ls (qs.headD 0) ∈ qs := by
  rcases foldl_ls_mem (qs.take i) (qs.headD 0) with e | e
  · rw [e]
    cases qs with
    | nil => exact absurd rfl h
    | cons x r => exact List.mem_cons_self
  · exact List.mem_of_mem_take e
@[irreducible] def spLeastOf (K : PySem.W.Frag) : Sp := fun vs H Q _ => ∃ (L : Addr) (us : List V) (qs : List Rat), vs = [.ref L] ∧ SqL K H L us ∧ Al (PtV K H) us qs ∧ qs ≠ [] ∧ (∀ q ∈ qs, Sz 3900 q) ∧ ∀ u H', Same H H' → PtV K H' u (leastL qs) → Q u H'
theorem leastof_step {K : PySem.W.Frag} {H : Hp} {Q : VK} {E : XK} {vs : List V} {n : Nat} {L : Addr} {us : List V} {qs : List Rat} (hL : SqL K H L us) (hA : Al (PtV K H) us qs) (h0 : qs ≠ []) (hz : ∀ q ∈ qs, Sz n q) (hn : n ≤ 3900) (q : ∀ u H', Same H H' → PtV K H' u (leastL qs) → Q u H') (hvs : vs = [.ref L] := by rfl) : spLeastOf K vs H Q E := by
  unfold spLeastOf
  exact ⟨L, us, qs, hvs, hL, hA, h0, fun q hq => (hz q hq).mono hn, q⟩
/-! ### the least worst shape behind each place -/
structure Bst (f : Nat → Nat → Rat) (n i : Nat) (g : Nat → Rat) : Prop where
  e : g n = 1
  hit : ∀ b, i ≤ b → b < n → ∃ e, b < e ∧ e ≤ n ∧ g b = gr (f b e) (g e)
  le : ∀ b, i ≤ b → b < n → ∀ e, b < e → e ≤ n → g b ≤ gr (f b e) (g e)
theorem Bst.mono {f : Nat → Nat → Rat} {n i j : Nat} {g : Nat → Rat} (h : Bst f n i g) (hij : i ≤ j) : Bst f n j g := ⟨h.e, fun b h1 h2 => h.hit b (by omega) h2, fun b h1 h2 => h.le b (by omega) h2⟩
/-- sizes have no lesser worst shape -/
theorem Bst.low {f : Nat → Nat → Rat} {n : Nat} {g : Nat → Rat} {ss : List Int} {M : Rat} (h : Bst f n 0 g) (hS : SOk ss n) (h1 : 1 ≤ M) (hM : ∀ j, j < ss.length → f (off ss j) (off ss (j + 1)) ≤ M) : ∀ k, k ≤ ss.length → g (off ss (ss.length - k)) ≤ M
  | 0, _ => by
    rw [Nat.sub_zero, hS.off_len, h.e]
    exact h1
  | k + 1, hk => by
    have ih := Bst.low h hS h1 hM k (by omega)
    have hj : ss.length - (k + 1) < ss.length := by omega
    have e : ss.length - k = ss.length - (k + 1) + 1 := by omega
    have hs := hS.off_succ hj
    have hg := hS.getD hj
    have hl := hS.off_le (ss.length - (k + 1) + 1)
    rw [e] at ih
    have h2 := h.le (off ss (ss.length - (k + 1))) (by omega) (by omega) (off ss (ss.length - (k + 1) + 1)) (by omega) hl
    have h3 := hM (ss.length - (k + 1)) hj
    rcases gr_or (f (off ss (ss.length - (k + 1))) (off ss (ss.length - (k + 1) + 1))) (g (off ss (ss.length - (k + 1) + 1))) with e2 | e2
    · rw [e2] at h2
      exact Rat.le_trans h2 h3
    · rw [e2] at h2
      exact Rat.le_trans h2 ih
theorem shpX_ge {g : Rat} {x : Int} (h : 0 < g * (x : Rat)) : 1 ≤ shpX g x := by
  unfold shpX
  have g1 := gr_ge (g * (x : Rat)) (1 / (g * (x : Rat)))
  by_cases e : 1 ≤ g * (x : Rat)
  · exact Rat.le_trans e g1.1
  · have h2 := inv_le h (show g * (x : Rat) ≤ 1 by grind)
    have e1 : (1 : Rat) / 1 = 1 := by rw [Rat.div_def]; grind
    rw [e1] at h2
    exact Rat.le_trans h2 g1.2
theorem rowShape_ge {b : Bx} {ws : List Int} {first size n : Nat} (hb : b.Ok n) (hW : WOk ws) (h0 : 1 ≤ size) (h : first + size ≤ ws.length) (d : Bool) : 1 ≤ rowShape b ws first size d := by
  have hr := rowM_ok hW h0 h
  have hl := hr.l0
  have hm : rowShape b ws first size d ∈ (rowM ws first size).map (shpX (gform b ws.sum (rowM ws first size) d)) := mostL_mem (fun z => by
    have z2 := congrArg List.length z
    rw [List.length_map, List.length_nil] at z2
    omega)
  obtain ⟨x, hx, e⟩ := List.mem_map.mp hm
  rw [← e]
  exact shpX_ge (Rat.mul_pos (gform_pos hb hW.sum.1 hr.sum.1 d) (int_pos (by have := hr.g.mem hx; omega)))
theorem Bst.worst {b : Bx} {ws ss : List Int} {m : Nat} {d : Bool} {g : Nat → Rat} (hb : b.Ok m) (hW : WOk ws) (h : Bst (fSh b ws d) ws.length 0 g) (hS : SOk ss ws.length) : ¬ worstM b ws ss d < g 0 := by
  have key : ∀ j, j < ss.length → fSh b ws d (off ss j) (off ss (j + 1)) = rowShape b ws (off ss j) (ss.getD j 0).toNat d := fun j hj => by
    unfold fSh
    rw [hS.off_succ hj, Nat.add_sub_cancel_left]
  have hM : ∀ j, j < ss.length → rowShape b ws (off ss j) (ss.getD j 0).toNat d ≤ worstM b ws ss d := fun j hj => by
    unfold worstM shapesM
    exact mostL_ge (List.mem_map.mpr ⟨j, List.mem_range.mpr hj, rfl⟩)
  have h0 := hS.ne hW.l0
  have hg := hS.getD (show 0 < ss.length by omega)
  have h1 : 1 ≤ worstM b ws ss d := Rat.le_trans (rowShape_ge hb hW (by omega) (hS.size_le (show 0 < ss.length by omega)) d) (hM 0 (by omega))
  have := Bst.low h hS h1 (fun j hj => by rw [key j hj]; exact hM j hj) ss.length (Nat.le_refl _)
  rw [Nat.sub_self] at this
  have e : off ss 0 = 0 := by simp [off]
  rw [e] at this
  grind
@[irreducible] def spLeastB (K : PySem.W.Frag) : Sp := fun vs H Q _ => ∃ (D : Addr) (n m : Nat) (f : Nat → Nat → Rat), vs = [.ref D, .int n] ∧ DSh K n (AllR n) f m H D ∧ n ≤ 12 ∧ (∀ i j, AllR n i j → Sz 3900 (f i j)) ∧ ∀ L us g H', H L = none → Same H H' → H' L = some (.lst us) → Bst f n 0 g → (∀ e, e ≤ n → Sz 3900 (g e) ∧ ∃ v, us[e]? = some v ∧ PtV K H' v (g e)) → Q (.ref L) H'
@[irreducible] def spLeast (K : PySem.W.Frag) : Sp := fun vs H Q _ => ∃ (v : V) (a : Addr) (b : Bx) (ws : List Int) (d : Bool), vs = [v, .ref a, .str (sd d)] ∧ BxV K H v b ∧ b.Ok 450 ∧ SqL K H a (ws.map V.int) ∧ WOk ws ∧ ∀ u g H', Same H H' → Bst (fSh b ws d) ws.length 0 g → Sz 3900 (g 0) → PtV K H' u (g 0) → Q u H'
section
variable {K : PySem.W.Frag} {H : Hp} {a : Addr} {ws : List Int} {Q : VK} {E : XK} {vs : List V} {b : Bx} {v : V} {d : Bool} {n m : Nat}
theorem leastb_step {D : Addr} {f : Nat → Nat → Rat} (h : DSh K n (AllR n) f m H D) (hn : n ≤ 12) (hz : ∀ i j, AllR n i j → Sz 3900 (f i j)) (q : ∀ L us g H', H L = none → Same H H' → H' L = some (.lst us) → Bst f n 0 g → (∀ e, e ≤ n → Sz 3900 (g e) ∧ ∃ v, us[e]? = some v ∧ PtV K H' v (g e)) → Q (.ref L) H') (hvs : vs = [.ref D, .int n] := by rfl) : spLeastB K vs H Q E := by
  unfold spLeastB
  exact ⟨D, n, m, f, hvs, h, hn, hz, q⟩
theorem least_step (hv : BxV K H v b) (hb : b.Ok n) (hn : n ≤ 450) (h : SqL K H a (ws.map V.int)) (hw : WOk ws) (q : ∀ u g H', Same H H' → Bst (fSh b ws d) ws.length 0 g → Sz 3900 (g 0) → PtV K H' u (g 0) → Q u H') (hvs : vs = [v, .ref a, .str (sd d)] := by rfl) : spLeast K vs H Q E := by
  unfold spLeast
  exact ⟨v, a, b, ws, d, hvs, hv, hb.mono hn, h, hw, q⟩
end
/-! ### what greedy sizes are like -/
theorem gEnd_no {f : Nat → Nat → Rat} {n b : Nat} : ∀ k e, n - e ≤ k → ∀ e', e ≤ e' → e' < gEnd f n b e → ¬ f b e' < f b (e' + 1)
  | 0, e, h, e', h1, h2 => by
    rw [gEnd_stop (by omega)] at h2
    omega
  | k + 1, e, h, e', h1, h2 => by
    by_cases c : e < n ∧ ¬ f b e < f b (e + 1)
    · rw [gEnd_go c] at h2
      by_cases z : e' = e
      · rw [z]
        exact c.2
      · exact gEnd_no k (e + 1) (by omega) e' (by omega) h2
    · rw [gEnd_stop c] at h2
      omega
theorem gEnd_end {f : Nat → Nat → Rat} {n b : Nat} : ∀ k e, n - e ≤ k → gEnd f n b e < n → f b (gEnd f n b e) < f b (gEnd f n b e + 1)
  | 0, e, h, h2 => by
    rw [gEnd_stop (by omega)] at h2
    omega
  | k + 1, e, h, h2 => by
    by_cases c : e < n ∧ ¬ f b e < f b (e + 1)
    · rw [gEnd_go c] at h2 ⊢
      exact gEnd_end k (e + 1) (by omega) h2
    · rw [gEnd_stop c] at h2 ⊢
      by_cases z : f b e < f b (e + 1)
      · exact z
      · exact absurd ⟨h2, z⟩ c
theorem greedy_at (f : Nat → Nat → Rat) (n : Nat) : ∀ k b, n - b ≤ k → b ≤ n → ∀ j, j < (greedyL f n b).length → ∃ o : Nat, (o : Int) = b + ((greedyL f n b).take j).sum ∧ o < n ∧ (greedyL f n b).getD j 0 = ((gEnd f n o (o + 1) - o : Nat) : Int)
  | 0, b, h, hb, j, hj => by
    rw [greedyL_stop (by omega)] at hj
    simp at hj
  | k + 1, b, h, hb, j, hj => by
    by_cases c : b < n
    · have g1 := gEnd_ge f n b (n - (b + 1)) (b + 1) (Nat.le_refl _)
      have g2 := gEnd_le f n b (n - (b + 1)) (b + 1) (Nat.le_refl _) (by omega)
      rw [greedyL_go c] at hj ⊢
      cases j with
      | zero => exact ⟨b, by simp, c, rfl⟩
      | succ j =>
        rw [List.length_cons] at hj
        obtain ⟨o, h1, h2, h3⟩ := greedy_at f n k (gEnd f n b (b + 1)) (by omega) g2 j (by omega)
        refine ⟨o, ?_, h2, ?_⟩
        · rw [List.take_succ_cons, List.sum_cons, h1]
          omega
        · rw [List.getD_cons_succ]
          exact h3
    · rw [greedyL_stop c] at hj
      simp at hj
/-- sizes of one row; sizes of one each -/
theorem sok_one {n : Nat} (h : 1 ≤ n) : SOk [(n : Int)] n := ⟨fun x hx => by rw [List.mem_singleton.mp hx]; omega, by simp⟩
theorem sok_ones : ∀ n : Nat, SOk (List.replicate n (1 : Int)) n
  | 0 => ⟨by simp, by simp⟩
  | n + 1 => by
    obtain ⟨h1, h2⟩ := sok_ones n
    refine ⟨fun x hx => ?_, ?_⟩
    · rw [List.replicate_succ] at hx
      rcases List.mem_cons.mp hx with rfl | hx
      · decide
      · exact h1 x hx
    · rw [List.replicate_succ, List.sum_cons, h2]
      omega
theorem rep1 {α : Type} (x : α) : ∀ k : Nat, (List.replicate k [x]).flatten = List.replicate k x
  | 0 => rfl
  | k + 1 => by
    rw [List.replicate_succ, List.flatten_cons, rep1 x k, List.replicate_succ]
    rfl
theorem ixN_n {n j : Nat} (hj : j < n) : ixN n (j : Int) = some j := by
  unfold ixN
  rw [if_pos (by omega), if_pos (by omega)]
  simp
/-- (1,) * n -/
def rOnes (K : PySem.W.Frag) : R2 := fun x y H Q => ∃ (l : Addr) (n : Nat), x = .ref l ∧ y = .int n ∧ SqT K H l [.int 1] ∧ 1 ≤ n ∧ n ≤ 1000 ∧ ∀ p H', Same H H' → SqT K H' p ((List.replicate n (1 : Int)).map V.int) → Q (.ref p) H'
theorem op_ones {X : Cx} : OpR X (binaryOp .Mult) (rOnes X.K) := by
  intro pins s σ H x y v u Q I rx ry h
  obtain ⟨l, n, rfl, rfl, hT, h0, h1, q⟩ := h
  by_cases e : n = 1
  · subst e
    exact op_repT1 pins s σ H _ _ v u Q I rx ry ⟨l, _, rfl, rfl, hT, q l H (Same.refl H) hT⟩
  · refine op_repT pins s σ H _ _ v u Q I rx ry ⟨l, n, [.int 1], rfl, rfl, hT, by simp, by omega, by omega, by simp, fun p np => ?_⟩
    refine q p _ (same_new np) ?_
    rw [show ((n : Nat) : Int).toNat = n from rfl, rep1, show (List.replicate n (1 : Int)).map V.int = List.replicate n (V.int 1) from List.map_replicate]
    exact SqT.of upd_same
theorem ne_bl {x y : V} (h : x = y) : V.bl (!decide (x = y)) = V.bl false := by
  subst h
  simp
theorem atI_neg1 {α : Type} {xs : List α} {v : α} (h : xs[xs.length - 1]? = some v) : atI xs (-1) = some v := by
  have hl := (List.getElem?_eq_some_iff.mp h).1
  have e : xs = xs.dropLast ++ [v] := by
    have hne : xs ≠ [] := fun z => by
      rw [z] at hl
      simp at hl
    have h2 := List.dropLast_concat_getLast hne
    rw [List.getLast_eq_getElem] at h2
    rw [List.getElem?_eq_getElem hl] at h
    rw [Option.some.inj h] at h2
    exact h2.symm
  rw [e]
  exact atI_last _ _
theorem any_false (n : Nat) : (List.replicate n false).any id = false := by
  induction n with
  | zero => rfl
  | succ n ih => rw [List.replicate_succ, List.any_cons, ih]; rfl
end Cc
namespace Cc
open PySem PySem.Spec PyProof.Rows L2
/-! ### max(t), min(t), t a tuple of ints -/
section
variable {X : Cx}
def rMaxA (K : PySem.W.Frag) : List V → Hp → VK → Prop := fun vs H Q => ∃ (a : Addr) (ns : List Int), vs = [V.ref a] ∧ IntsV K H a ns ∧ 0 < ns.length ∧ ∀ m, m ∈ ns → (∀ y, y ∈ ns → y ≤ m) → Q (.int m) H
def rMinA (K : PySem.W.Frag) : List V → Hp → VK → Prop := fun vs H Q => ∃ (a : Addr) (ns : List Int), vs = [V.ref a] ∧ IntsV K H a ns ∧ 0 < ns.length ∧ ∀ m, m ∈ ns → (∀ y, y ∈ ns → m ≤ y) → Q (.int m) H
theorem nth_in {ns : List Int} {k : Nat} (h : k < ns.length) : nth ns k ∈ ns := by
  rw [nth_get h]
  exact List.getElem_mem h
theorem in_nth {ns : List Int} {y : Int} (h : y ∈ ns) : ∃ k, k < ns.length ∧ nth ns k = y := by
  obtain ⟨k, hk, e⟩ := List.getElem_of_mem h
  exact ⟨k, hk, by rw [nth_get hk, e]⟩
theorem cr_maxA (hc : X.calm = true) : CallR X (.builtin "max") (rMaxA X.K) := fun pins s σ H vs us Q I r ⟨a, ns, ev, hs, hne, q⟩ => by
  subst ev
  rcases hs with hs | hs
  · exact cr_max hc pins s σ H _ us Q I r ⟨a, ns, rfl, hs, hne, q⟩
  obtain ⟨its, rv, hl, _⟩ := I.tuple hs
  have len := ints_len rv
  rw [Vals.ref1 r]
  refine call_max_walkH (PySem.W.iter_tupleW (A := X.A.in1) (I.ok.hd hc) hl fun s2 e W st hb hw hk => ?_)
  refine ⟨_, _, _, _, _, _, _, s.heap, fun i j => decide (nth ns i > nth ns j), rfl, W, st, hb, by rw [len]; exact hne, hw, hk, fun i j vi vj z P F _ hi hj => CmpOf.ints_gt (nth ns) (ints_at rv) i j vi vj z P F hi hj, fun v s' hv m => ?_⟩
  obtain ⟨h', tk, rfl, old⟩ := PySem.W.moved_old e rfl m
  obtain ⟨t, rfl⟩ := ints_at rv _ v hv
  have b := argBest_gt (nth ns) (its.toArray.size - 1)
  refine ⟨.int _, H, I.kept old, ⟨t, rfl⟩, q _ (nth_in (by omega)) fun y hy => ?_⟩
  obtain ⟨k, hk, rfl⟩ := in_nth hy
  exact b.2 k (by omega)
theorem cr_minA (hc : X.calm = true) : CallR X (.builtin "min") (rMinA X.K) := fun pins s σ H vs us Q I r ⟨a, ns, ev, hs, hne, q⟩ => by
  subst ev
  rcases hs with hs | hs
  · exact cr_min hc pins s σ H _ us Q I r ⟨a, ns, rfl, hs, hne, q⟩
  obtain ⟨its, rv, hl, _⟩ := I.tuple hs
  have len := ints_len rv
  rw [Vals.ref1 r]
  refine call_min_walkH (PySem.W.iter_tupleW (A := X.A.in1) (I.ok.hd hc) hl fun s2 e W st hb hw hk => ?_)
  refine ⟨_, _, _, _, _, _, _, s.heap, fun i j => decide (nth ns i < nth ns j), rfl, W, st, hb, by rw [len]; exact hne, hw, hk, fun i j vi vj z P F _ hi hj => CmpOf.ints_lt (nth ns) (ints_at rv) i j vi vj z P F hi hj, fun v s' hv m => ?_⟩
  obtain ⟨h', tk, rfl, old⟩ := PySem.W.moved_old e rfl m
  obtain ⟨t, rfl⟩ := ints_at rv _ v hv
  have b := argBest_lt (nth ns) (its.toArray.size - 1)
  refine ⟨.int _, H, I.kept old, ⟨t, rfl⟩, q _ (nth_in (by omega)) fun y hy => ?_⟩
  obtain ⟨k, hk, rfl⟩ := in_nth hy
  exact b.2 k (by omega)
end
/-! ### sorted(d), the keys of d pairs of ints -/
section
variable {prog : Program} {w : World} {A : Around} {E : Value → Shared → Prop} {s : Shared}
/-- sorted(x): x is something that can be collected, and what is collected can be sorted -/
theorem sorted_of {x : Value} {Q : Value → Shared → Prop} (P : List Value → Prop) (small : ∀ vs, P vs → vs.length ≤ sizeLine)
    (col : ∀ R : List Value → Shared → Prop, (∀ g t vs, (∀ b o, s.heap.get? b = some o → g.get? b = some o) → P vs → R vs { s with heap := g, toks := t }) → wpAny (model prog w) A.in1 (collect x) R E s)
    (ord : ∀ vs, P vs → 2 ≤ vs.length → ∀ (z : Shared) (a : Addr), z.heap.get? a = some (seqObj "list" vs.toArray 0) → (∀ b o, s.heap.get? b = some o → z.heap.get? b = some o) → Srt.Sortable prog w A.in1.in1 z a vs)
    (fin : ∀ (vs out : List Value) (g g2 : Heap) (t : Nat), P vs → out.Perm vs → (∀ b o, s.heap.get? b = some o → g.get? b = some o) → (∀ b o, g.get? b = some o → g2.get? b = some o) → (∃ n, g2.get? g.objs.size = some (seqObj "list" out.toArray n)) → Q (.ref g.objs.size) { s with heap := g2, toks := t }) :
    wpAny (model prog w) A (call (.builtin "sorted") [x]) Q E s := by
  apply Calls.call_function_entry kind_sorted plain_sorted entry_sorted (args_sorted1 x)
  unfold Builtin.«sorted»
  refine wpAny_bind (wpAny_pure (wpAny_bind (col _ fun g t vs old hp => wpAny_bind (wpAny_newList ?_ (small vs hp)))))
  have at0 : (g.push (seqObj "list" vs.toArray 0)).get? g.objs.size = some (seqObj "list" vs.toArray 0) := Heap.get?_push_size _ rfl
  have up : ∀ b o, s.heap.get? b = some o → (g.push (seqObj "list" vs.toArray 0)).get? b = some o := fun b o e => Heap.get?_push_of_some _ (old b o e)
  refine wpAny_bind (wpAny_holding (wpAny_call_entry slot_list_sort ⟨_, at0, rfl⟩ entry_list_sort (Srt.list_sort_any (s := { s with heap := g.push (seqObj "list" vs.toArray 0), toks := t }) at0 (small vs hp) (fun two => ord vs hp two _ _ at0 up) fun out perm => ⟨_, rfl, wpAny_pure ⟨_, rfl, ?_⟩⟩) (args_list_sort _)))
  refine fin vs out g _ t hp perm old (fun b o e => ?_) (sortedHeap_at at0)
  have lt := Heap.lt_size e
  rw [sortedHeap_old (Nat.ne_of_lt lt) (by rw [size_push']; exact Nat.lt_succ_of_lt lt)]
  exact Heap.get?_push_of_some _ e
theorem items_keys {es : Array DictEntry} {acc : Array Value} (it : ItemsOf (fun i v => ∃ en : DictEntry, es[i]? = some en ∧ v = en.key) acc es.size) : acc = es.map (·.key) := by
  refine Array.ext (by simpa using it.1) fun i h1 h2 => ?_
  obtain ⟨en, e1, e2⟩ := it.2 i acc[i] (Array.getElem?_eq_getElem h1)
  rw [Array.getElem?_eq_getElem (show i < es.size by simpa using h2)] at e1
  cases e1
  rw [e2, Array.getElem_map]
end
theorem pair_keys {H : Hp} : ∀ {kvs : List (List Key × V)} {bs : List Addr}, Paired (fun p b => H b = some (.tup (p.1.map kV))) kvs bs → (∀ kv ∈ kvs, ∃ i j : Int, kv.1 = [.inl i, .inl j]) → ∀ b ∈ bs, ∃ i j : Int, H b = some (.tup [.int i, .int j])
  | _, _, .nil, _, b, hb => nomatch hb
  | _, _, .cons h t, hq, b, hb => by
    cases hb with
    | head =>
      obtain ⟨i, j, e⟩ := hq _ (List.mem_cons_self ..)
      exact ⟨i, j, by rw [h, e]; rfl⟩
    | tail _ hb => exact pair_keys t (fun kv hkv => hq kv (List.mem_cons_of_mem _ hkv)) b hb
section
variable {X : Cx}
theorem call_sortedDT (hc : X.calm = true) : CallR X (.builtin "sorted") (fun xs H Q => ∃ (d : Addr) (kvs : List (List Key × V)), xs = [.ref d] ∧ Rd H d (.dT kvs) ∧ (∀ kv ∈ kvs, ∃ i j : Int, kv.1 = [.inl i, .inl j]) ∧
    ∀ (bs : List Addr) (ys : List V) (p : Addr), IsKeys H kvs bs → ys.Perm (bs.map V.ref) → H p = none → Q (.ref p) (upd H p (.lst ys))) := fun pins s σ H xs us Q I r ⟨d, kvs, ex, hd, hpair, q⟩ => by
  subst ex
  rw [Vals.ref1 r]
  obtain ⟨z, hs, ks, pr, o, es, ep, ho, hx, hdt, he, -⟩ := (show ObjOk X.prog X.w H s.heap d (.dT kvs) from hd.ok I.hok)
  have keys := isKeys_of pr
  have many : es.size ≤ sizeLine := by rw [size_of_entries he, ← Paired.length pr]; exact z
  have all := pair_keys keys hpair
  generalize hB : ks.map (fun x => x.2.1) = bs at keys all
  have hE : (es.map (·.key)).toList = bs.map Value.ref := by
    rw [← hB, Array.toList_map, he, List.map_map, List.map_map]
    rfl
  have cnt : (bs.map Value.ref).length ≤ sizeLine := by rw [← hE, Array.length_toList, Array.size_map]; exact many
  refine sorted_of (fun vs => vs = bs.map Value.ref) (fun vs e => e ▸ cnt) (fun R h => ?_) (fun vs e two y a ha up => ?_) fun vs out g g2 t e perm up up2 hg => ?_
  · exact PySem.W.kdu_collect (kdl_raw hs hx hdt) (I.ok.hd hc) ho many fun g t acc up it => h g t _ up (by rw [items_keys it, hE])
  · subst e
    refine Srt.pairs_sortable (by omega) (fun v hv => ?_) fun o' e' cl => ?_
    · obtain ⟨b, hb, rfl⟩ := List.mem_map.mp hv
      obtain ⟨i, j, hij⟩ := all b hb
      obtain ⟨_, cs, rc, oc, h1, h2, n, h3⟩ := I.hok _ _ hij
      obtain ⟨c1, c2, rfl, ⟨t1, rfl⟩, t2, rfl⟩ := vals2 rc
      exact ⟨i, j, b, oc, t1, t2, n, rfl, up _ _ h1, h2, h3⟩
    · rw [ha] at e'
      cases e'
      exact absurd (Value.type.inj cl) (by decide)
  · subst e
    have refs : ∀ u ∈ out, ∃ a, u = Value.ref a := fun u hu => by
      obtain ⟨b, -, rfl⟩ := List.mem_map.mp (perm.mem_iff.mp hu)
      exact ⟨b, rfl⟩
    obtain ⟨n, hg⟩ := hg
    have len : (out.map backV).length ≤ sizeLine := by rw [List.length_map, perm.length_eq]; exact cnt
    have I1 : Inv X pins σ H { s with heap := g } := I.kept (t' := s.toks) up
    refine ⟨.ref g.objs.size, upd H g.objs.size (.lst (out.map backV)), I1.laid (t' := t) up2 (Nat.le_refl _) (show ObjOk X.prog X.w _ _ _ (.lst (out.map backV)) from ⟨len, out, n, vals_back refs, hg⟩), rfl, q bs _ _ keys ?_ (I1.hok.fresh (Nat.le_refl _))⟩
    rw [show bs.map V.ref = (bs.map Value.ref).map backV by rw [List.map_map]; rfl]
    exact perm.map backV
end
/-! ### beginnings -/
def begL (f : Nat → Nat → Rat) (bound : Rat) : Nat → List Nat
  | 0 => [0]
  | k + 1 => if (begL f bound k).any (fun b => decide (f b (k + 1) < bound)) = true then begL f bound k ++ [k + 1] else begL f bound k
theorem begL_le (f : Nat → Nat → Rat) (bound : Rat) : ∀ k, ∀ b ∈ begL f bound k, b ≤ k
  | 0, b, h => by
    rw [show begL f bound 0 = [0] from rfl, List.mem_singleton] at h
    omega
  | k + 1, b, h => by
    rw [begL] at h
    split at h
    · rcases List.mem_append.mp h with h | h
      · have := begL_le f bound k b h
        omega
      · rw [List.mem_singleton] at h
        omega
    · have := begL_le f bound k b h
      omega
theorem begL_len (f : Nat → Nat → Rat) (bound : Rat) : ∀ k, (begL f bound k).length ≤ k + 1
  | 0 => Nat.le_refl _
  | k + 1 => by
    have ih := begL_len f bound k
    rw [begL]
    split
    · rw [List.length_append]
      show _ + 1 ≤ _
      omega
    · omega
def natV (xs : List Nat) : List V := xs.map fun i : Nat => V.int (i : Int)
@[irreducible] def spCheckB (K : PySem.W.Frag) : Sp := fun vs H Q _ => ∃ (v : V) (x : Rat), vs = [v] ∧ PtV K H v x ∧ Sz 3900 x ∧ ¬ x < 1 ∧ ∀ r H', Same H H' → r = V.non → Q r H'
@[irreducible] def spBegs (K : PySem.W.Frag) : Sp := fun vs H Q _ => ∃ (v u : V) (a : Addr) (b : Bx) (ws : List Int) (bound : Rat) (d : Bool), vs = [v, .ref a, u, .str (sd d)] ∧ BxV K H v b ∧ b.Ok 450 ∧ IntsV K H a ws ∧ WOk ws ∧ PtV K H u bound ∧ Sz 3900 bound ∧ ¬ bound < 1 ∧ ∀ L H', H L = none → Same H H' → H' L = some (.lst (natV (begL (fSh b ws d) bound ws.length))) → Q (.ref L) H'
@[irreducible] def spLBegs (K : PySem.W.Frag) : Sp := fun vs H Q _ => ∃ (u : V) (D : Addr) (n m : Nat) (f : Nat → Nat → Rat) (bound : Rat), vs = [.ref D, .int n, u] ∧ DSh K n (AllR n) f m H D ∧ n ≤ 12 ∧ (∀ i j, AllR n i j → Sz 3900 (f i j)) ∧ PtV K H u bound ∧ Sz 3900 bound ∧ ∀ L H', H L = none → Same H H' → H' L = some (.lst (natV (begL f bound n))) → Q (.ref L) H'
@[irreducible] def spBound (K : PySem.W.Frag) : Sp := fun vs H Q _ => ∃ c : Addr, vs = [.ref c] ∧ Bag H c ∧ ∀ v q H', PtV K H' v q → ¬ q < 1 → Sz 200 q → Bag H' c → Kp c H H' → Q v H'
section
variable {K : PySem.W.Frag} {H : Hp} {a : Addr} {ws : List Int} {Q : VK} {E : XK} {vs : List V} {b : Bx} {v u : V} {d : Bool} {n m : Nat}
theorem checkb_step {x : Rat} (hv : PtV K H v x) (hz : Sz n x) (hn : n ≤ 3900) (h1 : ¬ x < 1) (q : ∀ H', Same H H' → Q .non H') (hvs : vs = [v] := by rfl) : spCheckB K vs H Q E := by
  unfold spCheckB
  exact ⟨v, x, hvs, hv, hz.mono hn, h1, fun r H' s e => by rw [e]; exact q H' s⟩
theorem begs_step {bound : Rat} (hv : BxV K H v b) (hb : b.Ok n) (hn : n ≤ 450) (h : IntsV K H a ws) (hw : WOk ws) (hu : PtV K H u bound) (hz : Sz m bound) (hm : m ≤ 3900) (h1 : ¬ bound < 1) (q : ∀ L H', H L = none → Same H H' → H' L = some (.lst (natV (begL (fSh b ws d) bound ws.length))) → Q (.ref L) H') (hvs : vs = [v, .ref a, u, .str (sd d)] := by rfl) : spBegs K vs H Q E := by
  unfold spBegs
  exact ⟨v, u, a, b, ws, bound, d, hvs, hv, hb.mono hn, h, hw, hu, hz.mono hm, h1, q⟩
theorem lbegs_step {D : Addr} {f : Nat → Nat → Rat} {bound : Rat} {k : Nat} (h : DSh K n (AllR n) f m H D) (hn : n ≤ 12) (hz : ∀ i j, AllR n i j → Sz 3900 (f i j)) (hu : PtV K H u bound) (zb : Sz k bound) (hk : k ≤ 3900) (q : ∀ L H', H L = none → Same H H' → H' L = some (.lst (natV (begL f bound n))) → Q (.ref L) H') (hvs : vs = [.ref D, .int n, u] := by rfl) : spLBegs K vs H Q E := by
  unfold spLBegs
  exact ⟨u, D, n, m, f, bound, hvs, h, hn, hz, hu, zb.mono hk, q⟩
theorem bound_step {c : Addr} (hb : Bag H c) (q : ∀ v q H', PtV K H' v q → ¬ q < 1 → Sz 200 q → Bag H' c → Kp c H H' → Q v H') (hvs : vs = [.ref c] := by rfl) : spBound K vs H Q E := by
  unfold spBound
  exact ⟨c, hvs, hb, q⟩
end
theorem fSh_ge {b : Bx} {ws : List Int} {n : Nat} (hb : b.Ok n) (hW : WOk ws) (d : Bool) {i j : Nat} (h : AllR ws.length i j) : ¬ fSh b ws d i j < 1 := by
  have h1 := h.1
  have h2 := h.2
  have := rowShape_ge hb hW (first := i) (size := j - i) (by omega) (by omega) d
  unfold fSh
  grind
theorem divInt_ge1 {a c : Int} (h0 : 0 < c) (h : c ≤ a) : ¬ Rat.divInt a c < 1 := by
  have c0 := int_pos h0
  have e : Rat.divInt a c * (c : Rat) = (a : Rat) := by
    rw [Rat.divInt_eq_div, Rat.div_def, Rat.mul_assoc, Rat.inv_mul_cancel _ (by grind), Rat.mul_one]
  have a1 : (c : Rat) ≤ (a : Rat) := Rat.intCast_le_intCast.mpr h
  intro z
  have := Rat.mul_lt_mul_of_pos_right z c0
  grind
theorem one_ge : ¬ (1 : Rat) < 1 := by decide
/-- all the shapes that a dict holds, by its keys -/
theorem DSh.all {K : PySem.W.Frag} {N : Nat} {f : Nat → Nat → Rat} {m : Nat} {H : Hp} {D : Addr} (x : DSh K N (AllR N) f m H D) :
    ∃ kvs : List (List Key × V), H D = some (.dT kvs) ∧ kvs.length ≤ m ∧ (1 ≤ N → kvs ≠ []) ∧ (∀ kv ∈ kvs, ∃ i j : Int, kv.1 = [.inl i, .inl j]) ∧ ∀ kv ∈ kvs, ∃ i j, kv.1 = ky i j ∧ AllR N i j := by
  obtain ⟨kvs, h1, h2, hk, h3⟩ := x
  refine ⟨kvs, h1, h2, fun hN z => ?_, fun kv hkv => ?_, hk⟩
  · subst z
    obtain ⟨v, h4, _⟩ := h3 0 1 ⟨by omega, hN⟩
    cases h4
  · obtain ⟨i, j, e, _⟩ := hk kv hkv
    exact ⟨i, j, e⟩
theorem isKeys_mem {H : Hp} : ∀ {kvs : List (List Key × V)} {bs : List Addr}, IsKeys H kvs bs → ∀ b ∈ bs, ∃ kv ∈ kvs, H b = some (.tup (kv.1.map kV)) := by
  intro kvs bs hp
  unfold IsKeys at hp
  induction hp with
  | nil => intro b hb; cases hb
  | cons hh _ ih =>
    intro b hb
    rcases List.mem_cons.mp hb with rfl | hb
    · exact ⟨_, List.mem_cons_self, hh⟩
    · obtain ⟨kv, h1, h2⟩ := ih b hb
      exact ⟨kv, List.mem_cons_of_mem _ h1, h2⟩
theorem isKeys_len {H : Hp} {kvs : List (List Key × V)} {bs : List Addr} (h : IsKeys H kvs bs) : kvs.length = bs.length := Paired.length h
end Cc
namespace Cc
open PySem PySem.Spec PyProof.Rows L2
/-! ### k in xs, xs a list of ints -/
theorem all_flat : ∀ xs : List Int, (xs.map V.int).all flatV = true
  | [] => rfl
  | x :: r => by
    rw [List.map_cons, List.all_cons, all_flat r]
    rfl
theorem inV_ints (k : Int) : ∀ xs : List Int, inV (.int k) (xs.map V.int) = decide (k ∈ xs)
  | [] => rfl
  | x :: r => by
    have ih := inV_ints k r
    unfold inV at ih ⊢
    rw [List.map_cons, List.any_cons, ih]
    show ((x == k) || decide (k ∈ r)) = decide (k ∈ x :: r)
    by_cases e : x = k
    · subst e
      simp
    · have e2 : ¬ k = x := fun z => e z.symm
      simp [e, e2]
def rInI (K : PySem.W.Frag) : R2 := fun x y H Q => ∃ (k : Int) (p : Addr) (xs : List Int), x = .int k ∧ y = .ref p ∧ SqL K H p (xs.map V.int) ∧ ∀ r, r = decide (k ∈ xs) → Q (.bl r) H
def rNotInI (K : PySem.W.Frag) : R2 := fun x y H Q => ∃ (k : Int) (p : Addr) (xs : List Int), x = .int k ∧ y = .ref p ∧ SqL K H p (xs.map V.int) ∧ ∀ r, r = (!decide (k ∈ xs)) → Q (.bl r) H
theorem op_inI {X : Cx} : OpR X (compareOp .In) (rInI X.K) := by
  intro pins s σ H x y v u Q I rx ry h
  obtain ⟨k, p, xs, rfl, rfl, hs, q⟩ := h
  refine op_in_seq pins s σ H _ _ v u Q I rx ry ⟨p, _, rfl, .inl hs, rfl, all_flat xs, ?_⟩
  show Q (.bl (inV (.int k) (xs.map V.int))) H
  exact q _ (inV_ints k xs)
theorem op_notInI {X : Cx} : OpR X (compareOp .NotIn) (rNotInI X.K) := by
  intro pins s σ H x y v u Q I rx ry h
  obtain ⟨k, p, xs, rfl, rfl, hs, q⟩ := h
  refine op_notIn_seq pins s σ H _ _ v u Q I rx ry ⟨p, _, rfl, .inl hs, rfl, all_flat xs, ?_⟩
  show Q (.bl (!inV (.int k) (xs.map V.int))) H
  exact q _ (by rw [inV_ints])
/-! ### what shuts a bound -/
def ShutP (f : Nat → Nat → Rat) (n : Nat) (bound : Rat) (xs : List Int) : Prop := (0 : Int) ∈ xs ∧ (n : Int) ∉ xs ∧ ∀ i j, AllR n i j → (i : Int) ∈ xs → (j : Int) ∉ xs → ¬ f i j < bound
@[irreducible] def spShuts (K : PySem.W.Frag) : Sp := fun vs H Q _ => ∃ (v u : V) (a S : Addr) (b : Bx) (ws xs : List Int) (bound : Rat) (d : Bool), vs = [v, .ref a, u, .ref S, .str (sd d)] ∧ BxV K H v b ∧ b.Ok 450 ∧ SqL K H a (ws.map V.int) ∧ WOk ws ∧ PtV K H u bound ∧ Sz 3900 bound ∧ ¬ bound < 1 ∧ SqL K H S (xs.map V.int) ∧ xs.length ≤ 60 ∧ ∀ (k : Bool) H', Same H H' → (k = true ↔ ShutP (fSh b ws d) ws.length bound xs) → Q (.bl k) H'
@[irreducible] def spLShut (K : PySem.W.Frag) : Sp := fun vs H Q _ => ∃ (u : V) (D S : Addr) (n m : Nat) (f : Nat → Nat → Rat) (bound : Rat) (xs : List Int), vs = [.ref D, .int n, u, .ref S] ∧ DSh K n (AllR n) f m H D ∧ n ≤ 12 ∧ (∀ i j, AllR n i j → Sz 3900 (f i j)) ∧ PtV K H u bound ∧ Sz 3900 bound ∧ SqL K H S (xs.map V.int) ∧ ∀ (k : Bool) H', Same H H' → (k = true ↔ ShutP f n bound xs) → Q (.bl k) H'
section
variable {K : PySem.W.Frag} {H : Hp} {a S : Addr} {ws xs : List Int} {Q : VK} {E : XK} {vs : List V} {b : Bx} {v u : V} {d : Bool} {n m : Nat}
theorem shuts_step {bound : Rat} (hv : BxV K H v b) (hb : b.Ok n) (hn : n ≤ 450) (h : SqL K H a (ws.map V.int)) (hw : WOk ws) (hu : PtV K H u bound) (hz : Sz m bound) (hm : m ≤ 3900) (h1 : ¬ bound < 1) (hS : SqL K H S (xs.map V.int)) (hx : xs.length ≤ 60) (q : ∀ (k : Bool) H', Same H H' → (k = true ↔ ShutP (fSh b ws d) ws.length bound xs) → Q (.bl k) H') (hvs : vs = [v, .ref a, u, .ref S, .str (sd d)] := by rfl) : spShuts K vs H Q E := by
  unfold spShuts
  exact ⟨v, u, a, S, b, ws, xs, bound, d, hvs, hv, hb.mono hn, h, hw, hu, hz.mono hm, h1, hS, hx, q⟩
theorem lshut_step {D : Addr} {f : Nat → Nat → Rat} {bound : Rat} {k : Nat} (h : DSh K n (AllR n) f m H D) (hn : n ≤ 12) (hz : ∀ i j, AllR n i j → Sz 3900 (f i j)) (hu : PtV K H u bound) (zb : Sz k bound) (hk : k ≤ 3900) (hS : SqL K H S (xs.map V.int)) (q : ∀ (k : Bool) H', Same H H' → (k = true ↔ ShutP f n bound xs) → Q (.bl k) H') (hvs : vs = [.ref D, .int n, u, .ref S] := by rfl) : spLShut K vs H Q E := by
  unfold spLShut
  exact ⟨u, D, S, n, m, f, bound, xs, hvs, h, hn, hz, hu, zb.mono hk, hS, q⟩
end
theorem isKeys_get {H : Hp} : ∀ {kvs : List (List Key × V)} {bs : List Addr}, IsKeys H kvs bs → ∀ kv ∈ kvs, ∃ b ∈ bs, H b = some (.tup (kv.1.map kV)) := by
  intro kvs bs hp
  unfold IsKeys at hp
  induction hp with
  | nil => intro b hb; cases hb
  | cons hh _ ih =>
    intro kv hkv
    rcases List.mem_cons.mp hkv with rfl | hkv
    · exact ⟨_, List.mem_cons_self, hh⟩
    · obtain ⟨b, h1, h2⟩ := ih kv hkv
      exact ⟨b, List.mem_cons_of_mem _ h1, h2⟩
theorem valV_mem {kvs : List (List Key × V)} {k : List Key} {v : V} (h : valV kvs k = some v) : ∃ kv ∈ kvs, kv.1 = k := by
  have e := valV_any k kvs
  rw [h] at e
  obtain ⟨kv, h1, h2⟩ := List.any_eq_true.mp e
  exact ⟨kv, h1, of_decide_eq_true h2⟩
end Cc
set_option maxHeartbeats 4000000
/-! XTry: several clauses «except C as e», e's class told only when it comes; e.f there. -/
namespace L2
open PySem PySem.Spec PyProof.Rows
/-- the ends of a suite: the clause's name goes at each -/
def goEnds (i : Nat) (D : Ends) : Ends where
  nx := fun τ G => D.nx (τ.set i none) G
  rt := D.rt
  bk := fun τ G => D.bk (τ.set i none) G
  ct := fun τ G => D.ct (τ.set i none) G
abbrev Clause := Value × (Addr → Value → Option Addr → TS)
/-- what the clauses, all by the name in slot i, wish of an exception of the body -/
def wNamed (K : PySem.W.Frag) (i : Nat) (Wout : WX) (D : Ends) : List Clause → WX
  | [] => Wout
  | q :: r => fun cls d τ G => ∃ b, PySem.W.exmOne K cls q.1 = some b ∧ (b = true → ∀ x, G x = none → q.2 x cls d (goEnds i D) (τ.set i (some (.ref x))) G) ∧ (b = false → wNamed K i Wout D r cls d τ G)
inductive Clauses (X : Cx) (n : Str) : List ExceptHandler → List Clause → Prop
  | nil : Clauses X n [] []
  | cons {x : Str} {c : Value} {ts : Addr → Value → Option Addr → TS} {st₀ : Stmt} {su : List Stmt} {np hp : Pos} {hs : List ExceptHandler} {l : List Clause} (nm : Names X x c)
      (ok : ∀ (e : Addr) (oe : Obj) (cls : Value) (d : Option Addr) (pn : List (Addr × Obj)), Zc cls d oe → (∃ vs, oe.data = .fields vs) → PSs (X.suite e ((e, oe) :: pn)) (st₀ :: su) (ts e cls d)) (more : Clauses X n hs l) :
      Clauses X n (.ExceptHandler (some (.Name x np)) (some n) (st₀ :: su) hp :: hs) ((c, ts) :: l)
section
variable {X : Cx} {pins : List (Addr × Obj)} {τ : St} {G : Hp} {cls : Value} {d : Option Addr} {x : Addr} {B : Heap} {z : Shared}
/-- an exception on its way over X's frame, its flight noted by none -/
structure Air (X : Cx) (pins : List (Addr × Obj)) (τ : St) (G : Hp) (cls : Value) (d : Option Addr) (x : Addr) (B : Heap) (z0 z : Shared) : Prop where
  inv : Inv X pins τ G z0
  gnd : ∀ b o, z0.heap.get? b = some o → b ∉ frs X.stack → B.get? b = some o
  ups : z0.heap.UpToSlots z.heap
  fly : HandSPX.FlyingZ B (X.env :: X.outer) x (Zc cls d) z.heap
  new : G x = none
  os : z.os = z0.os
  bare : AllBare z.gens
theorem Air.at_ {z0 : Shared} (w : Air X pins τ G cls d x B z0 z) : Inv X pins τ G z := w.inv.landed w.gnd w.fly.1 w.ups w.os w.bare
theorem Air.no_frame {z0 : Shared} (w : Air X pins τ G cls d x B z0 z) {o : Obj} {vs : Array Value} (e : z.heap.get? x = some o) (f : o.data = .fields vs) : x ∉ frs (X.env :: X.outer) := fun hm => by
  obtain ⟨_, o2, e2, no⟩ := w.fly.2.2.1.mem hm
  rw [e] at e2
  cases e2
  exact no _ f
theorem Air.suite {z0 : Shared} (w : Air X pins τ G cls d x B z0 z) (hf : X.env.frame = some X.env.locals) : ∃ oe, Zc cls d oe ∧ (∃ vs, oe.data = .fields vs) ∧ Inv (X.suite x ((x, oe) :: (X.pn ++ pins))) [] τ G z ∧ z.heap.get? x = some oe := by
  obtain ⟨oe, vs, e, hz, dt⟩ := w.fly.there
  have nf := w.no_frame e dt
  refine ⟨oe, hz, ⟨vs, dt⟩, w.at_.suite e dt w.new (fun q => nf (List.mem_filterMap.mpr ⟨X.env, List.mem_cons_self, by rw [hf, q]⟩)) (fun hm => ?_), e⟩
  obtain ⟨v, hv, q⟩ := List.mem_filterMap.mp hm
  exact nf (List.mem_filterMap.mpr ⟨v, List.mem_cons_of_mem _ hv, q⟩)
/-- the class that a clause names is looked up -/
theorem Air.named {z0 : Shared} (w : Air X pins τ G cls d x B z0 z) (hf : X.env.frame = some X.env.locals) {y : Str} {c : Value} {np : Pos} (nm : Names X y c) {R : Value → Shared → Prop} {F : Value → Shared → Prop} (r : R c z) :
    wpAny (model X.prog X.w) (X.A.mark (some (.ref x))) (eval (.Name y np) X.env) R F z := by
  obtain ⟨oe, _, _, S, _⟩ := w.suite hf
  obtain ⟨g, db, h | ⟨h, v, nn⟩⟩ := nm
  · exact ld_glob (X := X.suite x ((x, oe) :: (X.pn ++ pins))) S g h r db
  · exact ld_blt (X := X.suite x ((x, oe) :: (X.pn ++ pins))) S g h v r nn db
/-- no clause is its own: it goes on -/
theorem Air.on {z0 : Shared} {Wout : WX} {D : Ends} (w : Air X pins τ G cls d x B z0 z) (hs : X.stack = X.env :: X.outer) (hf : X.env.frame = some X.env.locals) (tk : Takes X Wout) (q : Wout cls d τ G) :
    wpAny (model X.prog X.w) X.A (handleBy (.ref x) X.env []) (SP X pins D) X.xe z := by
  refine wpAny_handleBy_nil ?_
  obtain ⟨_, _, _, oe, vs, T, oT, ts, e, _, dt, h1, _⟩ := id w.fly
  have go : wpAny (model X.prog X.w) X.A (setFlight (.ref x) X.env.frame) (fun _ y => wpAny (model X.prog X.w) X.A (throw (.ref x) : Sem Flow) (SP X pins D) X.xe y) X.xe z := by
    rw [hf]
    refine HandSPX.setFlight_upZ w.fly fun g hg ug => wpAny_throw (tk _ _ ?_)
    exact ⟨x, B, z0, pins, τ, G, cls, d, rfl, w.inv, w.gnd, w.ups.trans ug, .inr (.inr (by rw [hs]; exact hg)), w.new, w.os, w.bare, q⟩
  unfold PySem.passOn
  refine wpAny_bind (wpAny_field e dt h1 ?_)
  rw [if_neg (show ¬ ((Value.ref T == Value.none) = true) by simp)]
  first
    | exact wpAny_bind (wpAny_pure (wpAny_bind go))
    | exact wpAny_bind go
/-- the clauses one by one -/
theorem Air.by_ {z0 : Shared} {Wout : WX} {D : Ends} {n : Str} {i : Nat} (hs : X.stack = X.env :: X.outer) (hf : X.env.frame = some X.env.locals) (hN : X.N.Nodup) (hi : X.N[i]? = some n) (hl : X.env.kindOf n = some .local) (tk : Takes X Wout)
    (w : Air X pins τ G cls d x B z0 z) {hds : List ExceptHandler} {l : List Clause} (hk : Clauses X n hds l) (q : wNamed X.K i Wout D l cls d τ G) : wpAny (model X.prog X.w) X.A (handleBy (.ref x) X.env hds) (SP X pins D) X.xe z := by
  induction hk with
  | nil => exact w.on hs hf tk q
  | @cons y c ts st₀ su np hp hds' l' nm ok more ih =>
    obtain ⟨b, hb, yes, no⟩ := q
    obtain ⟨oe, hz, hd, _, e⟩ := w.suite hf
    have lk : PySem.W.Looks (model X.prog X.w) z.heap (typeOf (.ref x)) cls := fun _ _ _ _ k r => wpAny_typeOf_ref (k _ _ e) (by rw [hz.1]; exact r)
    have lm := PySem.W.exm_one (M := model X.prog X.w) w.at_.kIn lk hb
    refine wpAny_handleBy_cons (codeAny_handlers_test (w.named hf nm (lm.here ?_))) (by intro r; cases r)
    cases b with
    | false => exact ih (no rfl)
    | true =>
      refine codeAny_handlers_suite_as (HandSPX.lands_againZ w.fly fun g fl ug => ?_)
      have w2 : Air X pins τ G cls d x B z0 { z with heap := g } := ⟨w.inv, w.gnd, w.ups.trans ug, fl, w.new, w.os, w.bare⟩
      obtain ⟨o2, hz2, hd2, S2, _⟩ := w2.suite hf
      refine store_ok (X := X.suite x ((x, o2) :: (X.pn ++ pins))) (v := .ref x) S2 hN hi (.inl hl) rfl (fun y5 S5 => ?_) (.inr hl)
      have shut : ∀ {τ6 : St} {G6 : Hp} {R : Shared → Prop} {y6 : Shared}, Inv (X.suite x ((x, o2) :: (X.pn ++ pins))) [] τ6 G6 y6 → (∀ y7, Inv X pins (τ6.set i none) G6 y7 → R y7) →
          wpAny (model X.prog X.w) X.A (do bindName X.env n .none; unbindBehindTheSuite X.env n hp) (fun _ y7 => R y7) X.xe y6 := fun {τ6 G6 R y6} S6 r => gone_ok (S6.unsuite w.inv.ok) hN hi hl r
      refine wpAny_mono ((ok x o2 cls d (X.pn ++ pins) hz2 hd2).run [] y5 _ G _ S5 (yes rfl x w.new)) (fun f y6 fin => ?_) (fun _ _ r => False.elim r)
      cases f with
      | next =>
        obtain ⟨τ6, G6, S6, r⟩ := fin
        exact shut S6 fun _ J => ⟨_, _, J, r⟩
      | brk =>
        obtain ⟨τ6, G6, S6, r⟩ := fin
        exact shut S6 fun _ J => ⟨_, _, J, r⟩
      | cont =>
        obtain ⟨τ6, G6, S6, r⟩ := fin
        exact shut S6 fun _ J => ⟨_, _, J, r⟩
      | ret u =>
        obtain ⟨v6, τ6, G6, S6, ru, r⟩ := fin
        exact shut S6 fun _ J => ⟨_, _, _, J, ru, r⟩
/-- try: body; except C as e: ..; except C2 as e: .. -/
theorem ps_try_named {body : List Stmt} {h₀ : ExceptHandler} {hds : List ExceptHandler} {l : List Clause} {pos : Pos} {tb : WX → TS} {Wout : WX} {n : Str} {i : Nat} (hs : X.stack = X.env :: X.outer) (hf : X.env.frame = some X.env.locals) (hN : X.N.Nodup) (hi : X.N[i]? = some n) (hl : X.env.kindOf n = some .local) (tk : Takes X Wout)
    (hb : ∀ (W : WX) (pn : List (Addr × Obj)) (xe : Value → Shared → Prop), Takes (X.tr pn xe) W → PassesOwn (model X.prog X.w) X.A X.env xe → PSs (X.tr pn xe) body (tb W)) (hk : Clauses X n (h₀ :: hds) l) :
    PS X (.Try body (h₀ :: hds) [] [] pos) (fun D τ G => tb (wNamed X.K i Wout D l) D τ G) := by
  refine ⟨fun pins z τ G D I h => wpAny_Try_except ?_⟩
  have ok := I.ok
  have hfr : X.A.frames = some (X.env :: X.outer) := by rw [ok.frames, hs]
  refine wpAny_mono ((hb (wNamed X.K i Wout D l) (X.pn ++ pins) (fun e y1 => wpAny (model X.prog X.w) X.A (noteFrame e X.env) (fun _ y2 => wpAny (model X.prog X.w) X.A (setFlight e none)
    (fun _ y3 => wpAny (model X.prog X.w) X.A (handleBy e X.env (h₀ :: hds)) (SP X pins D) X.xe y3) X.xe y2) X.xe y1) (fun u y xx => ?_) PassesOwn.looking).run [] z τ G D (I.toTry _) h) (fun f y fin => ?_) (fun _ _ r => r)
  · obtain ⟨x, B, z0, pins', τ', G', cls, d, rfl, J, nb, up, sky, na, os, ag, q⟩ := xx
    show wpAny (model X.prog X.w) X.A (noteFrame (.ref x) X.env) _ _ _
    refine Sky.land Zc.steady hfr hf (show Sky B (X.env :: X.outer) x (Zc cls d) X.env.locals y.heap by rw [← hs]; exact sky) fun g fl ug => ?_
    exact Air.by_ (z := { y with heap := g }) hs hf hN hi hl tk ⟨J.ofTry ok, nb, up.trans ug, fl, na, os, ag⟩ hk q
  · cases f with
    | next =>
      obtain ⟨τ', G', J, r⟩ := fin
      exact wpAny_execs_nil ⟨τ', G', J.ofTry ok, r⟩
    | brk =>
      obtain ⟨τ', G', J, r⟩ := fin
      exact ⟨τ', G', J.ofTry ok, r⟩
    | cont =>
      obtain ⟨τ', G', J, r⟩ := fin
      exact ⟨τ', G', J.ofTry ok, r⟩
    | ret u =>
      obtain ⟨v, τ', G', J, ru, r⟩ := fin
      exact ⟨v, τ', G', J.ofTry ok, ru, r⟩
/-- e.f in a suite, of whatever class of the program's e is -/
def tFldX (K : PySem.W.Frag) (x : Addr) (cls : Value) (d : Option Addr) (f : Str) (te : TE) : TE := fun τ G Q => te τ G fun v G1 => v = .ref x ∧ ∃ (C dd : Addr) (fs : List (Str × V)) (y : V), cls = .ref C ∧ XfC K C ∧ PySem.W.findIn K (.ref C) f = some none ∧ d = some dd ∧ G1 dd = some (.xd fs) ∧ fs.lookup f = some y ∧ Q y G1
theorem pe_fldx {oe : Obj} {pn : List (Addr × Obj)} {e : Expr} {te : TE} {pos : Pos} {f : Str} (hz : Zc cls d oe) (hd : ∃ vs, oe.data = .fields vs) (he : PE (X.suite x ((x, oe) :: pn)) e te) (hb : attributeBase e f X.env (eval e X.env) = eval e X.env := by rfl) :
    PE (X.suite x ((x, oe) :: pn)) (.Attribute e f pos) (tFldX X.K x cls d f te) := by
  refine ⟨fun pins z τ G Q I h => attr_of hb (thn (he.run pins z τ G _ I h) fun u z1 hh => ?_)⟩
  obtain ⟨v, G1, I1, rv, rfl, C, dd, fs, y, rfl, T, no, rfl, ed, l, q⟩ := hh
  obtain rfl : u = Value.ref x := rv
  obtain ⟨ha, _⟩ := I1.pin (x, oe) (List.mem_append_left _ List.mem_cons_self)
  obtain ⟨vs, hd⟩ := hd
  have hx : ObjOk X.prog X.w G1 z1.heap dd (.xd fs) := I1.hok dd _ ed
  obtain ⟨mA, ns, r⟩ := hx
  obtain ⟨od, ho, hl⟩ := lookIn_ns ns
  obtain ⟨y2, e2, r2⟩ := RelO.some_of (v := y) (o := mA f) (by rw [← l]; exact r f)
  have J : PySem.W.InstAt z1.heap x oe C (some od) := ⟨ha, hz.1, by unfold PySem.W.notCls; rw [hd] <;> rfl, by rw [hz.2]; exact ho⟩
  exact HandSPX.exc_get I1.kIn J T.ga T.gg T.exC (PySem.W.findObj_own T.hdC no rfl (by rw [hl, e2])) (handed_of r2) ⟨y, G1, I1.tok _, r2, q⟩
end
end L2
set_option maxHeartbeats 4000000
/-! XLam: a lambda without parameters handed to a def that asks it, or hands it on to another that does. -/
namespace LamX
open PySem PySem.Spec PyProof.Rows L2
theorem un_comp {fs fs' : List Addr} {H H1 H2 : Hp} {h h1 h2 : Heap} (a : Un fs [] H H1 h h1) (b : Un fs' [] H1 H2 h1 h2) (hs : ∀ c ∈ fs', c ∈ fs ∨ h.get? c = none) : Un fs [] H H2 h h2 where
  keep := fun c ob q n hc hx => b.keep c ob (a.keep c ob q n hc hx) (a.free c ob q n hx) (fun z => (hs c z).elim hc fun e => by rw [q] at e; cases e) hx
  slot := fun c ob q n hc hx => by
    obtain ⟨sl, e⟩ := a.slot c ob q n hc hx
    obtain ⟨sl2, e2⟩ := b.any e (a.free c ob q n hx) hx
    exact ⟨sl2, e2⟩
  free := fun c ob q n hx => by
    obtain ⟨o', e⟩ := a.there c ob q hx
    exact b.free c o' e (a.free c ob q n hx) hx
  there := fun c ob q hx => by
    obtain ⟨o', e⟩ := a.there c ob q hx
    exact b.there c o' e hx
  tups := fun c xs e => b.tups c xs (a.tups c xs e)
  frzs := fun c o u e => b.frzs c o u (a.frzs c o u e)
  tbls := fun c ps e => by
    obtain ⟨m1, e1⟩ := a.tbls c ps e
    obtain ⟨m2, e2⟩ := b.tbls c _ e1
    exact ⟨m1 ++ m2, by rw [e2, Array.append_assoc]⟩
/-- what f is worth when it is called from any frames above fs, the heap s (told by H) being theirs -/
structure Acts (P : Program) (w : World) (K : PySem.W.Frag) (mg : Str → Option Value) (base : Heap) (fs : List Addr) (s : Shared) (H : Hp) (f c' : Addr) (q : Str) (j : Nat) (tl : XK → Hp → VK → Prop) : Prop where
  no : H f = none
  nf : f ∉ fs
  fn : PySem.W.FnAt f s.heap
  run : ∀ (A : Around) (outer : List Env) (s1 : Shared) (G : Hp) (Q : VK) (E : XK), Room j A → Env0 P w K mg base A outer s1 G → Un fs [] H G s.heap s1.heap → G c' = some (CodeO c' q) → tl E G Q →
    codeAny (model P w) A (.call (.ref f) ⟨[], []⟩) (CR (L2.CX P w) outer P w G s1 Q E) s1
section
variable {P : Program} {w : World} {K : PySem.W.Frag} {mg : Str → Option Value} {base : Heap} {fs fs' : List Addr} {s s1 : Shared} {H H1 : Hp} {f c' : Addr} {q : Str} {j : Nat} {tl : XK → Hp → VK → Prop}
theorem fnAt_un (a : Acts P w K mg base fs s H f c' q j tl) (u : Un fs [] H H1 s.heap s1.heap) : PySem.W.FnAt f s1.heap := by
  obtain ⟨oc, od, fd, sl, e⟩ := a.fn
  exact ⟨oc, od, fd, sl, u.keep f _ e a.no a.nf (by simp)⟩
theorem Acts.later (a : Acts P w K mg base fs s H f c' q j tl) (u : Un fs [] H H1 s.heap s1.heap) (hs : ∀ c ∈ fs', c ∈ fs ∨ s.heap.get? c = none) : Acts P w K mg base fs' s1 H1 f c' q j tl := by
  obtain ⟨oc, od, fd, sl, e⟩ := a.fn
  exact ⟨u.free f _ e a.no (by simp), fun z => (hs f z).elim a.nf (fun n => by rw [e] at n; cases n), fnAt_un a u, fun A outer s2 G Q E hr e0 u2 hc ht => a.run A outer s2 G Q E hr e0 (un_comp u u2 hs) hc ht⟩
theorem Acts.mono {k : Nat} (a : Acts P w K mg base fs s H f c' q j tl) (h : j ≤ k) : Acts P w K mg base fs s H f c' q k tl := ⟨a.no, a.nf, a.fn, fun A outer s1 G Q E hr => a.run A outer s1 G Q E (hr.mono h)⟩
end
/-- a lambda that was made in X -/
theorem acts_lam {X : Cx} {pins : List (Addr × Obj)} {σ : L2.St} {H : Hp} {s : Shared} {f c' : Addr} {pm ctv : Value} {params : Arguments} {body : Expr} {scope : Scope} {k : Nat} {t : XK → TE} (I : Inv X pins σ H s) (L : LamS X.env.scope scope)
    (hf : s.heap.get? f = some (PySem.W.kla_obj "<lambda>" (X.env.qual ++ "<lambda>") params body scope (cloFrom X.env.cells scope.names []) pm c' ctv)) (hfn : H f = none) (hfr : f ∉ frs X.stack)
    (hbind : bindArgs (PySem.W.kla_fn "<lambda>" (X.env.qual ++ "<lambda>") params body scope (cloFrom X.env.cells scope.names []) pm (.ref c') ctv) ⟨[], []⟩ = pure [])
    (hbody : ∀ (A : Around) (outer : List Env) (s : Shared) (H : Hp) (E : XK), Room k (A.deeper (lamEnv X scope s.heap.objs.size f c')) → PE (lamCx X A outer s H E scope f c') body (t E)) :
    Acts X.prog X.w X.K X.mg X.base (frs X.stack) s H f c' (X.env.qual ++ "<lambda>") (k + 1) (fun E G Q => t E σ G Q) := by
  refine ⟨hfn, hfr, ⟨_, _, _, _, hf⟩, fun A outer s1 G Q E hr e0 un hc ht => ?_⟩
  have of1 := un.keep f _ hf hfn hfr (by simp)
  have lim : s1.heap.NoLimit := e0.mod.nolimit.keeps fun b o e => (e0.bs b o e).1
  obtain ⟨⟨oc, vs, tk, hoc, hdc, hvc⟩, _, _⟩ := e0.hok c' _ hc
  refine PySem.W.kla_callFunE hr.depth of1 rfl L.co L.gen rfl ⟨c', oc, vs, tk, rfl, hoc, hdc, hvc⟩ ?_
  rw [hbind]
  refine wpAny_pure (wpAny_newFunctionEnv (fun y hy => (L.own y hy).2) (fun y hy => absurd hy (by simp)) (fun g hns hsb => ⟨lim.fresh _ hsb, ?_⟩) L.kind)
  show codeAny _ _ (.expr body (lamEnv X scope s1.heap.objs.size f c')) _ _
  have kp : ∀ b o, s1.heap.get? b = some o → g.get? b = some o := fun b o e => hsb.extBut b o (Nat.ne_of_lt (Heap.lt_size e)) (Heap.get?_push_of_some _ e)
  have J := lam_start2 (tk := s1.toks + ([] : List (Str × Value)).length) (E := E) (f := f) (c' := c') I L e0 hr.hd un hns kp
  refine PySem.W.kla_codeExpr (wpAny_mono ((hbody A outer s1 G E (hr.deeper _)).run [] _ _ G Q J ht) (fun v s' r => ?_) fun e s' r => r)
  obtain ⟨v', G', J', rv, r⟩ := r
  exact ⟨v', G', J'.os, J'.bare, J'.base, J'.hok, rv, r⟩
/-- x(), x the name that holds the lambda -/
def tAct (i : Nat) (f c' : Addr) (tl : XK → Hp → VK → Prop) (q : Str) (W : WX) : TE := fun σ G Q => σ[i]? = some (some (.ref f)) ∧ G c' = some (CodeO c' q) ∧ ∃ (E : XK) (R : VK), (∀ cls d G', E cls d G' → W cls d σ G') ∧ (∀ v G', R v G' → Q v G') ∧ tl E G R
theorem pe_acts {Y : Cx} {f c' : Addr} {q x : Str} {i j : Nat} {tl : XK → Hp → VK → Prop} {W : WX} {p1 p2 : Pos} (a : Acts Y.prog Y.w Y.K Y.mg Y.base Y.fs Y.s_0 Y.H_0 f c' q j tl) (hex : Y.ex = []) (hr : Room j Y.A) (tk : Takes Y W)
    (hN : Y.N[i]? = some x) (hv : Vis Y.env.scope x) (hd : (x == ("__debug__" : Str)) = false := by decide) (hcd : (x == ("__classdict__" : Str)) = false := by decide) : PE Y (.Call (.Name x p1) [] [] p2) (tAct i f c' tl q W) := by
  refine ⟨fun pins z σ G Q I h => ?_⟩
  obtain ⟨hs, hc, E, R, hE, hR, ht⟩ := h
  refine wpAny_Call_Name_kw (thn ((pe_var (pos := p1) hN hv hd hcd).run pins z σ G (fun v G1 => v = .ref f ∧ G1 = G) I ⟨.ref f, hs, rfl, rfl⟩) fun u z1 ⟨v, G1, I1, r1, ev, eG⟩ => ?_)
  subst ev
  rw [eG] at I1
  obtain rfl : u = Value.ref f := r1
  have un : Un Y.fs [] Y.H_0 G Y.s_0.heap z1.heap := by
    have u := I1.base
    rw [hex] at u
    exact u
  refine PySem.W.callWith_F0 (fnAt_un a un) ?_
  refine wpAny_call (codeAny_mono (a.run Y.A Y.stack z1 G R E hr I1.env0 un hc ht) fun r z2 hq => ?_)
  cases r with
  | error e => exact tk e z2 (XE.of_call I1 hE hq)
  | ok fl =>
    cases fl with
    | ret u =>
      obtain ⟨v2, G2, I2, r2, q2⟩ := I1.after hq
      exact ⟨v2, G2, I2, r2, hR _ _ q2⟩
    | next => exact False.elim hq
    | brk => exact False.elim hq
    | cont => exact False.elim hq
abbrev TAsk := (XK → Hp → VK → Prop) → Hp → VK → Prop
/-- the def at g: what it makes of a lambda that it is handed -/
def AskOk (P : Program) (w : World) (K : PySem.W.Frag) (mg : Str → Option Value) (base : Heap) (k : Nat) (g : Addr) (TT : TAsk) : Prop :=
  ∀ (j : Nat) (A : Around) (outer : List Env) (s : Shared) (H : Hp) (f c' : Addr) (q : Str) (tl : XK → Hp → VK → Prop) (Q : VK), Room (j + k) A → Env0 P w K mg base A outer s H → Acts P w K mg base (frs outer) s H f c' q j tl → H c' = some (CodeO c' q) → TT tl H Q →
    codeAny (model P w) A (.call (.ref g) ⟨[.ref f], []⟩) (CR L2.CX0 outer P w H s Q L2.E0) s
/-- by its body -/
theorem ask_of {P : Program} {w : World} {K : PySem.W.Frag} {mg : Str → Option Value} {base : Heap} {x a : Str} {st : Stmt} {g : Addr} {fd : FuncData} {N : List Str} {k : Nat} {TT : TAsk} (F : Fun K x x st g fd) (S : FnScope N [a] (defScope st)) (hb : Binds K fd [a] [])
    (hbody : ∀ (cdv : Value) (j : Nat) (A : Around) (outer : List Env) (s : Shared) (H : Hp) (f c' : Addr) (q : Str) (tl : XK → Hp → VK → Prop) (Q : VK), Room (j + k) (A.deeper (envOfC x (defScope st) s.heap.objs.size g cdv)) → Acts P w K mg base (frs outer) s H f c' q j tl → H c' = some (CodeO c' q) → TT tl H Q →
      ∃ t, PSs (cxOf L2.CX0 P w K mg base N x (defScope st) g cdv A outer s H L2.E0).nox (defBody st) t ∧ t { nx := fun _ H' => Q .non H', rt := Q } (L2.start N [.ref f]) H) : AskOk P w K mg base (k + 1) g TT := by
  intro j A outer s H f c' q tl Q hr e0 ac hc hT
  obtain ⟨oc, od, kV, doc, pm, an, cdv, ct, osl, rfl, lk, hcd⟩ := F.ex
  have KX : K.In s.heap := e0.mod.kin.keeps fun b o e => (e0.bs b o e).1
  refine run_ofS (N := N) (ps := [a]) (us := [.ref f]) (vs := [.ref f]) (k := j + k) lk hcd S hr e0 (hb s [.ref f] KX rfl) (.cons rfl .nil) rfl fun hr' => ?_
  obtain ⟨t, ht, hq⟩ := hbody cdv j A outer s H f c' q tl Q hr' ac hc hT
  exact ⟨t, ht.nox, hq⟩
/-- g(x), x the name that holds the lambda -/
def tAskV (i : Nat) (f c' : Addr) (q : Str) (tl : XK → Hp → VK → Prop) (TT : TAsk) : TE := fun σ G Q => σ[i]? = some (some (.ref f)) ∧ G c' = some (CodeO c' q) ∧ TT tl G Q
theorem pe_askv {Y : Cx} {g f c' : Addr} {q y x : Str} {i j k : Nat} {tl : XK → Hp → VK → Prop} {TT : TAsk} {p1 p2 p3 : Pos} (D : AskOk Y.prog Y.w Y.K Y.mg Y.base k g TT) (hg : Gl Y y) (hm : Y.mg y = some (.ref g)) (hk : PySem.W.keepIn Y.K (.ref g) = true)
    (a : Acts Y.prog Y.w Y.K Y.mg Y.base Y.fs Y.s_0 Y.H_0 f c' q j tl) (hex : Y.ex = []) (hfs : ∀ c ∈ frs Y.stack, c ∈ Y.fs ∨ Y.s_0.heap.get? c = none) (hr : Room (j + k) Y.A) (hN : Y.N[i]? = some x) (hv : Vis Y.env.scope x)
    (hdb : (y == ("__debug__" : Str)) = false := by decide) (hd : (x == ("__debug__" : Str)) = false := by decide) (hcd : (x == ("__classdict__" : Str)) = false := by decide)
    (he : starEach [Expr.Name x p2] Y.env = (false, eval (Expr.Name x p2) Y.env) :: starEach [] Y.env := by rfl) (hpl : (backTo p3 (starEach [] Y.env)).any (·.1) = false := by rfl) :
    PE Y (.Call (.Name y p1) [.Name x p2] [] p3) (tAskV i f c' q tl TT) := by
  refine ⟨fun pins z σ G Q I h => ?_⟩
  obtain ⟨hs, hc, ht⟩ := h
  refine wpAny_Call_Name_kw (ld_glob I hg hm ?_ hdb)
  refine PySem.W.callWith_K (h₀ := Y.base) I.ok.mod.kin hk (thn ((pa_cons (pe_var (pos := p2) hN hv hd hcd) pa_nil).run p3 pins z σ G (fun vs G1 => vs = [.ref f] ∧ G1 = G) I ⟨.ref f, hs, rfl, rfl⟩) fun us z1 ⟨vs, G1, I1, r1, ev, eG⟩ => ⟨I1.kIn, ?_⟩) he hpl
  subst ev
  rw [eG] at I1
  obtain ⟨u0, rfl, r0⟩ := r1.one
  obtain rfl : u0 = Value.ref f := r0
  have un : Un Y.fs [] Y.H_0 G Y.s_0.heap z1.heap := by
    have u := I1.base
    rw [hex] at u
    exact u
  show wpAny _ _ (call (.ref g) [.ref f]) _ _ _
  refine wpAny_call (codeAny_mono (D j Y.A Y.stack z1 G f c' q tl Q hr I1.env0 (a.later un hfs) hc ht) fun r z2 hq => ?_)
  cases r with
  | error e => exact (show False from hq).elim
  | ok fl =>
    cases fl with
    | ret u => exact I1.after hq
    | next => exact False.elim hq
    | brk => exact False.elim hq
    | cont => exact False.elim hq
/-- the frames of a def's context -/
theorem frs_cx {CXg : CXT} {P : Program} {w : World} {K : PySem.W.Frag} {mg : Str → Option Value} {base : Heap} {N : List Str} {x : Str} {sg : Scope} {g : Addr} {cdv : Value} {A : Around} {outer : List Env} {s : Shared} {H : Hp} {E : XK} :
    ∀ c ∈ frs (cxOf CXg P w K mg base N x sg g cdv A outer s H E).stack, c ∈ (cxOf CXg P w K mg base N x sg g cdv A outer s H E).fs ∨ (cxOf CXg P w K mg base N x sg g cdv A outer s H E).s_0.heap.get? c = none := fun c hc => by
  obtain ⟨v, hv, e⟩ := List.mem_filterMap.mp hc
  rcases List.mem_cons.mp hv with rfl | hv
  · have e' : some s.heap.objs.size = some c := e
    cases e'
    refine .inr ?_
    show s.heap.get? s.heap.objs.size = none
    cases z : s.heap.get? s.heap.objs.size with
    | none => rfl
    | some o => exact absurd (Heap.lt_size z) (Nat.lt_irrefl _)
  · exact .inl (List.mem_filterMap.mpr ⟨v, hv, e⟩)
theorem frs_nox {CXg : CXT} {P : Program} {w : World} {K : PySem.W.Frag} {mg : Str → Option Value} {base : Heap} {N : List Str} {x : Str} {sg : Scope} {g : Addr} {cdv : Value} {A : Around} {outer : List Env} {s : Shared} {H : Hp} {E : XK} :
    ∀ c ∈ frs (cxOf CXg P w K mg base N x sg g cdv A outer s H E).nox.stack, c ∈ (cxOf CXg P w K mg base N x sg g cdv A outer s H E).nox.fs ∨ (cxOf CXg P w K mg base N x sg g cdv A outer s H E).nox.s_0.heap.get? c = none :=
  frs_cx (CXg := CXg) (P := P) (w := w) (K := K) (mg := mg) (base := base) (N := N) (x := x) (sg := sg) (g := g) (cdv := cdv) (A := A) (outer := outer) (s := s) (H := H) (E := E)
/-- g(lambda: body) in the def that has the names -/
theorem pe_asklam {X : Cx} {T : List (Addr × Str)} {TT : TAsk} {y : Str} {g c P : Addr} {k j : Nat} {params : Arguments} {body : Expr} {scope : Scope} {t : XK → TE} {p lpos pos : Pos} (D : AskOk X.prog X.w X.K X.mg X.base k g TT) (hg : Gl X y) (hm : X.mg y = some (.ref g)) (hk : PySem.W.keepIn X.K (.ref g) = true)
    (TB : TabB X.base X.mg c P) (hcode : X.env.code = .ref c) (hmT : (P, X.env.qual ++ "<lambda>") ∈ T) (hu : ∀ p ∈ T, p.1 = P → p.2 = X.env.qual ++ "<lambda>") (hr : Room (j + 1 + k) X.A) (L : LamS X.env.scope scope) (hdef : defaultsOf params X.env = ([], []))
    (hbind : ∀ (q : Str) (cl : List (Str × Addr)) (pm cv ctv : Value), bindArgs (PySem.W.kla_fn "<lambda>" q params body scope cl pm cv ctv) ⟨[], []⟩ = pure [])
    (hbody : ∀ (A : Around) (outer : List Env) (s : Shared) (H : Hp) (E : XK) (f c' : Addr), Room j (A.deeper (lamEnv X scope s.heap.objs.size f c')) → PE (lamCx X A outer s H E scope f c') body (t E)) (hdb : (y == ("__debug__" : Str)) = false := by decide) :
    PE X (.Call (.Name y p) [.Lambda params body scope lpos] [] pos) (tLam T TT t) := by
  refine ⟨fun pins z σ H Q I h => ?_⟩
  obtain ⟨hT, h⟩ := h
  refine wpAny_Call_Name_kw (ld_glob I hg hm ?_ hdb)
  refine PySem.W.callWith_K (h₀ := X.base) I.ok.mod.kin hk ?_ (by rfl) (by rfl)
  show wpAny _ _ (spliced ((false, eval (.Lambda params body scope lpos) X.env) :: backTo pos (starEach [] X.env))) _ _ z
  refine Calls.spliced_cons (lam_make2 I TB hcode hmT hu hT hdef (L.has I.ok) fun f c' pm ctv H1 z1 I1 eN T1 hf hfn hfr hco => ?_)
  refine Calls.spliced_nil ⟨I1.kIn, wpAny_call (codeAny_mono (D (j + 1) X.A X.stack z1 H1 f c' _ _ Q hr I1.env0 (acts_lam I1 L hf hfn hfr (hbind _ _ _ _ _) fun A outer s H E r => hbody A outer s H E f c' r) hco (h H1 eN T1)) fun r z2 hq => ?_)⟩
  cases r with
  | error e => exact (show False from hq).elim
  | ok fl =>
    cases fl with
    | ret u => exact I1.after hq
    | next => exact False.elim hq
    | brk => exact False.elim hq
    | cont => exact False.elim hq
end LamX
set_option maxHeartbeats 4000000
/-! XExc: an exception of the program's own, made with no argument at all. -/
namespace L2
open PySem PySem.Spec PyProof.Rows
section
variable {X : Cx} {p pos : Pos}
/-- C(), C's __init__ (its own or an inherited one) keeping sp -/
theorem pmk_none {CX : CXT} {x : Str} {C fI : Addr} {k : Nat} {fd : FuncData} {ps : List Str} {sp : Sp} {ds : List Value} {dvs : List V} (T : OexC X.K C) (iC : PySem.W.findIn X.K (.ref C) "__init__" = some (some (.ref fI))) (tI : PySem.W.typeIn X.K (.ref fI) = some (.type "function"))
    (F1 : FnOk X.prog X.w X.K X.mg X.base CX k fI fd ps sp) (hr : Room (k + 1) X.A) (hb : Binds X.K fd ps ds) (hd : Vals dvs ds) (hx : Passes CX X (fun _ _ _ => False)) (hg : Gl X x) (hm : X.mg x = some (.ref C))
    (hdb : (x == ("__debug__" : Str)) = false := by decide) :
    PMk X (.Call (.Name x p) [] [] pos) (tMkO C sp dvs tNil) := by
  intro pins s σ H Q I h
  obtain ⟨_, q1⟩ := h
  obtain ⟨nm, _, N, bs, bm, sn, sub, ab, col, dd, k0, k1, k2, k3, k5, hC, hbm⟩ := T.cls
  refine wpAny_Call_Name_kw (ld_glob I hg hm (PySem.W.callWith_K0 I.kIn T.kC ?_) hdb)
  obtain ⟨hp, g, dr, tk, os⟩ := s
  have up := Nat.le_succ hp.objs.size
  have hq := q1 _ (I.hok.fresh up)
  have kk : ∀ b o, hp.get? b = some o → ((hp.push (PySem.W.kdv_tup [])).push (PySem.HandSPX.excO C hp.objs.size)).get? b = some o := fun b o e => Heap.get?_push_of_some _ (Heap.get?_push_of_some _ e)
  have J := I.laid (t' := tk) kk up (exo_ok (C := C) (d := none) (t1 := hp.objs.size) (by heap_get))
  have r2 : Vals (V.ref (hp.objs.size + 1) :: ([] ++ dvs)) (Value.ref (hp.objs.size + 1) :: ([] ++ ds)) := .cons rfl hd
  have hl : (Value.ref (hp.objs.size + 1) :: [] ++ ds).length = ps.length := r2.length.symm.trans (F1.len _ _ _ _ hq)
  refine wpAny_call (PySem.HandSPX.call_own F.excBase_ValueError (fun Y => PySem.HandSPX.refsVE_contains Y bm hbm) (I.kIn _ _ hC) (PySem.W.looks_findIn I.kIn iC) (fun self => PySem.W.bind_fn I.kIn self tI) (Nat.zero_le _)
    (codeAny_mono (F1.run _ X.stack _ _ ⟨[Value.ref (hp.objs.size + 1)], []⟩ _ _ _ (fun _ _ _ => False) (hr.make C [] []) (J.env0.make C [] []) (hb _ _ J.kIn hl) r2 hq) fun r s' w => ?_))
  match r, w with
  | .error er, w => exact hx pins σ _ _ er s' J w
  | .ok (.ret u), ⟨_, H2, ho, hbr, un2, hok2, rv, rfl, d, fs, ea, ed, hd1, q2⟩ =>
    obtain ⟨h2, g2, d2, t2, os'⟩ := s'
    exact ⟨rv, mk_end (raises_own T.exC T.tyC) I up kk un2 hok2 ho hbr ea ed hd1 q2⟩
end
end L2
set_option maxHeartbeats 400000
/-! XName: the name of a class of the program's own. -/
namespace PySem.W
open PySem PySem.Calls PyProof.Rows Builtin Builtin.ObjectAttr Builtin.Getset_descriptor
theorem dga_own (d tp : Value) (C : Addr) : descrGetArgs ⟨[d, .ref C, tp], []⟩ = pure (d, some (.ref C), given tp) := by kernel_rfl
section
variable {prog : Program} {w : World} {A : Around} {E : Value → Shared → Prop} {s : Shared} {K : Frag} {R : Result → Shared → Prop} {C : Addr} {o : Obj} {v : Value}
theorem own_name_get {tp : Value} (X : K.In s.heap) (hc : K.lookup C = some o) (ht : typeIn K (.ref C) = some (.type "type")) (hs : o.slots[2]? = some (some v)) (h : R (.ok (.ret v)) s) :
    codeAny (model prog w) A (.call (.builtin "getset_descriptor.__get__") ⟨[.builtin "type.__name__", .ref C, tp], []⟩) R s := by
  obtain ⟨hp, g, d, t, os⟩ := s
  have T : Looks (model prog w) hp (typeOf (.ref C)) (.type "type") := looks_typeIn X ht
  have T1 : Looks (model prog w) hp (isSubtype (.type "type") (.type "type")) true := .of_pure ((isSubtype_type _ _).trans (by kernel_rfl))
  have at_ := X _ _ hc
  refine codeAny_call_builtin KF.slot_gs.plain KF.entry_gs (KF.slot_gs.check _ _ _ _ _ _ _ _ ktyn_type (KF.args_gs _ _ _) ?_)
  simp only [Builtin.«getset_descriptor.__get__», descrGet, dga_own]
  iterate 3 lk
  simp only [descrGetter, descrCheckInstance, descrNameAndClass, isInstance, ktyn_owner]
  repeat lk
  refine And.intro (Code.quiet_builtin _ (by decide +kernel)) (codeAny_builtin ktyn_entry ?_)
  simp only [Builtin.«type.__name__», keptObject, slotAt]
  refine wpAny_bind (wpAny_bind (wpAny_loadPart at_ (wpAny_pure ?_)))
  rw [hs]
  exact wpAny_pure h
theorem own_name_attr {expr : Bool} {z : Str} {tk : Tok} {Q : Value → Shared → Prop} (X : K.In s.heap) (hn : nsIn K cStatics "thirdparty.any" = some none) (hc : K.lookup C = some o) (ht : typeIn K (.ref C) = some (.type "type")) (hs : o.slots[2]? = some (some (.str z tk)))
    (e : findCls K (.ref C) (.type "type") "__name__" = some (.get (.builtin "getset_descriptor.__get__") (.builtin "type.__name__") (.ref C) (.type "type")))
    (h : ∀ u, Q (.str z tk) { s with toks := u }) : wpAny (model prog w) A (getAttr (.ref C) "__name__" expr) Q E s :=
  cls_open X (looks_opaque X hn) (looks_typeIn X ht) type_tga (looks_hook X (r := none) rfl) (show subIn K _ _ = _ from rfl) e
    (wpAny_bind (wpAny_holding (wpAny_call (own_name_get (s := { s with toks := s.toks + 1 }) X hc ht hs (wpAny_pure (handed_on rfl (h _)))))))
/-- e.__class__ of an exception that has no dict yet -/
theorem exc_class {x D : Addr} {ox : Obj} {expr : Bool} {Q : Value → Shared → Prop} (cx : findIn K (.ref D) "__getattribute__" = some (some (.builtin "BaseException.__getattribute__")) ∧ findIn K (.ref D) "__getattr__" = some none ∧ subIn K (.ref D) (.type "BaseException") = some true ∧ hasDictIn K D = true)
    (cy : findIn K (.ref D) "__class__" = some (some (.builtin "object.__class__")) ∧ specialIn K (.builtin "object.__class__") "__get__" = some (some (.builtin "getset_descriptor.__get__")) ∧ takesIn K (.builtin "object.__class__") = some true ∧ mroIn K D (.type "object") = some true)
    (X : K.In s.heap) (I : InstAt s.heap x ox D none) (h : ∀ u, Q (.ref D) { s with toks := u }) : wpAny (model prog w) A (getAttr (.ref x) "__class__" expr) Q E s := by
  obtain ⟨ga, gt, sub, dct⟩ := cx
  obtain ⟨cls, spec, tak, mro⟩ := cy
  obtain ⟨cd, isC, -⟩ := any_some dct
  have found := findObj_dataN (K := K) (C := D) (by rw [isC]; rfl) cls spec tak
  have other : (Value.builtin "BaseException.__getattribute__" == Value.builtin "object.__getattribute__") = false := by decide +kernel
  have own : (expr && onTheHeap (Value.builtin "BaseException.__getattribute__")) = false := by cases expr <;> rfl
  obtain ⟨hp, g, d, t, os⟩ := s
  have T := I.type (M := model prog w)
  have T1 := looks_findIn (M := model prog w) X ga
  have T2 := looks_findIn (M := model prog w) X gt
  have T3 := looks_find (M := model prog w) X I found
  have T4 : Looks (model prog w) hp (isInstance (.ref x) (.type "BaseException")) true := T.andThen (looks_subIn X sub)
  have heap : onTheHeap (Value.ref D) = true := rfl
  have bound := PySem.F.excAttr_ValueError.ga.bind (.ref x)
  simp only [getAttr, getAttrBy, getAttrByItsOwn, hookBefore, callGetattribute, boundAndCalled]
  repeat lk
  refine wpAny_tryCatch (wpAny_bind (wpAny_holding ?_))
  simp only [own, Bool.false_eq_true, if_false, bound]
  refine wpAny_bind (wpAny_pure (wpAny_call (codeAny_call_builtin PySem.F.excAttr_ValueError.ga.plain PySem.F.entry_bexc_ga ?_)))
  refine check_slot (s := ⟨hp, g, d, t + 1, os⟩) (i := "BaseException.__getattribute__") (owner := "BaseException") (n := "__getattribute__") (self := .ref x) (rest := [.str "__class__" t]) (kw := []) (by decide +kernel) (by decide +kernel) T4 (PySem.F.args_bexc_ga _ _) ?_
  unfold Builtin.«object.__getattribute__»
  iterate 23 lk
  refine wpAny_call (class_get (s := ⟨hp, g, d, t + 1, os⟩) (ox := ox) (od := none) X I mro (wpAny_pure ?_))
  refine wpAny_pure ?_
  show wpAny _ _ (handedOut (.ref D)) Q E _
  rw [handedOut_of (v := .ref D) rfl]
  exact wpAny_pure (h _)
end
end PySem.W
namespace L2
open PySem PySem.Spec PyProof.Rows
/-- what an exception class must say, so that the name of its class can be asked of an exception of it -/
structure NmC (K : PySem.W.Frag) (C : Addr) (z : Str) : Prop where
  c1 : PySem.W.findIn K (.ref C) "__getattribute__" = some (some (.builtin "BaseException.__getattribute__"))
  c2 : PySem.W.findIn K (.ref C) "__getattr__" = some none
  c3 : PySem.W.subIn K (.ref C) (.type "BaseException") = some true
  c4 : PySem.W.hasDictIn K C = true
  c5 : PySem.W.findIn K (.ref C) "__class__" = some (some (.builtin "object.__class__"))
  c6 : PySem.W.specialIn K (.builtin "object.__class__") "__get__" = some (some (.builtin "getset_descriptor.__get__"))
  c7 : PySem.W.takesIn K (.builtin "object.__class__") = some true
  c8 : PySem.W.mroIn K C (.type "object") = some true
  n1 : PySem.W.nsIn K cStatics "thirdparty.any" = some none
  n2 : PySem.W.typeIn K (.ref C) = some (.type "type")
  n3 : PySem.W.findCls K (.ref C) (.type "type") "__name__" = some (.get (.builtin "getset_descriptor.__get__") (.builtin "type.__name__") (.ref C) (.type "type"))
  n4 : ∃ o tk, K.lookup C = some o ∧ o.slots[2]? = some (some (.str z tk))
/-- e.__class__.__name__, e an exception in its __init__ -/
def tClsN (K : PySem.W.Frag) (te : TE) : TE := fun σ H Q => te σ H fun x H1 => ∃ (a C : Addr) (z : Str), x = .ref a ∧ H1 a = some (exo a C none) ∧ NmC K C z ∧ Q (.str z) H1
theorem pe_clsn {X : Cx} {e : Expr} {te : TE} {p pos : Pos} (he : PE X e te) (hb : attributeBase e "__class__" X.env (eval e X.env) = eval e X.env := by rfl)
    (hb' : attributeBase (.Attribute e "__class__" p) "__name__" X.env (eval (.Attribute e "__class__" p) X.env) = eval (.Attribute e "__class__" p) X.env := by rfl) :
    PE X (.Attribute (.Attribute e "__class__" p) "__name__" pos) (tClsN X.K te) := by
  refine ⟨fun pins s σ H Q I h => ?_⟩
  refine attr_of hb' (attr_of hb (thn (he.run pins s σ H _ I h) fun u s1 ⟨x, H1, I1, rx, a, C, z, ex, ea, T, q⟩ => ?_))
  subst ex
  obtain rfl : u = Value.ref a := rx
  obtain ⟨t1, ho⟩ := exo_at I1.hok ea
  obtain ⟨o, tk, hc, hs⟩ := T.n4
  refine PySem.W.exc_class ⟨T.c1, T.c2, T.c3, T.c4⟩ ⟨T.c5, T.c6, T.c7, T.c8⟩ I1.kIn ⟨ho, rfl, rfl, trivial⟩ fun k => ?_
  exact PySem.W.own_name_attr (I1.tok k).kIn T.n1 hc T.n2 hs T.n3 fun k2 => ⟨.str z, H1, (I1.tok k).tok k2, ⟨tk, rfl⟩, q⟩
end L2
set_option maxHeartbeats 4000000
/-! XAsk: what is thrown and caught by the law's asking; classes of refusals; defs that raise. -/
namespace Cc
open PySem PySem.Spec PyProof.Rows L2 LamX
/-! ### what is thrown -/
/-- which of the law's clauses takes a class -/
def Taken (K : PySem.W.Frag) (mg : Str → Option Value) (cls : Value) : Prop :=
  (∃ c, mg "CutError" = some c ∧ PySem.W.exmOne K cls c = some true) ∨ (∃ c c2, mg "CutError" = some c ∧ PySem.W.exmOne K cls c = some false ∧ mg "Missing" = some c2 ∧ PySem.W.exmOne K cls c2 = some true) ∨
    ∃ c c2 c3, mg "CutError" = some c ∧ PySem.W.exmOne K cls c = some false ∧ mg "Missing" = some c2 ∧ PySem.W.exmOne K cls c2 = some false ∧ mg "NothingLeft" = some c3 ∧ PySem.W.exmOne K cls c3 = some true
/-- an exception of the class of that name, in its dict what it says of itself -/
def Thrown (K : PySem.W.Frag) (mg : Str → Option Value) (z : Str) (cls : Value) (d : Option Addr) (H : Hp) : Prop :=
  ∃ (C dd : Addr) (fs : List (Str × V)), cls = .ref C ∧ XfC K C ∧ PySem.W.findIn K (.ref C) "called" = some none ∧ d = some dd ∧ H dd = some (.xd fs) ∧ fs.lookup ("called" : Str) = some (.str z) ∧ Taken K mg cls
/-- E takes what is thrown by that name at H -/
def Thr (K : PySem.W.Frag) (mg : Str → Option Value) (z : Str) (H : Hp) (E : XK) : Prop := ∀ cls d H', Thrown K mg z cls d H' → Same H H' → E cls d H'
theorem Thr.later {K : PySem.W.Frag} {mg : Str → Option Value} {z : Str} {H H1 : Hp} {E : XK} (t : Thr K mg z H E) (s : Same H H1) : Thr K mg z H1 E := fun cls d H' h s' => t cls d H' h (s.trans s')
/-! ### the making of a refusal without fields -/
structure ExcTxt (K : PySem.W.Frag) (mg : Str → Option Value) (x : Str) (C fI : Addr) : Prop where
  ox : OexC K C
  nm : NmC K C x
  no : PySem.W.findIn K (.ref C) "called" = some none
  iC : PySem.W.findIn K (.ref C) "__init__" = some (some (.ref fI))
  tI : PySem.W.typeIn K (.ref fI) = some (.type "function")
  mgC : mg x = some (.ref C)
  tk : Taken K mg (.ref C)
theorem nmC_xf {K : PySem.W.Frag} {C : Addr} {z : Str} (h : NmC K C z) : XfC K C := ⟨h.c1, h.c2, h.c3, h.c4⟩
/-- what __init__ of such a class makes of a new exception -/
def spOwnInit (K : PySem.W.Frag) : Sp := fun vs H Q _ => ∃ (a C : Addr) (z : Str), vs = [.ref a] ∧ H a = some (exo a C none) ∧ NmC K C z ∧ OexC K C ∧ PySem.W.findIn K (.ref C) "called" = some none ∧ ∀ d, H d = none → d ≠ a → Q .non (upd (upd H d (exd d [("called", .str z)])) a (exo a C (some d)))
section
variable {P : Program} {w : World} {K : PySem.W.Frag} {mg : Str → Option Value} {base : Heap}
/-- def __init__(self): self.called = self.__class__.__name__ -/
theorem ok_ownInit {f : Addr} {fd : FuncData} {qual : Str} {st : Stmt} {p1 p2 p3 p4 p5 p6 : Pos} (F : Fun K "__init__" qual st f fd) (S : FnScope ["self"] ["self"] (defScope st)) (hb : defBody st = [.Assign [.Attribute (.Name "self" p1) "called" p2] (.Attribute (.Attribute (.Name "self" p3) "__class__" p4) "__name__" p5) p6]) :
    FnOk P w K mg base CX0 1 f fd ["self"] (spOwnInit K) := by
  refine F.ok S (fun vs H Q E h => ?_) (fun cdv A outer s H vs Q E hr h => ?_)
  · obtain ⟨a, C, z, rfl, _⟩ := h
    rfl
  · obtain ⟨a, C, z, rfl, ha, hn, ho, no, q⟩ := h
    rw [hb]
    have vis : Vis (defScope st) "self" := (S.par "self" List.mem_cons_self).elim .inl fun z => .inr (.inl z)
    refine ⟨_, pss_one (ps_ost (pe_var (i := 0) rfl vis) (pe_clsn (pe_var (i := 0) rfl vis))), ?_⟩
    exact ⟨_, rfl, a, C, z, rfl, ha, hn, _, rfl, a, C, rfl, ho, no, .inl ⟨ha, fun d hd hne => q d hd hne⟩⟩
/-- the class as the top has left it, its __init__ walked -/
def ExcOk (P : Program) (w : World) (K : PySem.W.Frag) (mg : Str → Option Value) (base : Heap) (x : Str) : Prop := ∃ C fI fd, ExcTxt K mg x C fI ∧ FnOk P w K mg base CX0 1 fI fd ["self"] (spOwnInit K) ∧ Binds K fd ["self"] []
/-- raise C(), its reading -/
def tExc (K : PySem.W.Frag) (mg : Str → Option Value) (x : Str) : L2.St → Hp → XK → Prop := fun _ H Q => Thr K mg x H Q
theorem pmk_x {X : Cx} {x : Str} {p pos : Pos} (Z : ExcOk X.prog X.w X.K X.mg X.base x) (hr : Room 2 X.A) (hg : Gl X x) (hdb : (x == ("__debug__" : Str)) = false := by decide) : PMk X (.Call (.Name x p) [] [] pos) (tExc X.K X.mg x) := by
  obtain ⟨C, fI, fd, T, F, hb⟩ := Z
  intro pins s σ H Q I h
  refine pmk_none (CX := CX0) (dvs := []) (ds := []) T.ox T.iC T.tI F hr hb .nil (fun _ _ _ _ _ _ _ z => z.elim) hg T.mgC hdb pins s σ H Q I ⟨(show 0 ≤ 1000 by decide), fun a na => ?_⟩
  refine ⟨a, C, x, rfl, upd_same, T.nm, T.ox, T.no, fun d nd hne => ⟨rfl, d, [("called", .str x)], upd_same, ?_, ?_, ?_⟩⟩
  · rw [upd_ne hne, upd_same]
  · rw [upd_ne hne] at nd
    exact nd
  · rw [upd_ne hne] at nd
    refine h _ _ _ ⟨C, d, [("called", .str x)], rfl, nmC_xf T.nm, T.no, rfl, upd_same, rfl, T.tk⟩ fun b o e => ?_
    have b1 := ne_of_none e na
    have b2 := ne_of_none e nd
    rw [upd_ne b2, del_ne b1, upd_ne b1, upd_ne b2, upd_ne b1]
    exact e
end
/-! ### defs that raise -/
def DefOkX (P : Program) (w : World) (K : PySem.W.Frag) (mg : Str → Option Value) (base : Heap) (k : Nat) (x : Str) (ps : List Str) (sp : Sp) : Prop :=
  ∃ f fd, FnOk P w K mg base (L2.CX P w) k f fd ps sp ∧ mg x = some (.ref f) ∧ PySem.W.keepIn K (.ref f) = true ∧ Binds K fd ps []
theorem DefAt.okX {P : Program} {w : World} {K : PySem.W.Frag} {mg : Str → Option Value} {base : Heap} {x : Str} {st : Stmt} {N ps : List Str} {k : Nat} {sp : Sp} (F : DefAt K mg x st ps) (S : FnScope N ps (defScope st)) (len : ∀ vs H Q E, sp vs H Q E → vs.length = ps.length)
    (hbody : ∀ (f : Addr) (cdv : Value) (A : Around) (outer : List Env) (s : Shared) (H : Hp) (vs : List V) (Q : VK) (E : XK), Room k (A.deeper (envOfC x (defScope st) s.heap.objs.size f cdv)) → sp vs H Q E →
      ∃ t, PSs (cxOf (L2.CX P w) P w K mg base N x (defScope st) f cdv A outer s H E) (defBody st) t ∧ t { nx := fun _ H' => Q .non H', rt := Q } (start N vs) H) : DefOkX P w K mg base (k + 1) x ps sp := by
  obtain ⟨f, fd, F, hm, hb⟩ := F
  exact ⟨f, fd, F.okX S len (hbody f), hm, F.kp, hb⟩
section
variable {X : Cx} {k j : Nat} {x : Str} {ps : List Str} {sp : Sp} {p pos : Pos} {e : Expr} {es : List Expr} {t : TA} {E : XK}
/-- a call of such a def, where what it lets out is taken -/
theorem pe_callX (D : DefOkX X.prog X.w X.K X.mg X.base k x ps sp) (hr : Room j X.A) (hkj : k ≤ j) (tk : Takes X (fun cls d _ H => E cls d H)) (hg : Gl X x) (ha : PA X (e :: es) t) (hdb : (x == ("__debug__" : Str)) = false := by decide)
    (he : starEach (e :: es) X.env = (false, eval e X.env) :: starEach es X.env := by rfl) (hpl : (backTo pos (starEach es X.env)).any (·.1) = false := by rfl) :
    PE X (.Call (.Name x p) (e :: es) [] pos) (tCall sp [] E t) := by
  obtain ⟨f, fd, F, hm, hk, hb⟩ := D
  exact pe_call F (hr.mono hkj) hg hm hk hb .nil (passes_call tk fun _ _ _ _ h => h) ha hdb he hpl
end
/-! ### the law's asking -/
/-- _law_ask -/
def tAsk (K : PySem.W.Frag) (mg : Str → Option Value) : TAsk := fun tl H Q => ∃ (E : XK) (R : VK), (∀ cls d H', E cls d H' → ∃ z, Thrown K mg z cls d H' ∧ ∀ p, H' p = none → Q (.ref p) (upd H' p (.tup [.non, .str z]))) ∧
  (∀ v H', R v H' → ∀ p, H' p = none → Q (.ref p) (upd H' p (.tup [v, .str ""]))) ∧ ∀ G, Same H G → tl E G R
/-- _law_why -/
def tWhy (K : PySem.W.Frag) (mg : Str → Option Value) : TAsk := fun tl H Q => ∃ (E : XK) (R : VK), (∀ cls d H', E cls d H' → ∃ z, Thrown K mg z cls d H' ∧ ∀ G, Same H' G → Q (.str z) G) ∧ (∀ v H', R v H' → ∀ G, Same H' G → Q (.str "") G) ∧ ∀ G, Same H G → tl E G R
theorem ask_step {K : PySem.W.Frag} {mg : Str → Option Value} {tl : XK → Hp → VK → Prop} {H : Hp} {Q : VK} (h : ∀ G, Same H G → tl (fun cls d H' => ∃ z, Thrown K mg z cls d H' ∧ ∀ p, H' p = none → Q (.ref p) (upd H' p (.tup [.non, .str z]))) G fun v H' => ∀ p, H' p = none → Q (.ref p) (upd H' p (.tup [v, .str ""]))) : tAsk K mg tl H Q :=
  ⟨_, _, fun _ _ _ z => z, fun _ _ z => z, h⟩
theorem why_step {K : PySem.W.Frag} {mg : Str → Option Value} {tl : XK → Hp → VK → Prop} {H : Hp} {Q : VK} (h : ∀ G, Same H G → tl (fun cls d H' => ∃ z, Thrown K mg z cls d H' ∧ ∀ G, Same H' G → Q (.str z) G) G fun v H' => ∀ G, Same H' G → Q (.str "") G) : tWhy K mg tl H Q :=
  ⟨_, _, fun _ _ _ z => z, fun _ _ z => z, h⟩
/-- a def that asks, by its name -/
def AskD (P : Program) (w : World) (K : PySem.W.Frag) (mg : Str → Option Value) (base : Heap) (k : Nat) (x : Str) (TT : TAsk) : Prop := ∃ g, AskOk P w K mg base k g TT ∧ mg x = some (.ref g) ∧ PySem.W.keepIn K (.ref g) = true
theorem ask_D {P : Program} {w : World} {K : PySem.W.Frag} {mg : Str → Option Value} {base : Heap} {x a : Str} {st : Stmt} {N : List Str} {k : Nat} {TT : TAsk} (F : DefAt K mg x st [a]) (S : FnScope N [a] (defScope st))
    (hbody : ∀ (g : Addr) (cdv : Value) (j : Nat) (A : Around) (outer : List Env) (s : Shared) (H : Hp) (f c' : Addr) (q : Str) (tl : XK → Hp → VK → Prop) (Q : VK), Room (j + k) (A.deeper (envOfC x (defScope st) s.heap.objs.size g cdv)) → Acts P w K mg base (frs outer) s H f c' q j tl → H c' = some (CodeO c' q) → TT tl H Q →
      ∃ t, PSs (cxOf L2.CX0 P w K mg base N x (defScope st) g cdv A outer s H L2.E0).nox (defBody st) t ∧ t { nx := fun _ H' => Q .non H', rt := Q } (L2.start N [.ref f]) H) : AskD P w K mg base (k + 1) x TT := by
  obtain ⟨g, fd, F, hm, hb⟩ := F
  exact ⟨g, ask_of F S hb (hbody g), hm, F.kp⟩
theorem pe_asklamD {X : Cx} {T : List (Addr × Str)} {TT : TAsk} {y : Str} {c P : Addr} {k j i : Nat} {params : Arguments} {body : Expr} {scope : Scope} {t : XK → TE} {p lpos pos : Pos} (D : AskD X.prog X.w X.K X.mg X.base k y TT) (hg : Gl X y)
    (TB : TabB X.base X.mg c P) (hcode : X.env.code = .ref c) (hmT : (P, X.env.qual ++ "<lambda>") ∈ T) (hu : ∀ p ∈ T, p.1 = P → p.2 = X.env.qual ++ "<lambda>") (hr : Room i X.A) (hi : j + 1 + k ≤ i) (L : LamS X.env.scope scope) (hdef : defaultsOf params X.env = ([], []))
    (hbind : ∀ (q : Str) (cl : List (Str × Addr)) (pm cv ctv : Value), bindArgs (PySem.W.kla_fn "<lambda>" q params body scope cl pm cv ctv) ⟨[], []⟩ = pure [])
    (hbody : ∀ (A : Around) (outer : List Env) (s : Shared) (H : Hp) (E : XK) (f c' : Addr), Room j (A.deeper (lamEnv X scope s.heap.objs.size f c')) → PE (lamCx X A outer s H E scope f c') body (t E)) (hdb : (y == ("__debug__" : Str)) = false := by decide) :
    PE X (.Call (.Name y p) [.Lambda params body scope lpos] [] pos) (tLam T TT t) := by
  obtain ⟨g, G, hm, hk⟩ := D
  exact pe_asklam G hg hm hk TB hcode hmT hu (hr.mono hi) L hdef hbind hbody hdb
theorem pe_askvD {Y : Cx} {f c' : Addr} {q y x : Str} {i j k : Nat} {tl : XK → Hp → VK → Prop} {TT : TAsk} {p1 p2 p3 : Pos} (D : AskD Y.prog Y.w Y.K Y.mg Y.base k y TT) (hg : Gl Y y)
    (a : Acts Y.prog Y.w Y.K Y.mg Y.base Y.fs Y.s_0 Y.H_0 f c' q j tl) (hex : Y.ex = []) (hfs : ∀ c ∈ frs Y.stack, c ∈ Y.fs ∨ Y.s_0.heap.get? c = none) (hr : Room (j + k) Y.A) (hN : Y.N[i]? = some x) (hv : Vis Y.env.scope x)
    (hdb : (y == ("__debug__" : Str)) = false := by decide) (hd : (x == ("__debug__" : Str)) = false := by decide) (hcd : (x == ("__classdict__" : Str)) = false := by decide)
    (he : starEach [Expr.Name x p2] Y.env = (false, eval (Expr.Name x p2) Y.env) :: starEach [] Y.env := by rfl) (hpl : (backTo p3 (starEach [] Y.env)).any (·.1) = false := by rfl) :
    PE Y (.Call (.Name y p1) [.Name x p2] [] p3) (tAskV i f c' q tl TT) := by
  obtain ⟨g, G, hm, hk⟩ := D
  exact pe_askv G hg hm hk a hex hfs hr hN hv hdb hd hcd he hpl
theorem dle_ask {d : PyData} {z : Str} {n : Nat} (hd : dle (n + 1) d = true) (hz : SeqAt.shaped (.str z) = true) : dle (n + 2) (.tuple [d, .str z]) = true := by
  show (decide (2 ≤ 1000) && (dle (n + 1) d && (SeqAt.shaped (.str z) && true))) = true
  rw [hd, hz]
  rfl
theorem dle_part (q : Rat) (n : Nat) : dle (n + 2) (dPart q) = true := rfl
theorem shaped_nil : SeqAt.shaped (.str "") = true := by decide +kernel
/-- what _law_ask gives, v told or None, and a word -/
theorem askTup {K : PySem.W.Frag} {H : Hp} {p : Addr} {v : V} {d : PyData} {z : Str} (np : H p = none) (hv : Dp K H v d) : Dp K (upd H p (.tup [v, .str z])) (.ref p) (.tuple [d, .str z]) :=
  .tup (SqT.of upd_same) (.cons (Dp.mono (same_new np) _ _ hv) (.cons (.str _) .nil))
theorem big_of {r : Int} {n m : Nat} (h : r.natAbs < 2 ^ n) (hn : n ≤ m) : r.natAbs < 2 ^ m := pow_mono_lt h hn
/-- part, which may refuse -/
def spPartX (K : PySem.W.Frag) (mg : Str → Option Value) : Sp := fun vs H Q E => ∃ a c : Int, vs = [.int a, .int c] ∧ a.natAbs < 2 ^ 8000 ∧ c.natAbs < 2 ^ 8000 ∧ (c ≠ 0 → ∀ v H', Same H H' → PtV K H' v (Rat.divInt a c) → Q v H') ∧ (c = 0 → Thr K mg "BadPart" H E)
@[irreducible] def spOverX (K : PySem.W.Frag) (mg : Str → Option Value) : Sp := fun vs H Q E => ∃ (v w : V) (x y : Rat), vs = [v, w] ∧ PtV K H v x ∧ PtV K H w y ∧ Sz 3900 x ∧ Sz 3900 y ∧ (y ≠ 0 → ∀ u H', Same H H' → PtV K H' u (x / y) → Q u H') ∧ (y = 0 → Thr K mg "BadPart" H E)
theorem overx_step {K : PySem.W.Frag} {mg : Str → Option Value} {H : Hp} {v w : V} {x y : Rat} {m n : Nat} {vs : List V} {Q : VK} {E : XK} (hv : PtV K H v x) (hw : PtV K H w y) (sx : Sz m x) (sy : Sz n y) (hm : m ≤ 3900) (hn : n ≤ 3900) (h : y ≠ 0 → ∀ u H', Same H H' → PtV K H' u (x / y) → Q u H') (hE : y = 0 → Thr K mg "BadPart" H E) (hvs : vs = [v, w] := by rfl) : spOverX K mg vs H Q E := by
  unfold spOverX
  exact ⟨v, w, x, y, hvs, hv, hw, sx.mono hm, sy.mono hn, h, hE⟩
/-! ### what stands through the making of a lambda -/
section
variable {K : PySem.W.Frag} {H H' : Hp}
theorem seqL_ext {a : Addr} {xs : List V} (e : ExtN H H') (h : SqL K H a xs) : SqL K H' a xs := by
  rcases h with (h | ⟨o, h⟩) | h
  · exact .inl (.inl (e _ _ h (fun _ z => by cases z)))
  · exact .inl (.inr ⟨o, e _ _ h (fun _ z => by cases z)⟩)
  · exact .inr h
theorem seqT_ext {a : Addr} {xs : List V} (e : ExtN H H') (h : SqT K H a xs) : SqT K H' a xs := by
  rcases h with (h | ⟨o, h⟩) | h
  · exact .inl (.inl (e _ _ h (fun _ z => by cases z)))
  · exact .inl (.inr ⟨o, e _ _ h (fun _ z => by cases z)⟩)
  · exact .inr h
theorem PtV.ext {v : V} {q : Rat} (h : PtV K H v q) (e : ExtN H H') : PtV K H' v q := by
  obtain ⟨a, rfl, h⟩ := h
  exact ⟨a, rfl, seqT_ext e h⟩
theorem Bag.ext {b : Addr} (h : Bag H b) (e : ExtN H H') : Bag H' b := by
  obtain ⟨c, ns, p, r, x, q, h1, h2, h3⟩ := h
  exact ⟨c, ns, p, r, x, q, e _ _ h1 (fun _ z => by cases z), e _ _ h2 (fun _ z => by cases z), h3⟩
mutual
theorem dp_ext (e : ExtN H H') : ∀ {v : V} {d : PyData}, Dp K H v d → Dp K H' v d
  | _, _, .non => .non
  | _, _, .bl b => .bl b
  | _, _, .int i => .int i
  | _, _, .str x => .str x
  | _, _, .lst h k => .lst (seqL_ext e h) (dps_ext e k)
  | _, _, .tup h k => .tup (seqT_ext e h) (dps_ext e k)
theorem dps_ext (e : ExtN H H') : ∀ {vs : List V} {ds : List PyData}, DpAll K H vs ds → DpAll K H' vs ds
  | _, _, .nil => .nil
  | _, _, .cons h k => .cons (dp_ext e h) (dps_ext e k)
end
theorem extN_same {H H' : Hp} (e : Same H H') : ExtN H H' := ExtN.of e
/-- the tables through a draw of the bag -/
theorem tabs_kp {T : List (Addr × Str)} {b : Addr} {ys : List V} (t : Tabs T H) (e : Kp b H H') (hb : H b = some (.lst ys)) : Tabs T H' := fun p hp => by
  obtain ⟨ps, h1, h2, h3⟩ := t p hp
  refine ⟨ps, e _ _ h1 (ne_of h1 hb (by intro z; cases z)), h2, fun pos cv hc => ?_⟩
  obtain ⟨c, e1, e2⟩ := h3 pos cv hc
  exact ⟨c, e1, e _ _ e2 (ne_of e2 hb (by intro z; unfold CodeO at z; cases z))⟩
theorem tabs_bag {T : List (Addr × Str)} {b : Addr} (t : Tabs T H) (e : Kp b H H') (hb : Bag H b) : Tabs T H' := by
  obtain ⟨ys, hb⟩ := hb.lst
  exact tabs_kp t e hb
theorem tabs_same {T : List (Addr × Str)} (t : Tabs T H) (e : Same H H') : Tabs T H' := t.ext e
end
end Cc
set_option maxHeartbeats 4000000
/-! XEnd: the end of a law that hands lambdas on; the classes of refusals as the top has left them. -/
namespace Cc
open PySem PySem.Spec PyProof.Rows L2 LamX
/-- a def whose code object is at cd -/
structure FunC (K : PySem.W.Frag) (x qual : Str) (st : Stmt) (f : Addr) (fd : FuncData) (cd : Addr) : Prop where
  ex : ∃ (oc : Value) (od : Option Addr) (kV doc pm : Value) (an : Option Addr) (ct : Value) (sl : Array (Option Value)), fd = PySem.W.fnOf x qual (defArgs st) (defBody st) (defScope st) .none kV doc pm an (.ref cd) ct ∧ K.lookup f = some ⟨oc, od, .func fd, sl⟩
  cd : PySem.W.codeIn K (.ref cd) qual = true
section
variable {P : Program} {w : World} {K : PySem.W.Frag} {mg : Str → Option Value} {base : Heap}
theorem FunC.ok {x qual : Str} {st : Stmt} {f cd : Addr} {fd : FuncData} {N ps : List Str} {k : Nat} {sp : Sp} (F : FunC K x qual st f fd cd) (S : FnScope N ps (defScope st)) (len : ∀ vs H Q E, sp vs H Q E → vs.length = ps.length)
    (go : ∀ (A : Around) (outer : List Env) (s : Shared) (H : Hp) (vs : List V) (Q : VK) (E : XK), Room k (A.deeper (envOfC qual (defScope st) s.heap.objs.size f (.ref cd))) → sp vs H Q E →
      ∃ t, PSs (cxOf CX0 P w K mg base N qual (defScope st) f (.ref cd) A outer s H E).nox (defBody st) t ∧ t { nx := fun _ G => Q .non G, rt := Q } (start N vs) H) : FnOk P w K mg base CX0 (k + 1) f fd ps sp := by
  obtain ⟨oc, od, kV, doc, pm, an, ct, sl, rfl, lk⟩ := F.ex
  refine fn_of lk F.cd S len fun A outer s H vs Q E hr h => ?_
  obtain ⟨t, ht, q⟩ := go A outer s H vs Q E hr h
  exact ⟨t, ht.nox, q⟩
/-- the name of each lambda of the law -/
def lamName : Str := ("law" : Str) ++ ".<locals>." ++ "<lambda>"
def spLawT (K : PySem.W.Frag) (tab : Addr) : Sp := fun vs H Q _ => ∃ (a : Addr) (ns : List Int), vs = [.ref a] ∧ SqL K H a (ns.map V.int) ∧ ns.length ≤ 63 ∧ Tabs [(tab, lamName)] H ∧ ∀ H', Q (.bl true) H'
theorem tab_one {P : Addr} {q : Str} : ∀ p ∈ [(P, q)], p.1 = P → p.2 = q := fun p hp _ => by
  rcases List.mem_singleton.mp hp with rfl
  rfl
theorem lawAt_one {l : PySem.W.OpenLaw} {k : Nat} {fa : Addr} {h : Heap} {fd : FuncData} {cd tab : Addr} (e : h.get? tab = some { cls := .none, data := .fields #[] }) (no : K.lookup tab = none) (hd : PySem.W.CodeHd h cd tab)
    (hb : ∀ (s : Shared) (u : Value), BindsTo s fd ⟨[u], []⟩ [("_law_script", u)]) (F : ∀ base : Heap, K.In base → base.Ns mainGlobals mg → TabB base mg cd tab → FnOk l.prog w K mg base CX0 k fa fd ["_law_script"] (spLawT K tab)) :
    LawAtS l w K CX0 k 63 "_law_script" mg fa h := by
  refine ⟨fd, [(cd, tab)], spLawT K tab, fun p hp => ?_, fun p hp => ?_, fun p hp => ?_, hb, fun H a ns hl _ hT hS => ⟨a, ns, rfl, hS, hl, fun p hp => ?_, fun _ => rfl⟩, fun base kb nb hT => F base kb nb (hT _ List.mem_cons_self)⟩
  · rcases List.mem_singleton.mp hp with rfl
    exact e
  · rcases List.mem_singleton.mp hp with rfl
    exact no
  · rcases List.mem_singleton.mp hp with rfl
    exact hd
  · rcases List.mem_singleton.mp hp with rfl
    exact TabS.nil (hT (cd, tab) List.mem_cons_self)
/-! ### the classes -/
def ExcAt (K : PySem.W.Frag) (mg : Str → Option Value) (x : Str) (qual : Str) (st : Stmt) : Prop := ∃ C fI fd, ExcTxt K mg x C fI ∧ Fun K "__init__" qual st fI fd ∧ Binds K fd ["self"] []
theorem ExcAt.ok {x qual : Str} {st : Stmt} {p1 p2 p3 p4 p5 p6 : Pos} (Z : ExcAt K mg x qual st) (S : FnScope ["self"] ["self"] (defScope st)) (hb : defBody st = [.Assign [.Attribute (.Name "self" p1) "called" p2] (.Attribute (.Attribute (.Name "self" p3) "__class__" p4) "__name__" p5) p6]) : ExcOk P w K mg base x := by
  obtain ⟨C, fI, fd, T, F, b⟩ := Z
  exact ⟨C, fI, fd, T, ok_ownInit F S hb, b⟩
theorem excAt_mk {h : Heap} {x qual : Str} {st : Stmt} (X : K.In h) (G : h.Ns mainGlobals mg) {C fI N : Addr} {nm q : Str} {bs bm sub : List Value} {sn : List Str} {ab : Bool} {col : Option Bool} {dd : Option Addr} {k0 k1 k3 k5 : Option Value} {tk : Tok} {c : Value}
    {oc : Value} {od an : Option Addr} {sl : Array (Option Value)} {kV doc pm cdv ct : Value}
    (a : PySem.W.nsIn K mainGlobals x = some (some (.ref C))) (l : K.lookup C = some (excClassObj nm q C N bs bm true sn sub ab col dd k0 k1 (some (.str x tk)) k3 k5 "ValueError.__new__")) (b : PySem.HandSPX.refsVE bm = true)
    (sa : PySem.W.findIn K (.ref C) "__setattr__" = some (some (.builtin "object.__setattr__"))) (ex : PySem.W.subIn K (.ref C) (.type "BaseException") = some true) (ty : PySem.W.typeIn K (.ref C) = some (.type "type")) (kc : PySem.W.keepIn K (.ref C) = true)
    (g1 : PySem.W.findIn K (.ref C) "__getattribute__" = some (some (.builtin "BaseException.__getattribute__"))) (g2 : PySem.W.findIn K (.ref C) "__getattr__" = some none) (hd : PySem.W.hasDictIn K C = true)
    (c5 : PySem.W.findIn K (.ref C) "__class__" = some (some (.builtin "object.__class__"))) (c6 : PySem.W.specialIn K (.builtin "object.__class__") "__get__" = some (some (.builtin "getset_descriptor.__get__"))) (c7 : PySem.W.takesIn K (.builtin "object.__class__") = some true) (c8 : PySem.W.mroIn K C (.type "object") = some true)
    (n1 : PySem.W.nsIn K cStatics "thirdparty.any" = some none) (n3 : PySem.W.findCls K (.ref C) (.type "type") "__name__" = some (.get (.builtin "getset_descriptor.__get__") (.builtin "type.__name__") (.ref C) (.type "type")))
    (no : PySem.W.findIn K (.ref C) "called" = some none) (iC : PySem.W.findIn K (.ref C) "__init__" = some (some (.ref fI))) (tI : PySem.W.typeIn K (.ref fI) = some (.type "function"))
    (lI : K.lookup fI = some ⟨oc, od, .func (PySem.W.fnOf "__init__" qual (defArgs st) (defBody st) (defScope st) .none kV doc pm an cdv ct), sl⟩) (cI : PySem.W.codeIn K cdv qual = true) (kI : PySem.W.keepIn K (.ref fI) = true)
    (eC : PySem.W.nsIn K mainGlobals "CutError" = some (some c)) (t : PySem.W.exmOne K (.ref C) c = some true)
    (hb : ∀ (kV doc pm : Value) (an : Option Addr) (cdv ct : Value) (us : List Value), us.length = 1 → bindArgs (PySem.W.fnOf "__init__" qual (defArgs st) (defBody st) (defScope st) .none kV doc pm an cdv ct) ⟨us, []⟩ = pure ((["self"] : List Str).zip us)) : ExcAt K mg x qual st :=
  ⟨C, fI, _, ⟨⟨⟨nm, q, N, bs, bm, sn, sub, ab, col, dd, k0, k1, _, k3, k5, l, b⟩, sa, ex, ty, kc⟩, ⟨g1, g2, ex, hd, c5, c6, c7, c8, n1, ty, n3, ⟨_, tk, l, rfl⟩⟩, no, iC, tI, PySem.W.mg_of X G a, .inl ⟨c, PySem.W.mg_of X G eC, t⟩⟩, fun_mk lI cI kI, (fun_mk lI cI kI).binds hb⟩
end
end Cc
/-! XAll: sorted of a list of tuples of ints, all sizes, a worst shape by told shapes. -/
namespace Cc
open PySem PySem.Spec PyProof.Rows L2
/-- a tuple of ints -/
def TsV (K : PySem.W.Frag) (H : Hp) (v : V) (s : List Int) : Prop := ∃ t, v = .ref t ∧ SqT K H t (s.map V.int)
section
variable {K : PySem.W.Frag} {H H' : Hp} {v : V} {s : List Int}
theorem TsV.same (h : TsV K H v s) (e : Same H H') : TsV K H' v s := by
  obtain ⟨t, h0, h1⟩ := h
  exact ⟨t, h0, seqT_same e h1⟩
theorem TsV.kp {b : Addr} {ys : List V} (h : TsV K H v s) (e : Kp b H H') (hb : H b = some (.lst ys)) : TsV K H' v s := by
  obtain ⟨t, h0, h1⟩ := h
  exact ⟨t, h0, seqT_kp e hb h1⟩
def szD (s : List Int) : PyData := .tuple (s.map .int)
theorem dpIs : ∀ {ss : List Int}, DpAll K H (ss.map V.int) (ss.map .int)
  | [] => .nil
  | _ :: _ => .cons (.int _) dpIs
theorem TsV.dp (h : TsV K H v s) : Dp K H v (szD s) := by
  obtain ⟨t, rfl, h1⟩ := h
  exact .tup h1 dpIs
theorem tsAll : ∀ {us : List V} {ss : List (List Int)}, Al (TsV K H) us ss → DpAll K H us (ss.map szD)
  | _, _, .nil => .nil
  | _, _, .cons a r => .cons a.dp (tsAll r)
end
theorem szD_lay (s : List Int) : (szD s).canLay0 = true ∧ (szD s).depth ≤ 2 := by
  have h1 : ∀ ss : List Int, PyData.canLayAll0 (ss.map .int) = true := fun ss => by
    induction ss with
    | nil => simp [PyData.canLayAll0]
    | cons x r ih =>
      rw [List.map_cons, PyData.canLayAll0, ih]
      simp [PyData.canLay0]
  have h2 := PySem.W.depth_ints s
  constructor
  · simp only [szD, PyData.canLay0]
    exact h1 s
  · simp only [szD, PyData.depth, h2]
    omega
theorem szDs_lay : ∀ ss : List (List Int), PyData.canLayAll0 (ss.map szD) = true ∧ PyData.depthAll (ss.map szD) ≤ 2
  | [] => by simp [PyData.canLayAll0, PyData.depthAll]
  | z :: zs => by
    have h := szDs_lay zs
    have h2 := szD_lay z
    refine ⟨by simp [PyData.canLayAll0, h2.1, h.1], ?_⟩
    simp only [List.map_cons, PyData.depthAll]
    have := h.2
    have := h2.2
    omega
theorem szDs_shaped (ss : List (List Int)) : SeqAt.shaped (.list (ss.map szD)) = true := by
  have h := szDs_lay ss
  show (PyData.canLay0 (.list (ss.map szD)) && decide (PyData.depth (.list (ss.map szD)) ≤ 64)) = true
  rw [Bool.and_eq_true]
  exact ⟨by simp only [PyData.canLay0]; exact h.1, decide_eq_true (by simp only [PyData.depth]; omega)⟩
theorem nil_shapedS : SeqAt.shaped (.list (([] : List (List Int)).map szD)) = true := szDs_shaped []
theorem eqv_nilS : ∀ ss : List (List Int), PyData.eqv (.list (ss.map szD)) (.list (([] : List (List Int)).map szD)) = ss.isEmpty
  | [] => rfl
  | _ :: _ => rfl
/-! ### sorted -/
section
variable {X : Cx} {pins : List (Addr × Obj)} {σ : L2.St} {H : Hp} {s : Shared}
theorem zip_each {K : PySem.W.Frag} : ∀ {us : List V} {ss : List (List Int)} {its : List Value}, Al (TsV K H) us ss → Vals us its → PySem.W.EachIs (fun v (b : V × List Int) => RelV b.1 v) its (us.zip ss)
  | _, _, _, .nil, .nil => .nil
  | _, _, _, .cons a r, .cons c t => .cons c (zip_each r t)
theorem zip_reads (I : Inv X pins σ H s) : ∀ {us : List V} {ss : List (List Int)} {its : List Value}, Al (TsV X.K H) us ss → Vals us its → PySem.W.EachIs (fun v (b : V × List Int) => ∃ as, Reads s.heap v (szD b.2) as) its (us.zip ss)
  | _, _, _, .nil, .nil => .nil
  | _, _, _, .cons a r, .cons c t => .cons (Dp.reads I _ _ _ a.dp c) (zip_reads I r t)
theorem al_zip {α : Type} {R : V → α → Prop} : ∀ {us : List V} {ss : List α}, Al R us ss → ∀ p ∈ us.zip ss, R p.1 p.2
  | _, _, .nil, p, h => by cases h
  | _, _, .cons a r, p, h => by
    rw [List.zip_cons_cons] at h
    rcases List.mem_cons.mp h with h | h
    · rw [h]
      exact a
    · exact al_zip r p h
theorem al_of {α : Type} {R : V → α → Prop} : ∀ {zs : List (V × α)}, (∀ p ∈ zs, R p.1 p.2) → Al R (zs.map (·.1)) (zs.map (·.2))
  | [], _ => .nil
  | z :: zs, h => .cons (h z List.mem_cons_self) (al_of fun p hp => h p (List.mem_cons_of_mem _ hp))
theorem vals_each {α : Type} : ∀ {out : List Value} {zs : List (V × α)}, PySem.W.EachIs (fun v (b : V × α) => RelV b.1 v) out zs → Vals (zs.map (·.1)) out
  | _, _, .nil => .nil
  | _, _, .cons a r => .cons a (vals_each r)
theorem lt_of_cons {x y : Int} {xs ys : List Int} : (x :: xs) < (y :: ys) ↔ x < y ∨ (x = y ∧ xs < ys) := List.cons_lt_cons_iff
theorem lex_total : ∀ a b : List Int, ¬ b < a ∨ ¬ a < b
  | [], _ => .inl (List.not_lt_nil _)
  | _ :: _, [] => .inr (List.not_lt_nil _)
  | x :: xs, y :: ys => by
    rw [lt_of_cons, lt_of_cons]
    rcases lex_total xs ys with h | h
    · by_cases c : y < x
      · exact .inr (by rintro (z | ⟨z, _⟩) <;> omega)
      · exact .inl fun z => z.elim c fun w => h w.2
    · by_cases c : x < y
      · exact .inl (by rintro (z | ⟨z, _⟩) <;> omega)
      · exact .inr fun z => z.elim c fun w => h w.2
theorem lex_trans : ∀ a b c : List Int, ¬ b < a → ¬ c < b → ¬ c < a
  | [], _, c, _, _ => List.not_lt_nil _
  | x :: xs, [], c, h, _ => fun _ => h (List.nil_lt_cons _ _)
  | x :: xs, y :: ys, [], _, h => fun _ => h (List.nil_lt_cons _ _)
  | x :: xs, y :: ys, z :: zs, h1, h2 => by
    rw [lt_of_cons] at h1 h2 ⊢
    have h3 : ¬ y < x := fun q => h1 (.inl q)
    have h4 : ¬ z < y := fun q => h2 (.inl q)
    rintro (q | ⟨q, r⟩)
    · omega
    · exact lex_trans xs ys zs (fun q2 => h1 (.inr ⟨by omega, q2⟩)) (fun q2 => h2 (.inr ⟨by omega, q2⟩)) r
theorem lex_antisymm : ∀ a b : List Int, ¬ b < a → ¬ a < b → a = b
  | [], [], _, _ => rfl
  | [], _ :: _, _, h => absurd (List.nil_lt_cons _ _) h
  | _ :: _, [], h, _ => absurd (List.nil_lt_cons _ _) h
  | x :: xs, y :: ys, h1, h2 => by
    rw [lt_of_cons] at h1 h2
    have h3 : ¬ y < x := fun q => h1 (.inl q)
    have h4 : ¬ x < y := fun q => h2 (.inl q)
    obtain rfl : x = y := by omega
    rw [lex_antisymm xs ys (fun q => h1 (.inr ⟨rfl, q⟩)) (fun q => h2 (.inr ⟨rfl, q⟩))]
theorem dataLe_sz : PySem.W.dataLe false (fun b : V × List Int => szD b.2) = fun p q => !decide (q.2 < p.2) := by
  funext p q
  rw [PySem.W.dataLe_eq]
  show (!PySem.W.dataLt (szD q.2) (szD p.2)) = _
  unfold szD
  rw [PySem.W.dataLt_tuple]
  have h := PySem.W.dataLt_ints q.2 p.2
  unfold PySem.W.rowLt at h
  rw [h]
def rSortedT (K : PySem.W.Frag) : List V → Hp → VK → Prop := fun vs H Q => ∃ (l : Addr) (us : List V) (ss : List (List Int)), vs = [V.ref l] ∧ SqL K H l us ∧ Al (TsV K H) us ss ∧ (∀ s ∈ ss, s ≠ []) ∧ ∀ (zs : List V) (ts : List (List Int)) (p : Addr), Al (TsV K H) zs ts → ts.Perm ss → ts.Pairwise (fun a b => ¬ b < a) → H p = none → Q (.ref p) (upd H p (.lst zs))
theorem cr_sortedT (hu : X.A.units + 64 < cLine) : CallR X (.builtin "sorted") (rSortedT X.K) := by
  intro pins s σ H vs us' Q I r h
  obtain ⟨l, us, ss, rfl, hs, hA, hne, q⟩ := h
  obtain ⟨its, rv, hl, hz⟩ := I.list hs
  rw [Vals.ref1 r]
  have hul := hA.len
  have hvl := rv.length
  have hzl : (us.zip ss).length = us.length := by rw [List.length_zip]; omega
  have hmem : ∀ d ∈ (us.zip ss).map (fun b : V × List Int => szD b.2), ∃ s ∈ ss, d = szD s := fun d hd => by
    obtain ⟨b, hb, rfl⟩ := List.mem_map.mp hd
    exact ⟨b.2, (List.of_mem_zip hb).2, rfl⟩
  refine PySem.W.sorted_data (enc := fun b : V × List Int => szD b.2) (bs := us.zip ss) hl.isList (zip_each hA rv) (zip_reads I hA rv) ?_ ?_ (by rw [hzl]; exact hz) (fun b _ => by have := (szD_lay b.2).2; omega) fun out hol ho => ?_
  · intro d hd d' hd'
    obtain ⟨s1, _, rfl⟩ := hmem d hd
    obtain ⟨s2, _, rfl⟩ := hmem d' hd'
    simp only [szD, PySem.W.alike]
    exact PySem.W.alike_ints s1 s2
  · refine .inl fun d hd => ?_
    obtain ⟨s1, h1, rfl⟩ := hmem d hd
    cases s1 with
    | nil => exact absurd rfl (hne _ h1)
    | cons x r => exact ⟨_, _, rfl⟩
  · obtain ⟨ep, he'⟩ := PyProof.Rows.sortedAll_at s.heap its out.toArray
    rw [dataLe_sz] at ho
    obtain ⟨zs, hzs⟩ : ∃ zs, zs = (us.zip ss).mergeSort (fun p q => !decide (q.2 < p.2)) := ⟨_, rfl⟩
    rw [← hzs] at ho
    have hpm : zs.Perm (us.zip ss) := by
      rw [hzs]
      exact List.mergeSort_perm _ _
    have hpw : zs.Pairwise (fun p q => (!decide (q.2 < p.2)) = true) := by
      rw [hzs]
      refine List.pairwise_mergeSort (fun a b c h1 h2 => ?_) (fun a b => ?_) _
      · simp only [Bool.not_eq_true', decide_eq_false_iff_not] at h1 h2 ⊢
        exact lex_trans _ _ _ h1 h2
      · have h := lex_total a.2 b.2
        simpa only [Bool.or_eq_true, Bool.not_eq_true', decide_eq_false_iff_not] using h
    have hA2 : Al (TsV X.K H) (zs.map (·.1)) (zs.map (·.2)) := al_of fun p hp => al_zip hA p (hpm.mem_iff.mp hp)
    have hp2 : (zs.map (·.2)).Perm ss := by
      have h := hpm.map (·.2)
      rw [List.map_snd_zip (by omega)] at h
      exact h
    have hw2 : (zs.map (·.2)).Pairwise (fun a b => ¬ b < a) := by
      refine List.Pairwise.map _ (fun x y h => ?_) hpw
      simpa only [Bool.not_eq_true', decide_eq_false_iff_not] using h
    have hlen : (zs.map (·.1)).length ≤ sizeLine := by
      rw [List.length_map, hpm.length_eq, hzl]
      exact hz
    exact ⟨.ref _, upd H (s.heap.objs.size + 1) (.lst (zs.map (·.1))), I.laid (t' := s.toks) (fun _ _ => PyProof.Rows.sortedAll_old) (Nat.le_succ _) ⟨hlen, out, ep, vals_each ho, he'⟩, rfl, q _ _ _ hA2 hp2 hw2 (I.hok.fresh (Nat.le_succ _))⟩
end
theorem Al.app {α : Type} {R : V → α → Prop} : ∀ {us vs : List V} {xs ys : List α}, Al R us xs → Al R vs ys → Al R (us ++ vs) (xs ++ ys)
  | _, _, _, _, .nil, h => h
  | _, _, _, _, .cons a r, h => .cons a (Al.app r h)
/-! ### all sizes, by how many rows -/
def ext1 (n : Nat) (s : List Int) : List (List Int) := (List.range ((n : Int) - s.sum).toNat).map fun i : Nat => s ++ [(1 : Int) + (i : Int)]
def lvl (n : Nat) : Nat → List (List Int)
  | 0 => [[]]
  | k + 1 => (lvl n k).flatMap (ext1 n)
def dnS (n : Nat) (ls : List (List Int)) : List (List Int) := ls.filter fun s => decide ((n : Int) - s.sum = 0)
def dones (n : Nat) : Nat → List (List Int)
  | 0 => []
  | k + 1 => dones n k ++ dnS n (lvl n k)
theorem lvl_ok {n : Nat} : ∀ {k : Nat} {s : List Int}, s ∈ lvl n k → s.length = k ∧ (∀ x ∈ s, 1 ≤ x) ∧ s.sum ≤ (n : Int)
  | 0, s, h => by
    rw [lvl] at h
    rw [List.mem_singleton.mp h]
    exact ⟨rfl, by simp, by simp⟩
  | k + 1, s, h => by
    rw [lvl] at h
    obtain ⟨t, h1, h2⟩ := List.mem_flatMap.mp h
    unfold ext1 at h2
    obtain ⟨i, h3, rfl⟩ := List.mem_map.mp h2
    have h3 := List.mem_range.mp h3
    obtain ⟨g1, g2, g3⟩ := lvl_ok h1
    refine ⟨by rw [List.length_append, g1]; rfl, fun x hx => ?_, ?_⟩
    · rcases List.mem_append.mp hx with hx | hx
      · exact g2 x hx
      · rw [List.mem_singleton.mp hx]
        omega
    · rw [List.sum_append, List.sum_cons, List.sum_nil]
      omega
theorem lvl_le {n k : Nat} (h : lvl n k ≠ []) : k ≤ n := by
  obtain ⟨s, hs⟩ := List.exists_mem_of_ne_nil _ h
  obtain ⟨g1, g2, g3⟩ := lvl_ok hs
  have := sum_nn g2
  omega
theorem lvl_mem {n : Nat} {s : List Int} (h : SOk s n) : ∀ k, k ≤ s.length → s.take k ∈ lvl n k
  | 0, _ => by
    rw [List.take_zero, lvl]
    exact List.mem_singleton.mpr rfl
  | k + 1, hk => by
    rw [lvl]
    refine List.mem_flatMap.mpr ⟨s.take k, lvl_mem h k (by omega), ?_⟩
    unfold ext1
    have h1 := h.off_int k
    have h2 := h.off_int (k + 1)
    have h3 := h.off_le (k + 1)
    have h4 : (s.take (k + 1)).sum = (s.take k).sum + s.getD k 0 := take_sum (by omega)
    have h5 := h.w (s.getD k 0) (by rw [List.getD_eq_getElem?_getD, List.getElem?_eq_getElem (show k < s.length by omega)]; exact List.getElem_mem _)
    refine List.mem_map.mpr ⟨(s.getD k 0 - 1).toNat, List.mem_range.mpr (by omega), ?_⟩
    rw [List.take_add_one, List.getElem?_eq_getElem (show k < s.length by omega)]
    have h6 : s.getD k 0 = s[k]'(by omega) := by rw [List.getD_eq_getElem?_getD, List.getElem?_eq_getElem (show k < s.length by omega)]; rfl
    rw [show (1 : Int) + ((s.getD k 0 - 1).toNat : Nat) = s.getD k 0 by omega, h6]
    rfl
theorem dones_mem {n : Nat} {s : List Int} : ∀ {k : Nat}, s ∈ dones n k ↔ ∃ j, j < k ∧ s ∈ lvl n j ∧ s.sum = (n : Int)
  | 0 => by
    rw [dones]
    constructor
    · intro h
      cases h
    · rintro ⟨j, h, _⟩
      omega
  | k + 1 => by
    rw [dones, List.mem_append, dones_mem (k := k)]
    unfold dnS
    rw [List.mem_filter, decide_eq_true_iff]
    constructor
    · rintro (⟨j, h1, h2, h3⟩ | ⟨h1, h2⟩)
      · exact ⟨j, by omega, h2, h3⟩
      · exact ⟨k, by omega, h1, by omega⟩
    · rintro ⟨j, h1, h2, h3⟩
      by_cases z : j = k
      · subst z
        exact .inr ⟨h2, by omega⟩
      · exact .inl ⟨j, by omega, h2, h3⟩
theorem all_mem {n k : Nat} {s : List Int} (h : lvl n k = []) : s ∈ dones n k ↔ SOk s n := by
  rw [dones_mem]
  constructor
  · rintro ⟨j, h1, h2, h3⟩
    exact ⟨(lvl_ok h2).2.1, h3⟩
  · intro hs
    have hlt : s.length < k := by
      rcases Nat.lt_or_ge s.length k with z | z
      · exact z
      · have := lvl_mem hs k z
        rw [h] at this
        cases this
    have := lvl_mem hs s.length (Nat.le_refl _)
    rw [List.take_length] at this
    exact ⟨_, hlt, this, hs.s⟩
theorem ext1_len {n : Nat} {s : List Int} (h : ∀ x ∈ s, 1 ≤ x) (hn : n ≤ 7) : (ext1 n s).length ≤ 7 := by
  unfold ext1
  rw [List.length_map, List.length_range]
  have := sum_nn h
  omega
theorem flat_len {n : Nat} (hn : n ≤ 7) : ∀ {ls : List (List Int)}, (∀ s ∈ ls, ∀ x ∈ s, 1 ≤ x) → (ls.flatMap (ext1 n)).length ≤ 7 * ls.length
  | [], _ => by simp
  | s :: r, h => by
    rw [List.flatMap_cons, List.length_append, List.length_cons]
    have h1 := ext1_len (h s List.mem_cons_self) hn
    have h2 := flat_len hn (ls := r) fun s hs => h s (List.mem_cons_of_mem _ hs)
    omega
theorem lvl_len {n : Nat} (hn : n ≤ 7) : ∀ k, (lvl n k).length ≤ 7 ^ k
  | 0 => by simp [lvl]
  | k + 1 => by
    rw [lvl, Nat.pow_succ]
    have h1 := flat_len hn (ls := lvl n k) fun s hs => (lvl_ok hs).2.1
    have h2 := lvl_len hn k
    omega
theorem dones_len {n : Nat} (hn : n ≤ 7) : ∀ k, (dones n k).length ≤ 7 ^ k
  | 0 => by simp [dones]
  | k + 1 => by
    rw [dones, List.length_append, Nat.pow_succ]
    have h1 : (dnS n (lvl n k)).length ≤ (lvl n k).length := List.length_filter_le _ _
    have h2 := lvl_len hn k
    have h3 := dones_len hn k
    omega
theorem big {n : Nat} (h : n ≤ 10000000) : n < sizeLine := by
  rw [sizeLine_eq]
  omega
/-- the worst shape of sizes by told shapes -/
def wOf (f : Nat → Nat → Rat) (ss : List Int) : Rat := mostL ((List.range ss.length).map fun j => f (off ss j) (off ss (j + 1)))
@[irreducible] def spAllSizes (K : PySem.W.Frag) : Sp := fun vs H Q _ => ∃ n : Nat, vs = [.int n] ∧ 1 ≤ n ∧ n ≤ 7 ∧ ∀ p zs ts H', H p = none → Same H H' → H' p = some (.lst zs) → Al (TsV K H') zs ts → (∀ s, s ∈ ts ↔ SOk s n) → ts.Pairwise (fun a b => ¬ b < a) → Q (.ref p) H'
@[irreducible] def spByShapes (K : PySem.W.Frag) : Sp := fun vs H Q _ => ∃ (D t : Addr) (n m : Nat) (f : Nat → Nat → Rat) (ss : List Int), vs = [.ref D, .ref t] ∧ DSh K n (AllR n) f m H D ∧ SqT K H t (ss.map V.int) ∧ SOk ss n ∧ 1 ≤ n ∧ n ≤ 12 ∧ (∀ i j, AllR n i j → Sz 3900 (f i j)) ∧ ∀ v H', Same H H' → PtV K H' v (wOf f ss) → Q v H'
section
variable {K : PySem.W.Frag} {H : Hp} {Q : VK} {E : XK} {vs : List V} {n m : Nat} {f : Nat → Nat → Rat} {ss : List Int} {D t : Addr}
theorem allSizes_step (h0 : 1 ≤ n) (hn : n ≤ 7) (q : ∀ p zs ts H', H p = none → Same H H' → H' p = some (.lst zs) → Al (TsV K H') zs ts → (∀ s, s ∈ ts ↔ SOk s n) → ts.Pairwise (fun a b => ¬ b < a) → Q (.ref p) H') (hvs : vs = [.int n] := by rfl) : spAllSizes K vs H Q E := by
  unfold spAllSizes
  exact ⟨n, hvs, h0, hn, q⟩
theorem byShapes_step (h : DSh K n (AllR n) f m H D) (ht : SqT K H t (ss.map V.int)) (hS : SOk ss n) (h0 : 1 ≤ n) (hn : n ≤ 12) (hz : ∀ i j, AllR n i j → Sz 3900 (f i j)) (q : ∀ v H', Same H H' → PtV K H' v (wOf f ss) → Q v H') (hvs : vs = [.ref D, .ref t] := by rfl) : spByShapes K vs H Q E := by
  unfold spByShapes
  exact ⟨D, t, n, m, f, ss, hvs, h, ht, hS, h0, hn, hz, q⟩
theorem wOf_at (hS : SOk ss n) (h0 : 1 ≤ n) : ∃ j, j < ss.length ∧ wOf f ss = f (off ss j) (off ss (j + 1)) := by
  have hm : wOf f ss ∈ (List.range ss.length).map fun j => f (off ss j) (off ss (j + 1)) := mostL_mem (fun z => by
    have := congrArg List.length z
    rw [List.length_map, List.length_range, List.length_nil] at this
    have := hS.ne h0
    omega)
  obtain ⟨j, hj, e⟩ := List.mem_map.mp hm
  exact ⟨j, List.mem_range.mp hj, e.symm⟩
theorem off_AllR (hS : SOk ss n) {j : Nat} (hj : j < ss.length) : AllR n (off ss j) (off ss (j + 1)) := by
  have h1 := hS.off_succ hj
  have h2 := hS.off_le (j + 1)
  have h3 := hS.w (ss.getD j 0) (by rw [List.getD_eq_getElem?_getD, List.getElem?_eq_getElem hj]; exact List.getElem_mem hj)
  exact ⟨by omega, h2⟩
theorem wOf_sz (hS : SOk ss n) (h0 : 1 ≤ n) {m : Nat} (hz : ∀ i j, AllR n i j → Sz m (f i j)) : Sz m (wOf f ss) := by
  obtain ⟨j, hj, e⟩ := wOf_at (f := f) hS h0
  rw [e]
  exact hz _ _ (off_AllR hS hj)
theorem wOf_ge {j : Nat} (hj : j < ss.length) : f (off ss j) (off ss (j + 1)) ≤ wOf f ss := mostL_ge (List.mem_map.mpr ⟨j, List.mem_range.mpr hj, rfl⟩)
end
@[irreducible] def spWeightsM (K : PySem.W.Frag) : Sp := fun vs H Q _ => ∃ (c : Addr) (m : Int), vs = [.ref c, .int m] ∧ Bag H c ∧ 1 ≤ m ∧ m ≤ 12 ∧ ∀ L ws H', H L = none → H' L = some (.lst (ws.map V.int)) → WOk ws → (ws.length : Int) ≤ m → Bag H' c → Kp c H H' → Q (.ref L) H'
theorem weightsM_step {K : PySem.W.Frag} {H : Hp} {Q : VK} {E : XK} {vs : List V} {c : Addr} {m : Int} (hb : Bag H c) (h0 : 1 ≤ m) (h1 : m ≤ 12) (q : ∀ L ws H', H L = none → H' L = some (.lst (ws.map V.int)) → WOk ws → (ws.length : Int) ≤ m → Bag H' c → Kp c H H' → Q (.ref L) H') (hvs : vs = [.ref c, .int m] := by rfl) : spWeightsM K vs H Q E := by
  unfold spWeightsM
  exact ⟨c, m, hvs, hb, h0, h1, q⟩
end Cc
namespace Cc
open PySem PySem.Spec PyProof.Rows L2
/-! ### the best sizes -/
/-- the least worst shapes behind each place are one and the same, however they are got -/
theorem Bst.uniq {f : Nat → Nat → Rat} {n : Nat} {g g' : Nat → Rat} (h : Bst f n 0 g) (h' : Bst f n 0 g') : ∀ k, k ≤ n → g (n - k) = g' (n - k)
  | 0, _ => by rw [Nat.sub_zero, h.e, h'.e]
  | k + 1, hk => by
    have low : ∀ {p q : Nat → Rat}, Bst f n 0 p → Bst f n 0 q → (∀ j, j ≤ k → p (n - j) = q (n - j)) → p (n - (k + 1)) ≤ q (n - (k + 1)) := fun {p q} hp hq ih => by
      obtain ⟨e, h1, h2, h3⟩ := hq.hit (n - (k + 1)) (by omega) (by omega)
      have h4 := hp.le (n - (k + 1)) (by omega) (by omega) e h1 h2
      have h5 := ih (n - e) (by omega)
      rw [show n - (n - e) = e by omega] at h5
      rw [h3, ← h5]
      exact h4
    have ih : ∀ j, j ≤ k → g (n - j) = g' (n - j) := fun j hj => Bst.uniq h h' j (by omega)
    exact Rat.le_antisymm (low h h' ih) (low h' h fun j hj => (ih j hj).symm)
theorem Bst.uniq0 {f : Nat → Nat → Rat} {n : Nat} {g g' : Nat → Rat} (h : Bst f n 0 g) (h' : Bst f n 0 g') : g 0 = g' 0 := by
  have := Bst.uniq h h' n (Nat.le_refl _)
  rw [Nat.sub_self] at this
  exact this
/-- from e on: the first end of a row behind which the rest is within M too -/
def bEnd (f : Nat → Nat → Rat) (g : Nat → Rat) (M : Rat) (n b e : Nat) : Nat := if e < n ∧ M < gr (f b e) (g e) then bEnd f g M n b (e + 1) else e
termination_by n - e
section
variable {f : Nat → Nat → Rat} {g : Nat → Rat} {M : Rat} {n b : Nat}
theorem bEnd_go {e : Nat} (h : e < n ∧ M < gr (f b e) (g e)) : bEnd f g M n b e = bEnd f g M n b (e + 1) := by rw [bEnd, if_pos h]
theorem bEnd_stop {e : Nat} (h : ¬ (e < n ∧ M < gr (f b e) (g e))) : bEnd f g M n b e = e := by rw [bEnd, if_neg h]
theorem bEnd_ge : ∀ k e, n - e ≤ k → e ≤ bEnd f g M n b e
  | 0, e, h => by
    rw [bEnd_stop (by omega)]
    exact Nat.le_refl _
  | k + 1, e, h => by
    by_cases c : e < n ∧ M < gr (f b e) (g e)
    · rw [bEnd_go c]
      have := bEnd_ge k (e + 1) (by omega)
      omega
    · rw [bEnd_stop c]
      exact Nat.le_refl _
theorem bEnd_le : ∀ k e, n - e ≤ k → e ≤ n → bEnd f g M n b e ≤ n
  | 0, e, h, h2 => by
    rw [bEnd_stop (by omega)]
    exact h2
  | k + 1, e, h, h2 => by
    by_cases c : e < n ∧ M < gr (f b e) (g e)
    · rw [bEnd_go c]
      exact bEnd_le k (e + 1) (by omega) (by omega)
    · rw [bEnd_stop c]
      exact h2
/-- what lies ahead of it is over M -/
theorem bEnd_over : ∀ k e, n - e ≤ k → ∀ e', e ≤ e' → e' < bEnd f g M n b e → M < gr (f b e') (g e')
  | 0, e, h, e', h1, h2 => by
    rw [bEnd_stop (by omega)] at h2
    omega
  | k + 1, e, h, e', h1, h2 => by
    by_cases c : e < n ∧ M < gr (f b e) (g e)
    · rw [bEnd_go c] at h2
      by_cases z : e' = e
      · rw [z]
        exact c.2
      · exact bEnd_over k (e + 1) (by omega) e' (by omega) h2
    · rw [bEnd_stop c] at h2
      omega
/-- and it is within M, where there is such an end -/
theorem bEnd_hit : ∀ k e, n - e ≤ k → e ≤ n → (∃ e', e ≤ e' ∧ e' ≤ n ∧ ¬ M < gr (f b e') (g e')) → ¬ M < gr (f b (bEnd f g M n b e)) (g (bEnd f g M n b e))
  | 0, e, h, h2, ⟨e', h3, h4, h5⟩ => by
    rw [bEnd_stop (by omega), show e = e' by omega]
    exact h5
  | k + 1, e, h, h2, ⟨e', h3, h4, h5⟩ => by
    by_cases c : e < n ∧ M < gr (f b e) (g e)
    · rw [bEnd_go c]
      refine bEnd_hit k (e + 1) (by omega) (by omega) ⟨e', ?_, h4, h5⟩
      by_cases z : e' = e
      · rw [z] at h5
        exact absurd c.2 h5
      · omega
    · rw [bEnd_stop c]
      by_cases z : e < n
      · exact fun w => c ⟨z, w⟩
      · rw [show e = e' by omega]
        exact h5
end
/-- the best sizes from b on -/
def bestL (f : Nat → Nat → Rat) (g : Nat → Rat) (M : Rat) (n b : Nat) : List Int := if b < n then ((bEnd f g M n b (b + 1) - b : Nat) : Int) :: bestL f g M n (bEnd f g M n b (b + 1)) else []
termination_by n - b
decreasing_by
  have := bEnd_ge (f := f) (g := g) (M := M) (n := n) (b := b) (n - (b + 1)) (b + 1) (Nat.le_refl _)
  omega
section
variable {f : Nat → Nat → Rat} {g : Nat → Rat} {M : Rat} {n : Nat}
theorem bestL_go {b : Nat} (h : b < n) : bestL f g M n b = ((bEnd f g M n b (b + 1) - b : Nat) : Int) :: bestL f g M n (bEnd f g M n b (b + 1)) := by rw [bestL, if_pos h]
theorem bestL_stop {b : Nat} (h : ¬ b < n) : bestL f g M n b = [] := by rw [bestL, if_neg h]
theorem best_ok : ∀ k b, n - b ≤ k → b ≤ n → (∀ x ∈ bestL f g M n b, 1 ≤ x) ∧ (bestL f g M n b).sum = (n : Int) - b
  | 0, b, h, hb => by
    rw [bestL_stop (by omega)]
    refine ⟨by simp, ?_⟩
    rw [List.sum_nil]
    omega
  | k + 1, b, h, hb => by
    by_cases c : b < n
    · have g1 := bEnd_ge (f := f) (g := g) (M := M) (n := n) (b := b) (n - (b + 1)) (b + 1) (Nat.le_refl _)
      have g2 := bEnd_le (f := f) (g := g) (M := M) (n := n) (b := b) (n - (b + 1)) (b + 1) (Nat.le_refl _) (by omega)
      obtain ⟨h1, h2⟩ := best_ok k (bEnd f g M n b (b + 1)) (by omega) g2
      rw [bestL_go c]
      refine ⟨fun x hx => ?_, ?_⟩
      · rcases List.mem_cons.mp hx with rfl | hx
        · omega
        · exact h1 x hx
      · rw [List.sum_cons, h2]
        omega
    · rw [bestL_stop c]
      refine ⟨by simp, ?_⟩
      rw [List.sum_nil]
      omega
theorem best_sok : SOk (bestL f g M n 0) n := by
  obtain ⟨h1, h2⟩ := best_ok (f := f) (g := g) (M := M) (n := n) n 0 (by omega) (by omega)
  exact ⟨h1, by rw [h2]; omega⟩
/-- the sizes hang on g at the places alone -/
theorem bEnd_congr {g' : Nat → Rat} (h : ∀ e, e ≤ n → g e = g' e) {b : Nat} : ∀ k e, n - e ≤ k → bEnd f g M n b e = bEnd f g' M n b e
  | 0, e, hk => by rw [bEnd_stop (by omega), bEnd_stop (by omega)]
  | k + 1, e, hk => by
    by_cases c : e < n ∧ M < gr (f b e) (g e)
    · rw [bEnd_go (g := g) c, bEnd_go (g := g') (e := e) (by rw [← h e (by omega)]; exact c)]
      exact bEnd_congr h k (e + 1) (by omega)
    · rw [bEnd_stop c, bEnd_stop (fun z => c ⟨z.1, by rw [h e (by omega)]; exact z.2⟩)]
theorem bestL_congr {g' : Nat → Rat} (h : ∀ e, e ≤ n → g e = g' e) : ∀ k b, n - b ≤ k → bestL f g M n b = bestL f g' M n b
  | 0, b, hk => by rw [bestL_stop (by omega), bestL_stop (by omega)]
  | k + 1, b, hk => by
    by_cases c : b < n
    · have g1 := bEnd_ge (f := f) (g := g') (M := M) (n := n) (b := b) (n - (b + 1)) (b + 1) (Nat.le_refl _)
      rw [bestL_go (g := g) c, bestL_go (g := g') c, bEnd_congr h (n - (b + 1)) (b + 1) (Nat.le_refl _), bestL_congr h k _ (by omega)]
    · rw [bestL_stop c, bestL_stop c]
end
/-- a row from a place within M leads on within M -/
theorem Bst.on {f : Nat → Nat → Rat} {g : Nat → Rat} {n b : Nat} {M : Rat} (h : Bst f n 0 g) (hb : b < n) (hM : g b ≤ M) : ∃ e, b + 1 ≤ e ∧ e ≤ n ∧ ¬ M < gr (f b e) (g e) := by
  obtain ⟨e, h1, h2, h3⟩ := h.hit b (Nat.zero_le _) hb
  exact ⟨e, h1, h2, by rw [← h3]; grind⟩
@[irreducible] def spBest (K : PySem.W.Frag) : Sp := fun vs H Q _ => ∃ (v : V) (a : Addr) (b : Bx) (ws : List Int) (d : Bool), vs = [v, .ref a, .str (sd d)] ∧ BxV K H v b ∧ b.Ok 450 ∧ IntsV K H a ws ∧ WOk ws ∧
  ∀ t g H', Same H H' → Bst (fSh b ws d) ws.length 0 g → H' t = some (.tup ((bestL (fSh b ws d) g (g 0) ws.length 0).map V.int)) → Q (.ref t) H'
theorem best_step {K : PySem.W.Frag} {H : Hp} {a : Addr} {ws : List Int} {Q : VK} {E : XK} {vs : List V} {b : Bx} {v : V} {d : Bool} {n : Nat} (hv : BxV K H v b) (hb : b.Ok n) (hn : n ≤ 450) (h : IntsV K H a ws) (hw : WOk ws)
    (q : ∀ t g H', Same H H' → Bst (fSh b ws d) ws.length 0 g → H' t = some (.tup ((bestL (fSh b ws d) g (g 0) ws.length 0).map V.int)) → Q (.ref t) H') (hvs : vs = [v, .ref a, .str (sd d)] := by rfl) : spBest K vs H Q E := by
  unfold spBest
  exact ⟨v, a, b, ws, d, hvs, hv, hb.mono hn, h, hw, q⟩
end Cc
/-! XBsa: best sizes by going through all sizes. -/
namespace Cc
open PySem PySem.Spec PyProof.Rows L2
section
variable {f : Nat → Nat → Rat} {M : Rat} {n : Nat} {g : Nat → Rat} {ss : List Int}
/-- rows from b on within M -/
def InG (f : Nat → Nat → Rat) (M : Rat) : Nat → List Int → Prop
  | _, [] => True
  | b, x :: r => ¬ M < f b (b + x.toNat) ∧ InG f M (b + x.toNat) r
theorem off_cons {x : Int} {r : List Int} (hx : 1 ≤ x) (hr : ∀ y ∈ r, 1 ≤ y) (j : Nat) : off (x :: r) (j + 1) = x.toNat + off r j := by
  unfold off
  rw [List.take_succ_cons, List.sum_cons]
  have : 0 ≤ (r.take j).sum := by
    have := sum_nn (ws := r.take j) fun y hy => hr y (List.mem_of_mem_take hy)
    omega
  omega
theorem inG_iff : ∀ (ss : List Int) (b : Nat), (∀ x ∈ ss, 1 ≤ x) → ((∀ j, j < ss.length → ¬ M < f (b + off ss j) (b + off ss (j + 1))) ↔ InG f M b ss)
  | [], _, _ => ⟨fun _ => trivial, fun _ j hj => absurd hj (by simp)⟩
  | x :: r, b, hw => by
    have hx := hw x List.mem_cons_self
    have hr : ∀ y ∈ r, 1 ≤ y := fun y hy => hw y (List.mem_cons_of_mem _ hy)
    have ih := inG_iff r (b + x.toNat) hr
    have e := off_cons hx hr
    have e0 : off (x :: r) 0 = 0 := by simp [off]
    have e1 : off r 0 = 0 := by simp [off]
    constructor
    · intro h
      refine ⟨?_, ih.mp fun j hj => ?_⟩
      · have := h 0 (by simp)
        rw [e 0, e0, e1] at this
        exact this
      · have := h (j + 1) (by simpa using hj)
        rw [e j, e (j + 1)] at this
        rw [Nat.add_assoc, Nat.add_assoc]
        exact this
    · rintro ⟨h1, h2⟩ j hj
      cases j with
      | zero =>
        rw [e 0, e0, e1]
        exact h1
      | succ j =>
        have := ih.mpr h2 j (by simpa using hj)
        rw [Nat.add_assoc, Nat.add_assoc] at this
        rw [e j, e (j + 1)]
        exact this
theorem wOf_G (hS : SOk ss n) (h0 : 1 ≤ n) : wOf f ss ≤ M ↔ InG f M 0 ss := by
  rw [← inG_iff ss 0 hS.w]
  constructor
  · intro h j hj
    rw [Nat.zero_add, Nat.zero_add]
    have := wOf_ge (f := f) hj
    grind
  · intro h
    obtain ⟨j, hj, e⟩ := wOf_at (f := f) hS h0
    rw [e]
    have := h j hj
    rw [Nat.zero_add, Nat.zero_add] at this
    exact Rat.not_lt.mp this
theorem gr_both {x y : Rat} (h1 : ¬ M < x) (h2 : y ≤ M) : ¬ M < gr x y := by
  rcases gr_or x y with e | e <;> rw [e] <;> grind
/-- best sizes come ahead of all others within the bound -/
theorem best_lex (hG : Bst f n 0 g) (hM : 1 ≤ M) : ∀ (ss : List Int) (b : Nat), (∀ x ∈ ss, 1 ≤ x) → (b : Int) + ss.sum = n → InG f M b ss → g b ≤ M ∧ ¬ ss < bestL f g M n b
  | [], b, _, hs, _ => by
    rw [List.sum_nil] at hs
    obtain rfl : b = n := by omega
    rw [bestL_stop (by omega), hG.e]
    exact ⟨hM, List.not_lt_nil _⟩
  | x :: r, b, hw, hs, hin => by
    rw [List.sum_cons] at hs
    have hx := hw x List.mem_cons_self
    have hr : ∀ y ∈ r, 1 ≤ y := fun y hy => hw y (List.mem_cons_of_mem _ hy)
    have hrs := sum_nn hr
    obtain ⟨h1, h2⟩ := hin
    obtain ⟨g1, g2⟩ := best_lex hG hM r (b + x.toNat) hr (by omega) h2
    have hlt : b < n := by omega
    have h3 := gr_both h1 g1
    have h4 := hG.le b (Nat.zero_le _) hlt (b + x.toNat) (by omega) (by omega)
    refine ⟨by grind, ?_⟩
    have hge := bEnd_ge (f := f) (g := g) (M := M) (n := n) (b := b) (n - (b + 1)) (b + 1) (Nat.le_refl _)
    have hov := bEnd_over (f := f) (g := g) (M := M) (n := n) (b := b) (n - (b + 1)) (b + 1) (Nat.le_refl _) (b + x.toNat) (by omega)
    have hle : bEnd f g M n b (b + 1) ≤ b + x.toNat := Nat.le_of_not_lt fun z => h3 (hov z)
    rw [bestL_go hlt, lt_of_cons]
    rintro (z | ⟨z, w⟩)
    · omega
    · rw [show bEnd f g M n b (b + 1) = b + x.toNat by omega] at w
      exact g2 w
theorem best_inG (hG : Bst f n 0 g) : ∀ k b, n - b ≤ k → b ≤ n → g b ≤ M → InG f M b (bestL f g M n b) := by
  intro k
  induction k with
  | zero =>
    intro b hk hb _
    rw [bestL_stop (by omega)]
    trivial
  | succ k ih =>
    intro b hk hb hM
    by_cases c : b < n
    · obtain ⟨e, h1, h2, h3⟩ := hG.hit b (Nat.zero_le _) c
      have h5 := bEnd_ge (f := f) (g := g) (M := M) (n := n) (b := b) (n - (b + 1)) (b + 1) (Nat.le_refl _)
      have h6 := bEnd_le (f := f) (g := g) (M := M) (n := n) (b := b) (n - (b + 1)) (b + 1) (Nat.le_refl _) (by omega)
      have h4 := bEnd_hit (f := f) (g := g) (M := M) (n := n) (b := b) (n - (b + 1)) (b + 1) (Nat.le_refl _) (by omega) ⟨e, h1, h2, by rw [← h3]; exact Rat.not_lt.mpr hM⟩
      rw [bestL_go c]
      generalize bEnd f g M n b (b + 1) = e' at *
      have h7 := gr_ge (f b e') (g e')
      refine ⟨?_, ?_⟩
      · rw [show b + ((e' - b : Nat) : Int).toNat = e' by omega]
        grind
      · rw [show b + ((e' - b : Nat) : Int).toNat = e' by omega]
        exact ih e' (by omega) h6 (by grind)
    · rw [bestL_stop c]
      trivial
/-- what going through all sizes has come to -/
structure Bhf (f : Nat → Nat → Rat) (ls : List (List Int)) (o : Option (List Int)) : Prop where
  no : o = none → ls = []
  yes : ∀ s, o = some s → s ∈ ls ∧ ∀ t ∈ ls, wOf f s ≤ wOf f t ∧ (wOf f s = wOf f t → ¬ t < s)
theorem Bhf.nil : Bhf f [] none := ⟨(fun _ => rfl), (fun s h => nomatch h)⟩
theorem Bhf.keep {ls : List (List Int)} {u s : List Int} (h : Bhf f ls (some u)) (hw : (ls ++ [s]).Pairwise (fun a b => ¬ b < a)) (hc : ¬ wOf f s < wOf f u) : Bhf f (ls ++ [s]) (some u) := by
  refine ⟨(fun e => nomatch e), fun u' e => ?_⟩
  injection e with e
  subst e
  obtain ⟨h1, h2⟩ := h.yes _ rfl
  refine ⟨List.mem_append_left _ h1, fun t ht => ?_⟩
  rcases List.mem_append.mp ht with ht | ht
  · exact h2 t ht
  · rw [List.mem_singleton.mp ht]
    exact ⟨Rat.not_lt.mp hc, fun _ => (List.pairwise_append.mp hw).2.2 _ h1 _ (List.mem_singleton.mpr rfl)⟩
theorem Bhf.take {ls : List (List Int)} {o : Option (List Int)} {s : List Int} (h : Bhf f ls o) (hc : ∀ u, o = some u → wOf f s < wOf f u) : Bhf f (ls ++ [s]) (some s) := by
  refine ⟨(fun e => nomatch e), fun u e => ?_⟩
  injection e with e
  subst e
  refine ⟨List.mem_append_right _ (List.mem_singleton.mpr rfl), fun t ht => ?_⟩
  rcases List.mem_append.mp ht with ht | ht
  · cases o with
    | none =>
      rw [h.no rfl] at ht
      cases ht
    | some u =>
      have h1 := hc u rfl
      have h2 := ((h.yes u rfl).2 t ht).1
      exact ⟨by grind, fun z => by grind⟩
  · rw [List.mem_singleton.mp ht]
    exact ⟨Rat.le_refl, fun _ z => (lex_total s s).elim (fun q => q z) (fun q => q z)⟩
theorem Bhf.best {ls : List (List Int)} {o : Option (List Int)} (h : Bhf f ls o) (hG : Bst f n 0 g) (h0 : 1 ≤ n) (hf : ∀ i j, AllR n i j → 1 ≤ f i j) (hl : ∀ s, s ∈ ls ↔ SOk s n) : o = some (bestL f g (g 0) n 0) ∧ wOf f (bestL f g (g 0) n 0) = g 0 := by
  have hcs : SOk (bestL f g (g 0) n 0) n := best_sok
  have g1 : 1 ≤ g 0 := by
    obtain ⟨e, q1, q2, q3⟩ := hG.hit 0 (Nat.zero_le _) (by omega)
    rw [q3]
    have := gr_ge (f 0 e) (g e)
    have := hf 0 e ⟨q1, q2⟩
    grind
  have hw : wOf f (bestL f g (g 0) n 0) ≤ g 0 := (wOf_G hcs h0).mpr (best_inG hG n 0 (by omega) (by omega) Rat.le_refl)
  have low : ∀ s, SOk s n → g 0 ≤ wOf f s := fun s hs => by
    have h1 : 1 ≤ wOf f s := by
      obtain ⟨j, hj, e⟩ := wOf_at (f := f) hs h0
      rw [e]
      exact hf _ _ (off_AllR hs hj)
    exact (best_lex hG h1 s 0 hs.w (by rw [hs.s]; omega) ((wOf_G hs h0).mp Rat.le_refl)).1
  have hwe : wOf f (bestL f g (g 0) n 0) = g 0 := Rat.le_antisymm hw (low _ hcs)
  refine ⟨?_, hwe⟩
  cases o with
  | none =>
    have := (hl _).mpr hcs
    rw [h.no rfl] at this
    cases this
  | some s =>
    obtain ⟨h1, h2⟩ := h.yes s rfl
    have hs := (hl s).mp h1
    obtain ⟨h3, h4⟩ := h2 _ ((hl _).mpr hcs)
    have h5 := low s hs
    have h6 : wOf f s = g 0 := Rat.le_antisymm (by rw [← hwe]; exact h3) h5
    have h7 := (best_lex hG g1 s 0 hs.w (by rw [hs.s]; omega) ((wOf_G hs h0).mp (by rw [h6]; exact Rat.le_refl))).2
    rw [lex_antisymm s _ (h4 (by rw [h6, hwe])) h7]
theorem min_of : ∀ {l : List Rat}, l ≠ [] → ∃ m ∈ l, ∀ y ∈ l, m ≤ y
  | [], h => absurd rfl h
  | [x], _ => ⟨x, List.mem_singleton.mpr rfl, fun y hy => by rw [List.mem_singleton.mp hy]; exact Rat.le_refl⟩
  | x :: y :: r, _ => by
    obtain ⟨m, h1, h2⟩ := min_of (l := y :: r) (by simp)
    by_cases c : x ≤ m
    · refine ⟨x, List.mem_cons_self, fun z hz => ?_⟩
      rcases List.mem_cons.mp hz with rfl | hz
      · exact Rat.le_refl
      · exact Rat.le_trans c (h2 z hz)
    · refine ⟨m, List.mem_cons_of_mem _ h1, fun z hz => ?_⟩
      rcases List.mem_cons.mp hz with rfl | hz
      · grind
      · exact h2 z hz
theorem Bst.exL (f : Nat → Nat → Rat) (n : Nat) : ∀ k, k ≤ n → ∃ g, Bst f n (n - k) g := by
  intro k
  induction k with
  | zero => exact fun _ => ⟨fun _ => 1, rfl, fun b h1 h2 => absurd h2 (by omega), fun b h1 h2 => absurd h2 (by omega)⟩
  | succ k ih =>
    intro hk
    obtain ⟨g, h⟩ := ih (by omega)
    obtain ⟨b, hb⟩ : ∃ b, b = n - (k + 1) := ⟨_, rfl⟩
    rw [show n - k = b + 1 by omega] at h
    rw [← hb]
    obtain ⟨m, h1, h2⟩ := min_of (l := ((List.range (n + 1)).filter fun e => decide (b < e)).map fun e => gr (f b e) (g e)) (fun z => by
      have : n ∈ (List.range (n + 1)).filter fun e => decide (b < e) := List.mem_filter.mpr ⟨List.mem_range.mpr (by omega), decide_eq_true (by omega)⟩
      rw [List.map_eq_nil_iff] at z
      rw [z] at this
      cases this)
    have hg : ∀ e, e ≠ b → (fun e => if e = b then m else g e) e = g e := fun e z => if_neg z
    refine ⟨fun e => if e = b then m else g e, ?_, fun b' q1 q2 => ?_, fun b' q1 q2 e q3 q4 => ?_⟩
    · show (if n = b then m else g n) = 1
      rw [if_neg (by omega)]
      exact h.e
    · by_cases z : b' = b
      · subst z
        obtain ⟨e, q3, q4⟩ := List.mem_map.mp h1
        obtain ⟨q5, q6⟩ := List.mem_filter.mp q3
        have q5 := List.mem_range.mp q5
        have q6 := of_decide_eq_true q6
        refine ⟨e, q6, by omega, ?_⟩
        show (if b' = b' then m else g b') = gr (f b' e) (if e = b' then m else g e)
        rw [if_pos rfl, if_neg (by omega)]
        exact q4.symm
      · obtain ⟨e, q3, q4, q5⟩ := h.hit b' (by omega) q2
        refine ⟨e, q3, q4, ?_⟩
        show (if b' = b then m else g b') = gr (f b' e) (if e = b then m else g e)
        rw [if_neg z, if_neg (by omega)]
        exact q5
    · show (if b' = b then m else g b') ≤ gr (f b' e) (if e = b then m else g e)
      rw [if_neg (show ¬ e = b by omega)]
      by_cases z : b' = b
      · subst z
        rw [if_pos rfl]
        exact h2 _ (List.mem_map.mpr ⟨e, List.mem_filter.mpr ⟨List.mem_range.mpr (by omega), decide_eq_true q3⟩, rfl⟩)
      · rw [if_neg z]
        exact h.le b' (by omega) q2 e q3 q4
theorem Bst.exists_ (f : Nat → Nat → Rat) (n : Nat) : ∃ g, Bst f n 0 g := by
  obtain ⟨g, h⟩ := Bst.exL f n n (Nat.le_refl _)
  rw [Nat.sub_self] at h
  exact ⟨g, h⟩
end
@[irreducible] def spLBest (K : PySem.W.Frag) : Sp := fun vs H Q _ => ∃ (v : V) (a : Addr) (b : Bx) (ws : List Int) (d : Bool), vs = [v, .ref a, .str (sd d)] ∧ BxV K H v b ∧ b.Ok 202 ∧ SqL K H a (ws.map V.int) ∧ WOk ws ∧ ws.length ≤ 7 ∧ ∀ p t w g H', Same H H' → Bst (fSh b ws d) ws.length 0 g → SqT K H' p [.ref t, w] → SqT K H' t ((bestL (fSh b ws d) g (g 0) ws.length 0).map V.int) → PtV K H' w (g 0) → Q (.ref p) H'
theorem lbest_step {K : PySem.W.Frag} {H : Hp} {Q : VK} {E : XK} {vs : List V} {v : V} {a : Addr} {b : Bx} {ws : List Int} {d : Bool} {i : Nat} (hv : BxV K H v b) (hb : b.Ok i) (hi : i ≤ 202) (h : SqL K H a (ws.map V.int)) (hw : WOk ws) (hn : ws.length ≤ 7) (q : ∀ p t w g H', Same H H' → Bst (fSh b ws d) ws.length 0 g → SqT K H' p [.ref t, w] → SqT K H' t ((bestL (fSh b ws d) g (g 0) ws.length 0).map V.int) → PtV K H' w (g 0) → Q (.ref p) H') (hvs : vs = [v, .ref a, .str (sd d)] := by rfl) : spLBest K vs H Q E := by
  unfold spLBest
  exact ⟨v, a, b, ws, d, hvs, hv, hb.mono hi, h, hw, hn, q⟩
end Cc
set_option maxHeartbeats 4000000
/-! XTree: slices as trees: boxes of the leaves, forms, the worst shape, the least of all trees. -/
namespace Cc
open PySem PySem.Spec PyProof.Rows L2
inductive Tr
  | leaf
  | node (d : Bool) (a c : Tr)
def Tr.n : Tr → Nat
  | .leaf => 1
  | .node _ a c => a.n + c.n
theorem Tr.pos : ∀ t : Tr, 1 ≤ t.n
  | .leaf => Nat.le_refl _
  | .node _ a c => by
    have := a.pos
    show 1 ≤ a.n + c.n
    omega
def dTr : Tr → PyData
  | .leaf => .tuple []
  | .node d a c => .tuple [.str (sd d), dTr a, dTr c]
/-- the two halves of a box by the sums of the weights -/
def hlf (b : Bx) (ws : List Int) (k : Nat) (d : Bool) (i : Nat) : Bx := cutAt b [(ws.take k).sum, (ws.drop k).sum] d i
def leavesM : Bx → List Int → Tr → List Bx
  | b, _, .leaf => [b]
  | b, ws, .node d a c => leavesM (hlf b ws a.n d 0) (ws.take a.n) a ++ leavesM (hlf b ws a.n d 1) (ws.drop a.n) c
def bform (b : Bx) : Rat := b.w / b.h
def fhalf (f : Rat) (part total : Int) (d : Bool) : Rat := f * (if d then Rat.divInt total part else Rat.divInt part total)
def shF (f : Rat) : Rat := gr f (1 / f)
def worstF : Rat → List Int → Tr → Rat
  | f, _, .leaf => shF f
  | f, ws, .node d a c => gr (worstF (fhalf f (ws.take a.n).sum ws.sum d) (ws.take a.n) a) (worstF (fhalf f (ws.drop a.n).sum ws.sum d) (ws.drop a.n) c)
theorem leavesM_len : ∀ (t : Tr) (b : Bx) (ws : List Int), (leavesM b ws t).length = t.n
  | .leaf, _, _ => rfl
  | .node d a c, b, ws => by
    show (leavesM _ _ a ++ leavesM _ _ c).length = a.n + c.n
    rw [List.length_append, leavesM_len a, leavesM_len c]
theorem leavesM_ne (t : Tr) (b : Bx) (ws : List Int) : leavesM b ws t ≠ [] := fun z => by
  have h := leavesM_len t b ws
  have p := t.pos
  rw [z] at h
  have h : 0 = t.n := h
  omega
/-- weights, all from 1 on -/
structure Ws (ws : List Int) (m : Nat) : Prop where
  len : ws.length = m
  w : ∀ x ∈ ws, 1 ≤ x
  s : ws.sum ≤ 4800000
theorem Ws.cut {ws : List Int} {m k : Nat} (h : Ws ws m) (hk : k ≤ m) : Ws (ws.take k) k ∧ Ws (ws.drop k) (m - k) ∧ ws.sum = (ws.take k).sum + (ws.drop k).sum := by
  have e : ws.sum = (ws.take k).sum + (ws.drop k).sum := by rw [← List.sum_append, List.take_append_drop]
  have h1 := sum_nn (ws := ws.take k) fun x hx => h.w x (List.mem_of_mem_take hx)
  have h2 := sum_nn (ws := ws.drop k) fun x hx => h.w x (List.mem_of_mem_drop hx)
  have hs := h.s
  refine ⟨⟨by rw [List.length_take, h.len]; omega, fun x hx => h.w x (List.mem_of_mem_take hx), by omega⟩, ⟨by rw [List.length_drop, h.len], fun x hx => h.w x (List.mem_of_mem_drop hx), by omega⟩, e⟩
theorem Ws.pos {ws : List Int} {m : Nat} (h : Ws ws m) (hm : 1 ≤ m) : 1 ≤ ws.sum := by
  have h1 := sum_nn h.w
  have h2 := h.len
  omega
theorem Ws.two {ws : List Int} {m k : Nat} (h : Ws ws m) (h1 : 1 ≤ k) (h2 : k < m) : WGk [(ws.take k).sum, (ws.drop k).sum] := by
  obtain ⟨a, b, e⟩ := h.cut (Nat.le_of_lt h2)
  have p := a.pos h1
  have q := b.pos (by omega)
  have s := h.s
  refine ⟨(show 1 ≤ 2 by decide), (show 2 ≤ 12 by decide), fun x hx => ?_, ?_⟩
  · rcases List.mem_cons.mp hx with rfl | hx
    · exact p
    · rcases List.mem_singleton.mp hx with rfl
      exact q
  · show (ws.take k).sum + ((ws.drop k).sum + 0) ≤ 4800000
    omega
theorem Ws.two_sum {ws : List Int} {m k : Nat} (h : Ws ws m) (h2 : k ≤ m) : [(ws.take k).sum, (ws.drop k).sum].sum = ws.sum := by
  obtain ⟨a, b, e⟩ := h.cut h2
  show (ws.take k).sum + ((ws.drop k).sum + 0) = ws.sum
  omega
theorem WGk.ws {ws : List Int} (h : WGk ws) : Ws ws ws.length := ⟨rfl, h.w, h.s⟩
/-- the sizes of a box that was split so often -/
def hbk (k : Nat) : Nat := 202 + 23 * k
def tbk (k : Nat) : Nat := 202 + 214 * k + 12 * k * k
structure BOk (k : Nat) (b : Bx) : Prop where
  w0 : 0 < b.w
  h0 : 0 < b.h
  sl : Sz (tbk k) b.l
  st : Sz (tbk k) b.t
  sw : Sz (hbk k) b.w
  sh : Sz (hbk k) b.h
theorem BOk.of {b : Bx} (h : b.Ok 202) : BOk 0 b := ⟨h.w0, h.h0, h.sl, h.st, h.sw, h.sh⟩
theorem BOk.ok {b : Bx} {k n : Nat} (h : BOk k b) (h1 : tbk k ≤ n) (h2 : hbk k ≤ n) : b.Ok n := ⟨h.w0, h.h0, h.sl.mono h1, h.st.mono h1, h.sw.mono h2, h.sh.mono h2⟩
theorem BOk.ok1500 {b : Bx} {k : Nat} (h : BOk k b) (hk : k ≤ 4) : b.Ok 1500 := by
  refine h.ok ?_ (by unfold hbk; omega)
  rcases k with _ | _ | _ | _ | _ | k
  · decide
  · decide
  · decide
  · decide
  · decide
  · omega
theorem BOk.ok1900 {b : Bx} {k : Nat} (h : BOk k b) (hk : k ≤ 5) : b.Ok 1900 := by
  refine h.ok ?_ (by unfold hbk; omega)
  rcases k with _ | _ | _ | _ | _ | _ | k
  · decide
  · decide
  · decide
  · decide
  · decide
  · decide
  · omega
theorem tbk_step (k : Nat) : tbk k + (hbk k + 23) + 1 ≤ tbk (k + 1) := by
  unfold tbk hbk
  have : 12 * (k + 1) * (k + 1) = 12 * k * k + 24 * k + 12 := by grind
  rw [this]
  omega
theorem tbk_mono (k : Nat) : tbk k ≤ tbk (k + 1) := by have := tbk_step k; omega
theorem BOk.cut {b : Bx} {k : Nat} {ws : List Int} {d : Bool} {i : Nat} (h : BOk k b) (hW : WGk ws) (hi : i < ws.length) : BOk (k + 1) (cutAt b ws d i) := by
  have s0 := hW.shr hi
  have hg := hW.getD hi
  have z1 : Sz 23 (pre ws i) := sz_share (hW.take i) hW.sum
  have z2 : Sz 23 (shr ws i) := sz_share (by omega) hW.sum
  have ts := tbk_step k
  have tm := tbk_mono k
  have hm : hbk k ≤ hbk (k + 1) := by unfold hbk; omega
  have hh : hbk k + 23 ≤ hbk (k + 1) := by unfold hbk; omega
  rw [cutAt_eq]
  unfold slab
  cases d with
  | true =>
    rw [if_pos rfl]
    exact ⟨h.w0, Rat.mul_pos h.h0 s0, h.sl.mono tm, sz_add h.st (sz_mul h.sh z1 (Nat.le_refl _)) ts, h.sw.mono hm, sz_mul h.sh z2 hh⟩
  | false =>
    rw [if_neg Bool.false_ne_true]
    exact ⟨Rat.mul_pos h.w0 s0, h.h0, sz_add h.sl (sz_mul h.sw z1 (Nat.le_refl _)) ts, h.st.mono tm, sz_mul h.sw z2 hh, h.sh.mono hm⟩
theorem leaves_ok : ∀ (t : Tr) {b : Bx} {ws : List Int} {k : Nat}, BOk k b → Ws ws t.n → ∀ x ∈ leavesM b ws t, ∃ j, j < k + t.n ∧ BOk j x
  | .leaf, b, ws, k, hb, _, x, hx => by
    rcases List.mem_singleton.mp hx with rfl
    exact ⟨k, (show k < k + 1 by omega), hb⟩
  | .node d a c, b, ws, k, hb, hW, x, hx => by
    have pa := a.pos
    have pc := c.pos
    have hn : (Tr.node d a c).n = a.n + c.n := rfl
    have h2 := hW.two pa (show a.n < (Tr.node d a c).n by omega)
    obtain ⟨h3, h4, _⟩ := hW.cut (k := a.n) (by omega)
    rw [hn, Nat.add_sub_cancel_left] at h4
    rcases List.mem_append.mp hx with hx | hx
    · obtain ⟨j, hj, r⟩ := leaves_ok a (hb.cut h2 (i := 0) (d := d) (by show 0 < 2; decide)) h3 x hx
      exact ⟨j, by omega, r⟩
    · obtain ⟨j, hj, r⟩ := leaves_ok c (hb.cut h2 (i := 1) (d := d) (by show 1 < 2; decide)) h4 x hx
      exact ⟨j, by omega, r⟩
/-! ### forms -/
theorem bform_pos {b : Bx} (hw : 0 < b.w) (hh : 0 < b.h) : 0 < bform b := by
  unfold bform
  rw [Rat.div_def]
  exact Rat.mul_pos hw (Rat.inv_pos.mpr hh)
theorem inv_form {w h : Rat} (hw : 0 < w) (hh : 0 < h) : h / w = 1 / (w / h) := by
  have e : w / h * h = w := by rw [Rat.div_def, Rat.mul_assoc, Rat.inv_mul_cancel h (by grind), Rat.mul_one]
  have p : 0 < w / h := by
    rw [Rat.div_def]
    exact Rat.mul_pos hw (Rat.inv_pos.mpr hh)
  symm
  refine div_of ?_ (by grind)
  have e2 : h / w * w = h := by rw [Rat.div_def, Rat.mul_assoc, Rat.inv_mul_cancel w (by grind), Rat.mul_one]
  have : h / w * (w / h) * h = h := by rw [Rat.mul_assoc, e, e2]
  have h3 : (h / w * (w / h)) * h = 1 * h := by rw [this, Rat.one_mul]
  have := congrArg (fun z => z * h⁻¹) h3
  simp only [Rat.mul_assoc, Rat.mul_inv_cancel h (by grind : h ≠ 0), Rat.mul_one] at this
  grind
theorem shp_form2 {b : Bx} (hw : 0 < b.w) (hh : 0 < b.h) : shp b = shF (bform b) := by
  unfold shp shF bform
  rw [inv_form hw hh]
theorem divInt_inv {a c : Int} (ha : 0 < a) (hc : 0 < c) : Rat.divInt a c * Rat.divInt c a = 1 := by
  rw [Rat.divInt_mul_divInt, Int.mul_comm, Rat.divInt_self' (Int.ne_of_gt (Int.mul_pos hc ha))]
theorem form_cut {b : Bx} {ws : List Int} {d : Bool} {i : Nat} (hw : 0 < b.w) (hh : 0 < b.h) (hW : WGk ws) (hi : i < ws.length) : bform (cutAt b ws d i) = fhalf (bform b) (ws.getD i 0) ws.sum d := by
  have s0 := hW.shr hi
  have hg := hW.getD hi
  have hs := hW.sum
  rw [cutAt_eq]
  unfold slab fhalf bform
  cases d with
  | true =>
    rw [if_pos rfl, if_pos rfl]
    show b.w / (b.h * shr ws i) = b.w / b.h * Rat.divInt ws.sum (ws.getD i 0)
    have e : shr ws i * Rat.divInt ws.sum (ws.getD i 0) = 1 := divInt_inv (by omega) (by omega)
    have p := Rat.mul_pos hh s0
    refine div_of ?_ (by grind)
    have e2 : b.w / b.h * b.h = b.w := by rw [Rat.div_def, Rat.mul_assoc, Rat.inv_mul_cancel b.h (by grind), Rat.mul_one]
    calc b.w = b.w / b.h * b.h := e2.symm
      _ = b.w / b.h * b.h * (shr ws i * Rat.divInt ws.sum (ws.getD i 0)) := by rw [e, Rat.mul_one]
      _ = _ := by grind
  | false =>
    rw [if_neg Bool.false_ne_true, if_neg Bool.false_ne_true]
    show b.w * shr ws i / b.h = b.w / b.h * Rat.divInt (ws.getD i 0) ws.sum
    rw [Rat.div_def, Rat.div_def]
    show b.w * shr ws i * b.h⁻¹ = b.w * b.h⁻¹ * shr ws i
    grind
theorem form_hlf {b : Bx} {ws : List Int} {m k : Nat} {d : Bool} (hw : 0 < b.w) (hh : 0 < b.h) (h : Ws ws m) (h1 : 1 ≤ k) (h2 : k < m) :
    bform (hlf b ws k d 0) = fhalf (bform b) (ws.take k).sum ws.sum d ∧ bform (hlf b ws k d 1) = fhalf (bform b) (ws.drop k).sum ws.sum d := by
  have g := h.two h1 h2
  have e := h.two_sum (Nat.le_of_lt h2)
  constructor
  · have := form_cut (d := d) (i := 0) hw hh g (by show 0 < 2; decide)
    rw [e] at this
    exact this
  · have := form_cut (d := d) (i := 1) hw hh g (by show 1 < 2; decide)
    rw [e] at this
    exact this
theorem mostL_append {xs ys : List Rat} (hx : xs ≠ []) (hy : ys ≠ []) : mostL (xs ++ ys) = gr (mostL xs) (mostL ys) := by
  refine mostL_eq ?_ fun q hq => ?_
  · rcases gr_or (mostL xs) (mostL ys) with e | e
    · rw [e]
      exact List.mem_append_left _ (mostL_mem hx)
    · rw [e]
      exact List.mem_append_right _ (mostL_mem hy)
  · have g := gr_ge (mostL xs) (mostL ys)
    rcases List.mem_append.mp hq with hq | hq
    · exact Rat.le_trans (mostL_ge hq) g.1
    · exact Rat.le_trans (mostL_ge hq) g.2
/-- the greatest shape of the leaves, by forms -/
theorem worst_leaves : ∀ (t : Tr) {b : Bx} {ws : List Int} {k : Nat}, BOk k b → Ws ws t.n → mostL ((leavesM b ws t).map shp) = worstF (bform b) ws t
  | .leaf, b, ws, k, hb, _ => by
    show mostL [shp b] = shF (bform b)
    rw [← shp_form2 hb.w0 hb.h0]
    unfold mostL
    exact gr_self _
  | .node d a c, b, ws, k, hb, hW => by
    have pa := a.pos
    have pc := c.pos
    have hn : (Tr.node d a c).n = a.n + c.n := rfl
    have h2 := hW.two pa (show a.n < (Tr.node d a c).n by omega)
    obtain ⟨h3, h4, _⟩ := hW.cut (k := a.n) (by omega)
    rw [hn, Nat.add_sub_cancel_left] at h4
    have i1 := worst_leaves a (hb.cut h2 (i := 0) (d := d) (by show 0 < 2; decide)) h3
    have i2 := worst_leaves c (hb.cut h2 (i := 1) (d := d) (by show 1 < 2; decide)) h4
    obtain ⟨f1, f2⟩ := form_hlf (d := d) hb.w0 hb.h0 hW pa (show a.n < (Tr.node d a c).n by omega)
    show mostL ((leavesM (hlf b ws a.n d 0) (ws.take a.n) a ++ leavesM (hlf b ws a.n d 1) (ws.drop a.n) c).map shp) = gr _ _
    rw [List.map_append, mostL_append (by simpa using leavesM_ne a _ _) (by simpa using leavesM_ne c _ _), ← f1, ← f2]
    exact congr (congrArg gr i1) i2
/-! ### the least of all trees -/
def LeastF (f : Rat) (ws : List Int) (r : Rat) : Prop := (∃ t : Tr, t.n = ws.length ∧ worstF f ws t = r) ∧ ∀ t : Tr, t.n = ws.length → r ≤ worstF f ws t
theorem LeastF.uniq {f : Rat} {ws : List Int} {r s : Rat} (h1 : LeastF f ws r) (h2 : LeastF f ws s) : r = s := by
  obtain ⟨⟨t1, a1, b1⟩, c1⟩ := h1
  obtain ⟨⟨t2, a2, b2⟩, c2⟩ := h2
  have x := c1 t2 a2
  have y := c2 t1 a1
  rw [b2] at x
  rw [b1] at y
  exact Rat.le_antisymm x y
/-- all places where n things may be split, in order -/
def spl (n : Nat) : List (Bool × Nat) := ((List.range (n - 1)).map fun i => (true, i + 1)) ++ (List.range (n - 1)).map fun i => (false, i + 1)
theorem spl_len (n : Nat) : (spl n).length = 2 * (n - 1) := by
  unfold spl
  rw [List.length_append, List.length_map, List.length_map, List.length_range]
  omega
theorem spl_mem {n : Nat} {x : Bool × Nat} : x ∈ spl n ↔ 1 ≤ x.2 ∧ x.2 < n := by
  unfold spl
  rw [List.mem_append, List.mem_map, List.mem_map]
  constructor
  · rintro (⟨i, hi, rfl⟩ | ⟨i, hi, rfl⟩)
    · have := List.mem_range.mp hi
      show 1 ≤ i + 1 ∧ i + 1 < n
      omega
    · have := List.mem_range.mp hi
      show 1 ≤ i + 1 ∧ i + 1 < n
      omega
  · rintro ⟨h1, h2⟩
    obtain ⟨d, k⟩ := x
    have h1 : 1 ≤ k := h1
    have h2 : k < n := h2
    have e : k = k - 1 + 1 := by omega
    cases d with
    | true => exact .inl ⟨k - 1, List.mem_range.mpr (by omega), by rw [← e]⟩
    | false => exact .inr ⟨k - 1, List.mem_range.mpr (by omega), by rw [← e]⟩
theorem tr_one {t : Tr} (h : t.n = 1) : t = .leaf := by
  cases t with
  | leaf => rfl
  | node d a c =>
    have := a.pos
    have := c.pos
    have h : a.n + c.n = 1 := h
    omega
theorem least_one {f : Rat} {w : Int} : LeastF f [w] (shF f) := ⟨⟨.leaf, rfl, rfl⟩, fun t ht => by rw [tr_one ht]; exact Rat.le_refl⟩
/-- the best of one split -/
def splR (f : Rat) (ws : List Int) (x : Bool × Nat) (r : Rat) : Prop := ∃ p q, LeastF (fhalf f (ws.take x.2).sum ws.sum x.1) (ws.take x.2) p ∧ LeastF (fhalf f (ws.drop x.2).sum ws.sum x.1) (ws.drop x.2) q ∧ r = gr p q
/-- the best of some splits, r, and a tree that has it -/
def BestOf (f : Rat) (ws : List Int) (l : List (Bool × Nat)) (r : Rat) : Prop := (∃ x ∈ l, splR f ws x r) ∧ ∀ x ∈ l, ∀ s, splR f ws x s → r ≤ s
theorem gr_mono {a b c d : Rat} (h1 : a ≤ c) (h2 : b ≤ d) : gr a b ≤ gr c d := by
  unfold gr
  split <;> split <;> grind
theorem splR_tree {f : Rat} {ws : List Int} {x : Bool × Nat} {r : Rat} (h1 : 1 ≤ x.2) (h2 : x.2 < ws.length) (h : splR f ws x r) : (∃ a c : Tr, a.n = x.2 ∧ c.n = ws.length - x.2 ∧ worstF f ws (.node x.1 a c) = r) ∧ ∀ a c : Tr, a.n = x.2 → c.n = ws.length - x.2 → r ≤ worstF f ws (.node x.1 a c) := by
  obtain ⟨p, q, ⟨⟨a, ha, ea⟩, la⟩, ⟨⟨c, hc, ec⟩, lc⟩, rfl⟩ := h
  have e1 : (ws.take x.2).length = x.2 := by rw [List.length_take]; omega
  have e2 : (ws.drop x.2).length = ws.length - x.2 := by rw [List.length_drop]
  rw [e1] at ha
  rw [e2] at hc
  constructor
  · refine ⟨a, c, ha, hc, ?_⟩
    unfold worstF
    rw [ha, ea, ec]
  · intro a' c' ha' hc'
    have := la a' (by rw [ha', e1])
    have := lc c' (by rw [hc', e2])
    show gr p q ≤ gr _ _
    rw [ha']
    exact gr_mono (by assumption) (by assumption)
theorem splR_uniq {f : Rat} {ws : List Int} {x : Bool × Nat} {r s : Rat} (h1 : splR f ws x r) (h2 : splR f ws x s) : r = s := by
  obtain ⟨p, q, a, b, rfl⟩ := h1
  obtain ⟨p', q', a', b', rfl⟩ := h2
  rw [a.uniq a', b.uniq b']
theorem best_least {f : Rat} {ws : List Int} {r : Rat} (hn : 2 ≤ ws.length) (hall : ∀ x ∈ spl ws.length, ∃ s, splR f ws x s) (h : BestOf f ws (spl ws.length) r) : LeastF f ws r := by
  obtain ⟨⟨x, hx, hr⟩, hle⟩ := h
  have hx' := spl_mem.mp hx
  constructor
  · obtain ⟨⟨a, c, ha, hc, e⟩, _⟩ := splR_tree hx'.1 hx'.2 hr
    refine ⟨.node x.1 a c, ?_, e⟩
    show a.n + c.n = ws.length
    omega
  · intro t ht
    cases t with
    | leaf =>
      have ht : 1 = ws.length := ht
      omega
    | node d a c =>
      have pa := a.pos
      have pc := c.pos
      have ht : a.n + c.n = ws.length := ht
      have hm : (d, a.n) ∈ spl ws.length := spl_mem.mpr ⟨pa, by show a.n < ws.length; omega⟩
      obtain ⟨s, hs⟩ := hall _ hm
      exact Rat.le_trans (hle _ hm s hs) ((splR_tree pa (by show a.n < ws.length; omega) hs).2 a c rfl (by show c.n = ws.length - a.n; omega))
theorem BestOf.first {f : Rat} {ws : List Int} {x : Bool × Nat} {r : Rat} (h : splR f ws x r) : BestOf f ws [x] r := ⟨⟨x, List.mem_cons_self, h⟩, fun y hy s hs => by
  rcases List.mem_singleton.mp hy with rfl
  rw [splR_uniq hs h]
  exact Rat.le_refl⟩
theorem BestOf.next {f : Rat} {ws : List Int} {l : List (Bool × Nat)} {x : Bool × Nat} {r s : Rat} (h : BestOf f ws l r) (hs : splR f ws x s) : BestOf f ws (l ++ [x]) (if s < r then s else r) := by
  obtain ⟨⟨y, hy, hr⟩, hle⟩ := h
  by_cases c : s < r
  · rw [if_pos c]
    refine ⟨⟨x, List.mem_append_right _ List.mem_cons_self, hs⟩, fun z hz u hu => ?_⟩
    rcases List.mem_append.mp hz with hz | hz
    · have := hle z hz u hu
      grind
    · rcases List.mem_singleton.mp hz with rfl
      rw [splR_uniq hu hs]
      exact Rat.le_refl
  · rw [if_neg c]
    refine ⟨⟨y, List.mem_append_left _ hy, hr⟩, fun z hz u hu => ?_⟩
    rcases List.mem_append.mp hz with hz | hz
    · exact hle z hz u hu
    · rcases List.mem_singleton.mp hz with rfl
      rw [splR_uniq hu hs]
      grind
/-- it is there -/
theorem least_exists : ∀ (n : Nat) {f : Rat} {ws : List Int}, ws.length = n → 1 ≤ n → ∃ r, LeastF f ws r := by
  intro n
  induction n using Nat.strongRecOn with
  | ind n ih =>
    intro f ws hl h1
    by_cases h2 : n = 1
    · subst h2
      match ws, hl with
      | [w], _ => exact ⟨_, least_one⟩
    · have hall : ∀ x ∈ spl ws.length, ∃ s, splR f ws x s := fun x hx => by
        have hx' := spl_mem.mp hx
        obtain ⟨p, hp⟩ := ih x.2 (by omega) (f := fhalf f (ws.take x.2).sum ws.sum x.1) (ws := ws.take x.2) (by rw [List.length_take]; omega) hx'.1
        obtain ⟨q, hq⟩ := ih (n - x.2) (by omega) (f := fhalf f (ws.drop x.2).sum ws.sum x.1) (ws := ws.drop x.2) (by rw [List.length_drop]; omega) (by omega)
        exact ⟨_, p, q, hp, hq, rfl⟩
      have key : ∀ l : List (Bool × Nat), l ≠ [] → (∀ x ∈ l, ∃ s, splR f ws x s) → ∃ r, BestOf f ws l.reverse r := by
        intro l
        induction l with
        | nil => intro h; exact absurd rfl h
        | cons x l ihl =>
          intro _ h
          obtain ⟨s, hs⟩ := h x List.mem_cons_self
          rw [List.reverse_cons]
          by_cases e : l = []
          · rw [e]
            exact ⟨s, .first hs⟩
          · obtain ⟨r, hr⟩ := ihl e fun y hy => h y (List.mem_cons_of_mem _ hy)
            exact ⟨_, hr.next hs⟩
      obtain ⟨r, hr⟩ := key (spl ws.length).reverse (fun z => by
        have := spl_len ws.length
        rw [List.reverse_eq_nil_iff.mp z] at this
        have : 0 = 2 * (ws.length - 1) := this
        omega) (fun x hx => hall x (List.mem_reverse.mp hx))
      rw [List.reverse_reverse] at hr
      exact ⟨r, best_least (by omega) hall hr⟩
end Cc
set_option maxHeartbeats 4000000
/-! XTreP: promises of the defs about slices. -/
namespace Cc
open PySem PySem.Spec PyProof.Rows L2
/-! ### a slice of ints that stand in a list or a tuple -/
@[irreducible] def rSlI (K : PySem.W.Frag) : V → Option Int → Option Int → Hp → VK → Prop := fun x lo hi H Q => rSlL K x lo hi H Q ∨ rSlA K x lo hi H Q
theorem sl_ints {X : Cx} : SlR X (rSlI X.K) := by
  unfold rSlI
  exact SlR.or sl_list sl_tupA
theorem slI_step {K : PySem.W.Frag} {H : Hp} {a : Addr} {ws row : List Int} {lo hi : Option Int} {Q : VK} (h : IntsV K H a ws) (hc : cutV (ws.map V.int) lo hi = row.map V.int) (q : ∀ p H', Same H H' → IntsV K H' p row → Q (.ref p) H') : rSlI K (.ref a) lo hi H Q := by
  unfold rSlI
  rcases h with hs | hs
  · refine .inl ⟨a, _, rfl, hs, fun p np => q p _ (same_new np) (.inl ?_)⟩
    rw [← hc]
    exact SqL.of upd_same
  · refine .inr ⟨a, _, rfl, hs, fun hw => q a _ (Same.refl _) (.inr ?_), fun hw p np => q p _ (same_new np) (.inr ?_)⟩
    · have e : cutV (ws.map V.int) lo hi = ws.map V.int := by
        unfold cutV
        rw [hw.1, hw.2, List.drop_zero, Nat.sub_zero]
        exact List.take_of_length_le (Nat.le_refl _)
      rw [← hc, e]
      exact hs
    · rw [← hc]
      exact SqT.of upd_same
theorem cut_take {ws : List Int} {k : Nat} (h : k ≤ ws.length) : cutV (ws.map V.int) none (some (k : Int)) = (ws.take k).map V.int := by
  unfold cutV
  rw [HT.sIx_none, HT.sIx_nat, List.length_map, List.drop_zero, Nat.min_eq_left h, Nat.sub_zero, List.map_take]
theorem cut_drop {ws : List Int} {k : Nat} (h : k ≤ ws.length) : cutV (ws.map V.int) (some (k : Int)) none = (ws.drop k).map V.int := by
  unfold cutV
  rw [HT.sIx_nat, List.length_map, Nat.min_eq_left h, show HT.sIx ws.length ws.length none = ws.length from rfl, ← List.map_drop]
  exact List.take_of_length_le (by rw [List.length_map, List.length_drop]; exact Nat.le_refl _)
section
variable {K : PySem.W.Frag} {H H' : Hp}
theorem dtr_leaf {v : V} (h : Dp K H v (dTr .leaf)) : ∃ a, v = .ref a ∧ SqT K H a [] := by
  cases h with
  | tup hs ha =>
    cases ha
    exact ⟨_, rfl, hs⟩
theorem dtr_node {v : V} {d : Bool} {a c : Tr} (h : Dp K H v (dTr (.node d a c))) : ∃ p v1 v2, v = .ref p ∧ SqT K H p [.str (sd d), v1, v2] ∧ Dp K H v1 (dTr a) ∧ Dp K H v2 (dTr c) := by
  cases h with
  | tup hs ha =>
    cases ha with
    | cons h1 ha =>
      cases ha with
      | cons h2 ha =>
        cases ha with
        | cons h3 ha =>
          cases ha
          cases h1
          exact ⟨_, _, _, rfl, hs, h2, h3⟩
end
theorem dtr_kp {K : PySem.W.Frag} {H H' : Hp} {c : Addr} {ys : List V} (e : Kp c H H') (hc : H c = some (.lst ys)) : ∀ (t : Tr) {v : V}, Dp K H v (dTr t) → Dp K H' v (dTr t)
  | .leaf, v, h => by
    obtain ⟨a, rfl, h'⟩ := dtr_leaf h
    exact .tup (seqT_kp e hc h') .nil
  | .node d a b, v, h => by
    obtain ⟨p, v1, v2, rfl, hp, h1, h2⟩ := dtr_node h
    exact .tup (seqT_kp e hc hp) (.cons (.str _) (.cons (dtr_kp e hc a h1) (.cons (dtr_kp e hc b h2) .nil)))
theorem bxsG {K : PySem.W.Frag} {H : Hp} : ∀ {vs : List V} {bs : List Bx}, Bxs K H vs bs → ∀ {i : Nat} {v : V}, vs[i]? = some v → ∃ b, bs[i]? = some b ∧ BxV K H v b
  | _, _, .nil, i, v, e => by simp at e
  | _, _, .cons (b := b) h r, 0, v, e => by
    cases e
    exact ⟨b, rfl, h⟩
  | _, _, .cons h r, i + 1, v, e => by
    rw [List.getElem?_cons_succ] at e
    obtain ⟨x, h1, h2⟩ := bxsG r e
    exact ⟨x, by rw [List.getElem?_cons_succ]; exact h1, h2⟩
theorem dp_tyn {K : PySem.W.Frag} {H : Hp} {v : V} {d : PyData} (h : Dp K H v d) (ht : tyN d = "tuple") : ∃ a xs ds, v = .ref a ∧ d = .tuple ds ∧ SqT K H a xs ∧ DpAll K H xs ds := by
  cases h with
  | tup hs ha => exact ⟨_, _, _, rfl, rfl, hs, ha⟩
  | non => exact absurd (show ("NoneType" : String) = "tuple" from ht) (by decide)
  | bl b => exact absurd (show ("bool" : String) = "tuple" from ht) (by decide)
  | int i => exact absurd (show ("int" : String) = "tuple" from ht) (by decide)
  | str x => exact absurd (show ("str" : String) = "tuple" from ht) (by decide)
  | lst _ _ => exact absurd (show ("list" : String) = "tuple" from ht) (by decide)
theorem dp_nodict {K : PySem.W.Frag} {H : Hp} {v : V} {d : PyData} (h : Dp K H v d) : tyN d ≠ "dict" := by
  cases h with
  | non => exact (show ("NoneType" : String) ≠ "dict" by decide)
  | bl b => exact (show ("bool" : String) ≠ "dict" by decide)
  | int i => exact (show ("int" : String) ≠ "dict" by decide)
  | str x => exact (show ("str" : String) ≠ "dict" by decide)
  | lst _ _ => exact (show ("list" : String) ≠ "dict" by decide)
  | tup _ _ => exact (show ("tuple" : String) ≠ "dict" by decide)
theorem isi_tup {K : PySem.W.Frag} {H : Hp} {v : V} {d : PyData} {Q : VK} {vs : List V} (h : Dp K H v d) (q : Q (.bl (decide (tyN d = "tuple"))) H) (hvs : vs = [v, .ty "tuple"] := by rfl) : rIsiI K vs H Q := by
  cases d with
  | tuple ds => exact isi_step "tuple" "tuple" true h rfl (by decide +kernel) q hvs
  | none => exact isi_step "NoneType" "tuple" false h rfl (by decide +kernel) q hvs
  | bool _ => exact isi_step "bool" "tuple" false h rfl (by decide +kernel) q hvs
  | int _ => exact isi_step "int" "tuple" false h rfl (by decide +kernel) q hvs
  | str _ => exact isi_step "str" "tuple" false h rfl (by decide +kernel) q hvs
  | list _ => exact isi_step "list" "tuple" false h rfl (by decide +kernel) q hvs
  | dict _ => exact absurd rfl (dp_nodict h)
theorem tyn_dtr (t : Tr) : tyN (dTr t) = "tuple" := by cases t <;> rfl
/-- two counts together: nought where one of them is nought -/
def both (x y : Nat) : Nat := if x = 0 then 0 else if y = 0 then 0 else x + y
/-- how many things, m at most; n: how often it may go on -/
def tn : Nat → Nat → PyData → Nat
  | 0, _, _ => 0
  | n + 1, m, d =>
    if m = 0 then 0 else
    match d with
    | .tuple [] => 1
    | .tuple [s, a, b] => if isSd s then both (tn n (m - 1) a) (tn n (m - tn n (m - 1) a) b) else 0
    | _ => 0
theorem tn_tr : ∀ (t : Tr) {n m : Nat}, t.n ≤ m → m ≤ n → tn n m (dTr t) = t.n
  | t, 0, m, h, hm => by
    have := t.pos
    omega
  | .leaf, n + 1, m, h, hm => by
    have h : 1 ≤ m := h
    show (if m = 0 then 0 else 1) = 1
    rw [if_neg (by omega)]
  | .node d a c, n + 1, m, h, hm => by
    have pa := a.pos
    have pc := c.pos
    have h : a.n + c.n ≤ m := h
    show (if m = 0 then 0 else if isSd (.str (sd d)) then both (tn n (m - 1) (dTr a)) (tn n (m - tn n (m - 1) (dTr a)) (dTr c)) else 0) = a.n + c.n
    rw [if_neg (by omega), isSd_sd, if_pos rfl, tn_tr a (by omega) (by omega), tn_tr c (by omega) (by omega)]
    unfold both
    rw [if_neg (by omega), if_neg (by omega)]
theorem tn_inv : ∀ {n m : Nat} {d : PyData}, tn n m d ≠ 0 → ∃ t, d = dTr t ∧ t.n = tn n m d ∧ t.n ≤ m
  | 0, m, d, h => absurd rfl h
  | n + 1, m, d, h => by
    unfold tn at h ⊢
    by_cases hm : m = 0
    · rw [if_pos hm] at h
      exact absurd rfl h
    rw [if_neg hm] at h ⊢
    split at h
    · exact ⟨.leaf, rfl, rfl, by show 1 ≤ m; omega⟩
    · rename_i s a b
      by_cases hs : isSd s = true
      · rw [if_pos hs] at h ⊢
        obtain ⟨sd', rfl⟩ := isSd_str hs
        have h1 : tn n (m - 1) a ≠ 0 := fun z => h (by unfold both; rw [if_pos z])
        have h2 : tn n (m - tn n (m - 1) a) b ≠ 0 := fun z => h (by unfold both; rw [if_neg h1, if_pos z])
        obtain ⟨ta, ea, na, la⟩ := tn_inv h1
        obtain ⟨tb, eb, nb, lb⟩ := tn_inv h2
        refine ⟨.node sd' ta tb, by rw [ea, eb]; rfl, ?_, ?_⟩
        · show ta.n + tb.n = both _ _
          unfold both
          rw [if_neg h1, if_neg h2, na, nb]
        · show ta.n + tb.n ≤ m
          omega
      · rw [if_neg hs] at h
        exact absurd rfl h
    · exact absurd rfl h
@[irreducible] def spThings (K : PySem.W.Frag) (n : Nat) : Sp := fun vs H Q _ => ∃ (v : V) (d : PyData) (m : Nat), vs = [v, .int (m : Int)] ∧ Dp K H v d ∧ m + 1 ≤ n ∧ ∀ r H', Same H H' → r = V.int (tn n m d : Nat) → Q r H'
@[irreducible] def spLeaves (K : PySem.W.Frag) (n : Nat) : Sp := fun vs H Q _ => ∃ (v w : V) (a : Addr) (b : Bx) (ws : List Int) (t : Tr) (k : Nat), vs = [v, .ref a, w] ∧ BxV K H v b ∧ BOk k b ∧ IntsV K H a ws ∧ Ws ws t.n ∧ Dp K H w (dTr t) ∧ t.n ≤ n ∧ k + t.n ≤ 6 ∧
  ∀ L us H', H L = none → Same H H' → H' L = some (.lst us) → Bxs K H' us (leavesM b ws t) → Q (.ref L) H'
@[irreducible] def spSliced (K : PySem.W.Frag) : Sp := fun vs H Q _ => ∃ (v w : V) (a : Addr) (b : Bx) (ws : List Int) (t : Tr), vs = [v, .ref a, w] ∧ BxV K H v b ∧ b.Ok 202 ∧ IntsV K H a ws ∧ WOk ws ∧ ws.length = t.n ∧ Dp K H w (dTr t) ∧ t.n ≤ 6 ∧
  ∀ L us H', H L = none → Same H H' → H' L = some (.lst us) → Bxs K H' us (leavesM b ws t) → Q (.ref L) H'
@[irreducible] def spSlWorst (K : PySem.W.Frag) : Sp := fun vs H Q _ => ∃ (v w : V) (a : Addr) (b : Bx) (ws : List Int) (t : Tr), vs = [v, .ref a, w] ∧ BxV K H v b ∧ b.Ok 202 ∧ IntsV K H a ws ∧ WOk ws ∧ ws.length = t.n ∧ Dp K H w (dTr t) ∧ t.n ≤ 6 ∧
  ∀ u H', Same H H' → PtV K H' u (worstF (bform b) ws t) → Q u H'
@[irreducible] def spCheckFew (K : PySem.W.Frag) : Sp := fun vs H Q _ => ∃ (v : V) (a : Addr) (b : Bx) (ws : List Int) (m : Int), vs = [v, .ref a, .int m] ∧ BxV K H v b ∧ b.Ok 3900 ∧ IntsV K H a ws ∧ WOk ws ∧ (ws.length : Int) ≤ m ∧ ∀ r H', Same H H' → r = V.non → Q r H'
@[irreducible] def spForm (K : PySem.W.Frag) : Sp := fun vs H Q _ => ∃ (v : V) (b : Bx), vs = [v] ∧ BxV K H v b ∧ b.Ok 1900 ∧ ∀ u H', Same H H' → PtV K H' u (bform b) → Q u H'
@[irreducible] def spShapeF (K : PySem.W.Frag) : Sp := fun vs H Q _ => ∃ (v : V) (f : Rat), vs = [v] ∧ PtV K H v f ∧ 0 < f ∧ Sz 1900 f ∧ ∀ u H', Same H H' → PtV K H' u (shF f) → Q u H'
@[irreducible] def spFHalf (K : PySem.W.Frag) : Sp := fun vs H Q _ => ∃ (v : V) (h a : Addr) (f : Rat) (hs ws : List Int) (d : Bool), vs = [v, .ref h, .ref a, .str (sd d)] ∧ PtV K H v f ∧ Sz 1900 f ∧ IntsV K H h hs ∧ IntsV K H a ws ∧ 1 ≤ hs.sum ∧ hs.sum ≤ 4800000 ∧ 1 ≤ ws.sum ∧ ws.sum ≤ 4800000 ∧
  ∀ u H', Same H H' → PtV K H' u (fhalf f hs.sum ws.sum d) → Q u H'
/-- a half as it stands: its form, its weights -/
def HfV (K : PySem.W.Frag) (H : Hp) (v : V) (f : Rat) (ws : List Int) : Prop := ∃ p w a, v = .ref p ∧ SqT K H p [w, .ref a] ∧ PtV K H w f ∧ IntsV K H a ws
/-- a split as it stands -/
def SplV (K : PySem.W.Frag) (f : Rat) (ws : List Int) (H : Hp) (v : V) (x : Bool × Nat) : Prop :=
  ∃ p L u1 u2, v = .ref p ∧ SqT K H p [.str (sd x.1), .ref L] ∧ H L = some (.lst [u1, u2]) ∧ HfV K H u1 (fhalf f (ws.take x.2).sum ws.sum x.1) (ws.take x.2) ∧ HfV K H u2 (fhalf f (ws.drop x.2).sum ws.sum x.1) (ws.drop x.2)
section
variable {K : PySem.W.Frag} {H H' : Hp}
theorem HfV.same {v : V} {f : Rat} {ws : List Int} (e : Same H H') (h : HfV K H v f ws) : HfV K H' v f ws := by
  obtain ⟨p, w, a, rfl, h1, h2, h3⟩ := h
  exact ⟨p, w, a, rfl, seqT_same e h1, h2.same e, h3.same e⟩
theorem SplV.same {f : Rat} {ws : List Int} {v : V} {x : Bool × Nat} (e : Same H H') (h : SplV K f ws H v x) : SplV K f ws H' v x := by
  obtain ⟨p, L, u1, u2, rfl, h1, h2, h3, h4⟩ := h
  exact ⟨p, L, u1, u2, rfl, seqT_same e h1, e _ _ h2, h3.same e, h4.same e⟩
end
/-- the same, its list none of X -/
def HfN (K : PySem.W.Frag) (X : Addr → Prop) (H : Hp) (v : V) (f : Rat) (ws : List Int) : Prop := ∃ p w a, v = .ref p ∧ SqT K H p [w, .ref a] ∧ PtV K H w f ∧ ((H a = some (.lst (ws.map V.int)) ∧ ¬ X a) ∨ SqT K H a (ws.map V.int))
def SplN (K : PySem.W.Frag) (X : Addr → Prop) (f : Rat) (ws : List Int) (H : Hp) (v : V) (x : Bool × Nat) : Prop :=
  ∃ p L u1 u2, v = .ref p ∧ SqT K H p [.str (sd x.1), .ref L] ∧ H L = some (.lst [u1, u2]) ∧ ¬ X L ∧ HfN K X H u1 (fhalf f (ws.take x.2).sum ws.sum x.1) (ws.take x.2) ∧ HfN K X H u2 (fhalf f (ws.drop x.2).sum ws.sum x.1) (ws.drop x.2)
section
variable {K : PySem.W.Frag} {H H' : Hp} {X : Addr → Prop} {v : V} {f : Rat} {ws : List Int} {x : Bool × Nat}
theorem HfN.same (e : Same H H') (h : HfN K X H v f ws) : HfN K X H' v f ws := by
  obtain ⟨p, w, a, rfl, h1, h2, h3⟩ := h
  exact ⟨p, w, a, rfl, seqT_same e h1, h2.same e, h3.imp (fun h => ⟨e _ _ h.1, h.2⟩) (seqT_same e)⟩
theorem HfN.kp {c : Addr} {ys : List V} (e : Kp c H H') (hc : H c = some (.lst ys)) (hX : X c) (h : HfN K X H v f ws) : HfN K X H' v f ws := by
  obtain ⟨p, w, a, rfl, h1, h2, h3⟩ := h
  exact ⟨p, w, a, rfl, seqT_kp e hc h1, h2.kp e hc, h3.imp (fun h => ⟨e _ _ h.1 (fun z => h.2 (by rw [z]; exact hX)), h.2⟩) (seqT_kp e hc)⟩
theorem HfN.hf (h : HfN K X H v f ws) : HfV K H v f ws := by
  obtain ⟨p, w, a, rfl, h1, h2, h3⟩ := h
  exact ⟨p, w, a, rfl, h1, h2, h3.imp (fun h => SqL.of h.1) id⟩
theorem HfN.mono {Y : Addr → Prop} (hY : ∀ a, Y a → X a) (h : HfN K X H v f ws) : HfN K Y H v f ws := by
  obtain ⟨p, w, a, rfl, h1, h2, h3⟩ := h
  exact ⟨p, w, a, rfl, h1, h2, h3.imp (fun h => ⟨h.1, fun z => h.2 (hY _ z)⟩) id⟩
theorem SplN.same (e : Same H H') (h : SplN K X f ws H v x) : SplN K X f ws H' v x := by
  obtain ⟨p, L, u1, u2, rfl, h1, h2, h0, h3, h4⟩ := h
  exact ⟨p, L, u1, u2, rfl, seqT_same e h1, e _ _ h2, h0, h3.same e, h4.same e⟩
theorem SplN.kp {c : Addr} {ys : List V} (e : Kp c H H') (hc : H c = some (.lst ys)) (hX : X c) (h : SplN K X f ws H v x) : SplN K X f ws H' v x := by
  obtain ⟨p, L, u1, u2, rfl, h1, h2, h0, h3, h4⟩ := h
  exact ⟨p, L, u1, u2, rfl, seqT_kp e hc h1, e _ _ h2 (fun z => h0 (by rw [z]; exact hX)), h0, h3.kp e hc hX, h4.kp e hc hX⟩
theorem SplN.mono {Y : Addr → Prop} (hY : ∀ a, Y a → X a) (h : SplN K X f ws H v x) : SplN K Y f ws H v x := by
  obtain ⟨p, L, u1, u2, rfl, h1, h2, h0, h3, h4⟩ := h
  exact ⟨p, L, u1, u2, rfl, h1, h2, fun z => h0 (hY _ z), h3.mono hY, h4.mono hY⟩
theorem SplN.sp (h : SplN K X f ws H v x) : SplV K f ws H v x := by
  obtain ⟨p, L, u1, u2, rfl, h1, h2, _, h3, h4⟩ := h
  exact ⟨p, L, u1, u2, rfl, h1, h2, h3.hf, h4.hf⟩
end
theorem slN_step {K : PySem.W.Frag} {H : Hp} {a : Addr} {ws row : List Int} {lo hi : Option Int} {Q : VK} (h : IntsV K H a ws) (hc : cutV (ws.map V.int) lo hi = row.map V.int) (q : ∀ p H', Same H H' → ((H p = none ∧ H' p = some (.lst (row.map V.int))) ∨ SqT K H' p (row.map V.int)) → Q (.ref p) H') : rSlI K (.ref a) lo hi H Q := by
  unfold rSlI
  rcases h with hs | hs
  · refine .inl ⟨a, _, rfl, hs, fun p np => q p _ (same_new np) (.inl ⟨np, ?_⟩)⟩
    rw [← hc]
    exact upd_same
  · refine .inr ⟨a, _, rfl, hs, fun hw => q a _ (Same.refl _) (.inr ?_), fun hw p np => q p _ (same_new np) (.inr ?_)⟩
    · have e : cutV (ws.map V.int) lo hi = ws.map V.int := by
        unfold cutV
        rw [hw.1, hw.2, List.drop_zero, Nat.sub_zero]
        exact List.take_of_length_le (Nat.le_refl _)
      rw [← hc, e]
      exact hs
    · rw [← hc]
      exact SqT.of upd_same
@[irreducible] def spSplits (K : PySem.W.Frag) : Sp := fun vs H Q _ => ∃ (v : V) (a : Addr) (f : Rat) (ws : List Int), vs = [v, .ref a] ∧ PtV K H v f ∧ Sz 1900 f ∧ IntsV K H a ws ∧ Ws ws ws.length ∧ ws.length ≤ 12 ∧
  ∀ L us H', H L = none → Same H H' → H' L = some (.lst us) → Al (SplN K (fun a => H a ≠ none) f ws H') us (spl ws.length) → Q (.ref L) H'
/-- the sizes of a form that was split so often -/
def fbk (k : Nat) : Nat := 404 + 23 * k
@[irreducible] def spBestF (K : PySem.W.Frag) (n : Nat) : Sp := fun vs H Q _ => ∃ (v : V) (a : Addr) (f : Rat) (ws : List Int) (k : Nat), vs = [v, .ref a] ∧ PtV K H v f ∧ 0 < f ∧ Sz (fbk k) f ∧ IntsV K H a ws ∧ Ws ws ws.length ∧ 1 ≤ ws.length ∧ ws.length ≤ n ∧ k + ws.length ≤ 6 ∧
  ∀ p u w r t H', Same H H' → H' p = some (.tup [u, w]) → PtV K H' u r → LeastF f ws r → Sz (2 * fbk 6) r → t.n = ws.length → worstF f ws t = r → Dp K H' w (dTr t) → Q (.ref p) H'
@[irreducible] def spBestSl (K : PySem.W.Frag) : Sp := fun vs H Q _ => ∃ (v : V) (a : Addr) (b : Bx) (ws : List Int), vs = [v, .ref a] ∧ BxV K H v b ∧ b.Ok 202 ∧ IntsV K H a ws ∧ WOk ws ∧ ws.length ≤ 6 ∧
  ∀ w t H', Same H H' → t.n = ws.length → LeastF (bform b) ws (worstF (bform b) ws t) → Dp K H' w (dTr t) → Q w H'
/-- a best tree as it stands -/
def BfV (K : PySem.W.Frag) (H : Hp) (v : V) (f : Rat) (ws : List Int) : Prop := ∃ p u w r t, v = .ref p ∧ SqT K H p [u, w] ∧ PtV K H u r ∧ LeastF f ws r ∧ Sz (2 * fbk 6) r ∧ t.n = ws.length ∧ worstF f ws t = r ∧ Dp K H w (dTr t)
/-- the best of the first splits as it stands -/
def FdV (K : PySem.W.Frag) (H : Hp) (v : V) (f : Rat) (ws : List Int) (i : Nat) : Prop := (i = 0 ∧ v = .non) ∨ (1 ≤ i ∧ ∃ p u w r t, v = .ref p ∧ H p = some (.tup [u, w]) ∧ PtV K H u r ∧ BestOf f ws ((spl ws.length).take i) r ∧ Sz (2 * fbk 6) r ∧ t.n = ws.length ∧ worstF f ws t = r ∧ Dp K H w (dTr t))
section
variable {K : PySem.W.Frag} {H H' : Hp} {v : V} {f : Rat} {ws : List Int} {i : Nat}
theorem BfV.same (e : Same H H') (h : BfV K H v f ws) : BfV K H' v f ws := by
  obtain ⟨p, u, w, r, t, rfl, h1, h2, h3, h4, h5, h6, h7⟩ := h
  exact ⟨p, u, w, r, t, rfl, seqT_same e h1, h2.same e, h3, h4, h5, h6, Dp.mono e _ _ h7⟩
theorem FdV.same (e : Same H H') (h : FdV K H v f ws i) : FdV K H' v f ws i := by
  rcases h with h | ⟨hi, p, u, w, r, t, rfl, h1, h2, h3, h4, h5, h6, h7⟩
  · exact .inl h
  · exact .inr ⟨hi, p, u, w, r, t, rfl, e _ _ h1, h2.same e, h3, h4, h5, h6, Dp.mono e _ _ h7⟩
end
theorem fhalf_pos {f : Rat} {a c : Int} {d : Bool} (hf : 0 < f) (ha : 1 ≤ a) (hc : 1 ≤ c) : 0 < fhalf f a c d := by
  unfold fhalf
  cases d with
  | true => exact Rat.mul_pos hf (divInt_pos (by omega) (by omega))
  | false => exact Rat.mul_pos hf (divInt_pos (by omega) (by omega))
theorem fhalf_sz {f : Rat} {a c : Int} {d : Bool} {k : Nat} (hz : Sz (fbk k) f) (ha : 1 ≤ a ∧ a ≤ 4800000) (hc : 1 ≤ c ∧ c ≤ 4800000) : Sz (fbk (k + 1)) (fhalf f a c d) := by
  have e : fbk k + 23 ≤ fbk (k + 1) := by unfold fbk; omega
  unfold fhalf
  cases d with
  | true => exact sz_mul hz (sz_share (by omega) (by omega)) e
  | false => exact sz_mul hz (sz_share (by omega) (by omega)) e
theorem shF_sz {f : Rat} {k : Nat} (hf : 0 < f) (hz : Sz (fbk k) f) (hk : k ≤ 6) : Sz (2 * fbk 6) (shF f) := by
  have z1 : Sz 1 (1 : Rat) := ⟨by decide, by decide⟩
  have hm : 1 + fbk k ≤ 2 * fbk 6 := by unfold fbk; omega
  have hn : f ≠ 0 := by grind
  unfold shF
  rcases gr_or f (1 / f) with e | e <;> rw [e]
  · exact hz.mono (by omega)
  · exact sz_div z1 hz hn hm
theorem gr_sz {m : Nat} {x y : Rat} (hx : Sz m x) (hy : Sz m y) : Sz m (gr x y) := by
  rcases gr_or x y with e | e <;> rw [e] <;> assumption
/-! ### the law's own -/
def cntB : Nat → Nat
  | 0 => 0
  | 1 => 1
  | 2 => 2
  | 3 => 8
  | _ => 48
@[irreducible] def spTrees (K : PySem.W.Frag) (n : Nat) : Sp := fun vs H Q _ => ∃ m : Nat, vs = [.int (m : Int)] ∧ 1 ≤ m ∧ m ≤ n ∧ m ≤ 4 ∧ ∀ L us H', H L = none → Same H H' → H' L = some (.lst us) → us.length ≤ cntB m → (∀ v ∈ us, ∃ t : Tr, t.n = m ∧ Dp K H' v (dTr t)) → Q (.ref L) H'
@[irreducible] def spManyIn (K : PySem.W.Frag) (n : Nat) : Sp := fun vs H Q _ => ∃ (v : V) (t : Tr), vs = [v] ∧ Dp K H v (dTr t) ∧ t.n ≤ n ∧ t.n ≤ 60 ∧ ∀ r H', Same H H' → r = V.int t.n → Q r H'
/-- a box and its weights in a tuple -/
def BwV (K : PySem.W.Frag) (H : Hp) (v : V) (b : Bx) (ws : List Int) : Prop := ∃ p w a, v = .ref p ∧ SqT K H p [w, .ref a] ∧ BxV K H w b ∧ SqL K H a (ws.map V.int)
theorem BwV.same {K : PySem.W.Frag} {H H' : Hp} {v : V} {b : Bx} {ws : List Int} (e : Same H H') (h : BwV K H v b ws) : BwV K H' v b ws := by
  obtain ⟨p, w, a, rfl, h1, h2, h3⟩ := h
  exact ⟨p, w, a, rfl, seqT_same e h1, h2.same e, seqL_same e h3⟩
@[irreducible] def spHalves (K : PySem.W.Frag) : Sp := fun vs H Q _ => ∃ (v : V) (a : Addr) (b : Bx) (ws : List Int) (m k : Nat) (d : Bool), vs = [v, .ref a, .int (k : Int), .str (sd d)] ∧ BxV K H v b ∧ b.Ok 1500 ∧ SqL K H a (ws.map V.int) ∧ Ws ws m ∧ 1 ≤ k ∧ k < m ∧
  ∀ L u1 u2 H', H L = none → Same H H' → H' L = some (.lst [u1, u2]) → BwV K H' u1 (hlf b ws k d 0) (ws.take k) → BwV K H' u2 (hlf b ws k d 1) (ws.drop k) → Q (.ref L) H'
@[irreducible] def spLSliced (K : PySem.W.Frag) (n : Nat) : Sp := fun vs H Q _ => ∃ (v w : V) (a : Addr) (b : Bx) (ws : List Int) (t : Tr) (k : Nat), vs = [v, .ref a, w] ∧ BxV K H v b ∧ BOk k b ∧ SqL K H a (ws.map V.int) ∧ Ws ws t.n ∧ Dp K H w (dTr t) ∧ t.n ≤ n ∧ k + t.n ≤ 6 ∧
  ∀ L us H', H L = none → Same H H' → H' L = some (.lst us) → Bxs K H' us (leavesM b ws t) → Q (.ref L) H'
@[irreducible] def spTreeWorst (K : PySem.W.Frag) : Sp := fun vs H Q _ => ∃ (v w : V) (a : Addr) (b : Bx) (ws : List Int) (t : Tr), vs = [v, .ref a, w] ∧ BxV K H v b ∧ b.Ok 202 ∧ SqL K H a (ws.map V.int) ∧ Ws ws t.n ∧ Dp K H w (dTr t) ∧ t.n ≤ 6 ∧
  ∀ u H', Same H H' → PtV K H' u (worstF (bform b) ws t) → Sz 700 (worstF (bform b) ws t) → Q u H'
@[irreducible] def spIsTree (K : PySem.W.Frag) (n : Nat) : Sp := fun vs H Q _ => ∃ (v : V) (t : Tr) (m : Nat), vs = [v, .int (m : Int)] ∧ Dp K H v (dTr t) ∧ t.n ≤ n ∧ t.n ≤ 60 ∧ m ≤ 100 ∧ ∀ r H', Same H H' → r = V.bl (decide (t.n = m)) → Q r H'
section
variable {K : PySem.W.Frag} {H : Hp} {Q : VK} {E : XK} {vs : List V} {n : Nat} {v w : V} {a : Addr} {b : Bx} {ws : List Int} {t : Tr}
theorem thingsD_step {d : PyData} {m : Nat} (hv : Dp K H v d) (hm : m + 1 ≤ n) (q : ∀ H', Same H H' → Q (.int (tn n m d : Nat)) H') (hvs : vs = [v, .int (m : Int)] := by rfl) : spThings K n vs H Q E := by
  unfold spThings
  exact ⟨v, d, m, hvs, hv, hm, fun r H' s e => by rw [e]; exact q H' s⟩
theorem things_step {m : Int} (hv : Dp K H v (dTr t)) (hn : t.n ≤ n) (hm : (t.n : Int) ≤ m) (q : ∀ H', Same H H' → Q (.int t.n) H') (hmn : m + 1 ≤ n := by omega) (hvs : vs = [v, .int m] := by rfl) : spThings K n vs H Q E := by
  have tp := t.pos
  obtain ⟨m', rfl⟩ : ∃ m' : Nat, m = (m' : Int) := ⟨m.toNat, by omega⟩
  refine thingsD_step hv (by omega) (fun H' s => ?_) hvs
  rw [tn_tr t (by omega) (by omega)]
  exact q H' s
theorem leaves_step {k : Nat} (hv : BxV K H v b) (hb : BOk k b) (hI : IntsV K H a ws) (hW : Ws ws t.n) (hw : Dp K H w (dTr t)) (hn : t.n ≤ n) (hk : k + t.n ≤ 6) (q : ∀ L us H', H L = none → Same H H' → H' L = some (.lst us) → Bxs K H' us (leavesM b ws t) → Q (.ref L) H') (hvs : vs = [v, .ref a, w] := by rfl) : spLeaves K n vs H Q E := by
  unfold spLeaves
  exact ⟨v, w, a, b, ws, t, k, hvs, hv, hb, hI, hW, hw, hn, hk, q⟩
theorem sliced_step (hv : BxV K H v b) (hb : b.Ok 202) (hI : IntsV K H a ws) (hW : WOk ws) (hl : ws.length = t.n) (hw : Dp K H w (dTr t)) (hk : t.n ≤ 6) (q : ∀ L us H', H L = none → Same H H' → H' L = some (.lst us) → Bxs K H' us (leavesM b ws t) → Q (.ref L) H') (hvs : vs = [v, .ref a, w] := by rfl) : spSliced K vs H Q E := by
  unfold spSliced
  exact ⟨v, w, a, b, ws, t, hvs, hv, hb, hI, hW, hl, hw, hk, q⟩
theorem slworst_step (hv : BxV K H v b) (hb : b.Ok 202) (hI : IntsV K H a ws) (hW : WOk ws) (hl : ws.length = t.n) (hw : Dp K H w (dTr t)) (hk : t.n ≤ 6) (q : ∀ u H', Same H H' → PtV K H' u (worstF (bform b) ws t) → Q u H') (hvs : vs = [v, .ref a, w] := by rfl) : spSlWorst K vs H Q E := by
  unfold spSlWorst
  exact ⟨v, w, a, b, ws, t, hvs, hv, hb, hI, hW, hl, hw, hk, q⟩
theorem checkfew_step {m : Int} {j : Nat} (hv : BxV K H v b) (hb : b.Ok j) (hj : j ≤ 3900) (hI : IntsV K H a ws) (hW : WOk ws) (hl : (ws.length : Int) ≤ m) (q : ∀ H', Same H H' → Q .non H') (hvs : vs = [v, .ref a, .int m] := by rfl) : spCheckFew K vs H Q E := by
  unfold spCheckFew
  exact ⟨v, a, b, ws, m, hvs, hv, hb.mono hj, hI, hW, hl, fun r H' s e => by rw [e]; exact q H' s⟩
theorem form_step {j : Nat} (hv : BxV K H v b) (hb : b.Ok j) (hj : j ≤ 1900) (q : ∀ u H', Same H H' → PtV K H' u (bform b) → Q u H') (hvs : vs = [v] := by rfl) : spForm K vs H Q E := by
  unfold spForm
  exact ⟨v, b, hvs, hv, hb.mono hj, q⟩
theorem shapef_step {f : Rat} {j : Nat} (hv : PtV K H v f) (h0 : 0 < f) (hs : Sz j f) (hj : j ≤ 1900) (q : ∀ u H', Same H H' → PtV K H' u (shF f) → Q u H') (hvs : vs = [v] := by rfl) : spShapeF K vs H Q E := by
  unfold spShapeF
  exact ⟨v, f, hvs, hv, h0, hs.mono hj, q⟩
theorem fhalf_step {h : Addr} {f : Rat} {j : Nat} {hs : List Int} {d : Bool} (hv : PtV K H v f) (hz : Sz j f) (hj : j ≤ 1900) (hh : IntsV K H h hs) (hI : IntsV K H a ws) (h1 : 1 ≤ hs.sum ∧ hs.sum ≤ 4800000) (h2 : 1 ≤ ws.sum ∧ ws.sum ≤ 4800000) (q : ∀ u H', Same H H' → PtV K H' u (fhalf f hs.sum ws.sum d) → Q u H') (hvs : vs = [v, .ref h, .ref a, .str (sd d)] := by rfl) : spFHalf K vs H Q E := by
  unfold spFHalf
  exact ⟨v, h, a, f, hs, ws, d, hvs, hv, hz.mono hj, hh, hI, h1.1, h1.2, h2.1, h2.2, q⟩
theorem splits_step {f : Rat} {j : Nat} (hv : PtV K H v f) (hz : Sz j f) (hj : j ≤ 1900) (hI : IntsV K H a ws) (hW : Ws ws ws.length) (hl : ws.length ≤ 12) (q : ∀ L us H', H L = none → Same H H' → H' L = some (.lst us) → Al (SplN K (fun a => H a ≠ none) f ws H') us (spl ws.length) → Q (.ref L) H') (hvs : vs = [v, .ref a] := by rfl) : spSplits K vs H Q E := by
  unfold spSplits
  exact ⟨v, a, f, ws, hvs, hv, hz.mono hj, hI, hW, hl, q⟩
theorem bestf_step {f : Rat} {k : Nat} (hv : PtV K H v f) (h0 : 0 < f) (hz : Sz (fbk k) f) (hI : IntsV K H a ws) (hW : Ws ws ws.length) (h1 : 1 ≤ ws.length) (hn : ws.length ≤ n) (hk : k + ws.length ≤ 6) (q : ∀ p u w r t H', Same H H' → H' p = some (.tup [u, w]) → PtV K H' u r → LeastF f ws r → Sz (2 * fbk 6) r → t.n = ws.length → worstF f ws t = r → Dp K H' w (dTr t) → Q (.ref p) H') (hvs : vs = [v, .ref a] := by rfl) : spBestF K n vs H Q E := by
  unfold spBestF
  exact ⟨v, a, f, ws, k, hvs, hv, h0, hz, hI, hW, h1, hn, hk, q⟩
theorem bestsl_step (hv : BxV K H v b) (hb : b.Ok 202) (hI : IntsV K H a ws) (hW : WOk ws) (hl : ws.length ≤ 6) (q : ∀ w t H', Same H H' → t.n = ws.length → LeastF (bform b) ws (worstF (bform b) ws t) → Dp K H' w (dTr t) → Q w H') (hvs : vs = [v, .ref a] := by rfl) : spBestSl K vs H Q E := by
  unfold spBestSl
  exact ⟨v, a, b, ws, hvs, hv, hb, hI, hW, hl, q⟩
theorem trees_step {m : Nat} (h1 : 1 ≤ m) (hn : m ≤ n) (h4 : m ≤ 4) (q : ∀ L us H', H L = none → Same H H' → H' L = some (.lst us) → us.length ≤ cntB m → (∀ v ∈ us, ∃ t : Tr, t.n = m ∧ Dp K H' v (dTr t)) → Q (.ref L) H') (hvs : vs = [.int (m : Int)] := by rfl) : spTrees K n vs H Q E := by
  unfold spTrees
  exact ⟨m, hvs, h1, hn, h4, q⟩
theorem manyin_step (hv : Dp K H v (dTr t)) (hn : t.n ≤ n) (h6 : t.n ≤ 60) (q : ∀ H', Same H H' → Q (.int t.n) H') (hvs : vs = [v] := by rfl) : spManyIn K n vs H Q E := by
  unfold spManyIn
  exact ⟨v, t, hvs, hv, hn, h6, fun r H' s e => by rw [e]; exact q H' s⟩
theorem halves_step {m k j : Nat} {d : Bool} (hv : BxV K H v b) (hb : b.Ok j) (hj : j ≤ 1500) (hI : SqL K H a (ws.map V.int)) (hW : Ws ws m) (h1 : 1 ≤ k) (h2 : k < m) (q : ∀ L u1 u2 H', H L = none → Same H H' → H' L = some (.lst [u1, u2]) → BwV K H' u1 (hlf b ws k d 0) (ws.take k) → BwV K H' u2 (hlf b ws k d 1) (ws.drop k) → Q (.ref L) H') (hvs : vs = [v, .ref a, .int (k : Int), .str (sd d)] := by rfl) : spHalves K vs H Q E := by
  unfold spHalves
  exact ⟨v, a, b, ws, m, k, d, hvs, hv, hb.mono hj, hI, hW, h1, h2, q⟩
theorem lsliced_step {k : Nat} (hv : BxV K H v b) (hb : BOk k b) (hI : SqL K H a (ws.map V.int)) (hW : Ws ws t.n) (hw : Dp K H w (dTr t)) (hn : t.n ≤ n) (hk : k + t.n ≤ 6) (q : ∀ L us H', H L = none → Same H H' → H' L = some (.lst us) → Bxs K H' us (leavesM b ws t) → Q (.ref L) H') (hvs : vs = [v, .ref a, w] := by rfl) : spLSliced K n vs H Q E := by
  unfold spLSliced
  exact ⟨v, w, a, b, ws, t, k, hvs, hv, hb, hI, hW, hw, hn, hk, q⟩
theorem treeworst_step (hv : BxV K H v b) (hb : b.Ok 202) (hI : SqL K H a (ws.map V.int)) (hW : Ws ws t.n) (hw : Dp K H w (dTr t)) (hk : t.n ≤ 6) (q : ∀ u H', Same H H' → PtV K H' u (worstF (bform b) ws t) → Sz 700 (worstF (bform b) ws t) → Q u H') (hvs : vs = [v, .ref a, w] := by rfl) : spTreeWorst K vs H Q E := by
  unfold spTreeWorst
  exact ⟨v, w, a, b, ws, t, hvs, hv, hb, hI, hW, hw, hk, q⟩
theorem istree_step {m : Nat} (hv : Dp K H v (dTr t)) (hn : t.n ≤ n) (h6 : t.n ≤ 60) (hm : m ≤ 100) (q : ∀ H', Same H H' → Q (.bl (decide (t.n = m))) H') (hvs : vs = [v, .int (m : Int)] := by rfl) : spIsTree K n vs H Q E := by
  unfold spIsTree
  exact ⟨v, t, m, hvs, hv, hn, h6, hm, fun r H' s e => by rw [e]; exact q H' s⟩
end
theorem sd_strOk (d : Bool) : SeqAt.shaped (.str (sd d)) = true := by cases d <;> decide +kernel
theorem dtr_lay : ∀ t : Tr, (dTr t).canLay0 = true
  | .leaf => rfl
  | .node d a c => by
    have h := sd_strOk d
    unfold SeqAt.shaped at h
    rw [Bool.and_eq_true] at h
    show ((PyData.str (sd d)).canLay0 && ((dTr a).canLay0 && ((dTr c).canLay0 && true))) = true
    rw [h.1, dtr_lay a, dtr_lay c]
    rfl
theorem dtr_depth : ∀ t : Tr, (dTr t).depth ≤ t.n
  | .leaf => by decide
  | .node d a c => by
    have ha := dtr_depth a
    have hc := dtr_depth c
    have pa := a.pos
    have pc := c.pos
    show _ ≤ a.n + c.n
    simp only [dTr, PyData.depth, PyData.depthAll]
    omega
theorem dtr_shaped {t : Tr} (h : t.n ≤ 60) : SeqAt.shaped (dTr t) = true := by
  unfold SeqAt.shaped
  have := dtr_depth t
  rw [dtr_lay, decide_eq_true (by omega)]
  rfl
theorem nil_tup_shaped : SeqAt.shaped (.tuple []) = true := by decide +kernel
theorem dtr_eqv (t : Tr) : PyData.eqv (dTr t) (.tuple []) = decide (t.n = 1) := by
  cases t with
  | leaf => rfl
  | node d a c =>
    have pa := a.pos
    have pc := c.pos
    rw [decide_eq_false (show ¬ (Tr.node d a c).n = 1 by show ¬ a.n + c.n = 1; omega)]
    simp [dTr, PyData.eqv, PyData.eqvAll]
def cB : Nat → Nat
  | 2 => 1
  | 3 => 2
  | 4 => 8
  | _ => 0
/-! ### sizes -/
theorem sz_shp {c : Bx} {j : Nat} (h : BOk j c) (hj : j ≤ 5) : Sz 700 (shp c) := by
  have nz : ∀ {x : Rat}, 0 < x → x ≠ 0 := fun h z => by
    rw [z] at h
    exact absurd h (by decide)
  have hb : hbk j + hbk j ≤ 700 := by unfold hbk; omega
  have s1 : Sz 700 (c.w / c.h) := sz_div h.sw h.sh (nz h.h0) hb
  have s2 : Sz 700 (c.h / c.w) := sz_div h.sh h.sw (nz h.w0) hb
  unfold shp
  rcases gr_or (c.w / c.h) (c.h / c.w) with e | e <;> rw [e] <;> assumption
theorem sz_worst {b : Bx} {ws : List Int} {t : Tr} (hb : BOk 0 b) (hW : Ws ws t.n) (hn : t.n ≤ 6) : Sz 700 (worstF (bform b) ws t) := by
  rw [← worst_leaves t hb hW]
  have hne : (leavesM b ws t).map shp ≠ [] := by simpa using leavesM_ne t b ws
  obtain ⟨c, hc, e⟩ := List.mem_map.mp (mostL_mem hne)
  obtain ⟨j, hj, o⟩ := leaves_ok t hb hW c hc
  rw [← e]
  exact sz_shp o (by omega)
end Cc
set_option maxHeartbeats 4000000
/-! XChn: rows as trees: what a chain of slices cuts is what laying in rows cuts. -/
namespace Cc
open PySem PySem.Spec PyProof.Rows L2
/-- t1 beside (t2 beside (.. tn)) -/
def chainT (d : Bool) : List Tr → Tr
  | [] => .leaf
  | [t] => t
  | t :: u :: r => .node d t (chainT d (u :: r))
def rowsT (ss : List Int) (d : Bool) : Tr := chainT d (ss.map fun s => chainT (!d) (List.replicate s.toNat .leaf))
theorem chain_n (d : Bool) : ∀ ts : List Tr, ts ≠ [] → (chainT d ts).n = (ts.map Tr.n).sum
  | [], h => absurd rfl h
  | [t], _ => by simp [chainT]
  | t :: u :: r, _ => by
    show t.n + (chainT d (u :: r)).n = _
    rw [chain_n d (u :: r) (by simp)]
    simp
theorem ones_n (d : Bool) {k : Nat} (hk : 1 ≤ k) : (chainT d (List.replicate k .leaf)).n = k := by
  rw [chain_n d _ (by intro z; have := congrArg List.length z; simp at this; omega), List.map_replicate]
  have : Tr.n .leaf = 1 := rfl
  rw [this]
  simp
theorem rowsT_n {ss : List Int} {n : Nat} (d : Bool) (h : SOk ss n) (hn : 1 ≤ n) : (rowsT ss d).n = n := by
  have key : ∀ ss : List Int, (∀ x ∈ ss, 1 ≤ x) → (((ss.map fun s => (chainT (!d) (List.replicate s.toNat .leaf)).n).sum : Nat) : Int) = ss.sum := by
    intro ss
    induction ss with
    | nil => intro _; rfl
    | cons x r ih =>
      intro hw
      have hx := hw x List.mem_cons_self
      have := ih fun y hy => hw y (List.mem_cons_of_mem _ hy)
      rw [List.map_cons, List.sum_cons, List.sum_cons, ones_n _ (by omega)]
      omega
  have hne : ss ≠ [] := fun z => by
    have := h.ne hn
    rw [z] at this
    exact absurd this (by simp)
  unfold rowsT
  rw [chain_n d _ (by simpa using hne), List.map_map]
  have k := key ss h.w
  have hs := h.s
  have e : (List.map (Tr.n ∘ fun s : Int => chainT (!d) (List.replicate s.toNat .leaf)) ss).sum = (ss.map fun s => (chainT (!d) (List.replicate s.toNat .leaf)).n).sum := rfl
  rw [e]
  omega
/-! ### cuts of cuts -/
theorem slab_slab (b : Bx) (A B x y : Rat) (d : Bool) : slab (slab b A B d) x y d = slab b (A + B * x) (B * y) d := by
  unfold slab
  cases d with
  | true =>
    simp only [if_true]
    congr 1
    · grind
    · grind
  | false =>
    simp only [Bool.false_eq_true, if_false]
    congr 1
    · grind
    · grind
theorem dv_mid {p s S : Int} (hs : s ≠ 0) : Rat.divInt s S * Rat.divInt p s = Rat.divInt p S := by
  rw [Rat.divInt_mul_divInt, Int.mul_comm s p, Int.mul_comm S s]
  by_cases hS : S = 0
  · subst hS
    simp
  · rw [Int.mul_comm p s]
    exact Rat.divInt_mul_left hs
theorem dv_plusI {x p S : Int} (hS : S ≠ 0) : Rat.divInt x S + Rat.divInt p S = Rat.divInt (x + p) S := by
  rw [Rat.divInt_add_divInt x p hS hS, ← Int.add_mul]
  exact Rat.divInt_mul_right hS
theorem slab_one (b : Bx) (d : Bool) : slab b 0 1 d = b := by
  obtain ⟨l, t, w, h⟩ := b
  unfold slab
  cases d with
  | true =>
    simp only [if_true]
    congr 1 <;> grind
  | false =>
    simp only [Bool.false_eq_true, if_false]
    congr 1 <;> grind
theorem cut_one (b : Bx) {S : Int} (h : S ≠ 0) (d : Bool) : cutAt b [S] d 0 = b := by
  show slab b (Rat.divInt 0 (S + 0)) (Rat.divInt S (S + 0)) d = b
  rw [Int.add_zero, Rat.zero_divInt, Rat.divInt_self' h, slab_one]
theorem cut_zero (b : Bx) (x : Int) (xs : List Int) (d : Bool) : cutAt b (x :: xs) d 0 = cutAt b [x, xs.sum] d 0 := by
  show slab b (Rat.divInt 0 (x + xs.sum)) (Rat.divInt x (x + xs.sum)) d = slab b (Rat.divInt 0 (x + (xs.sum + 0))) (Rat.divInt x (x + (xs.sum + 0))) d
  rw [Int.add_zero]
theorem cut_cons (b : Bx) {x : Int} {xs : List Int} (d : Bool) (i : Nat) (h : xs.sum ≠ 0) (hS : x + xs.sum ≠ 0) : cutAt b (x :: xs) d (i + 1) = cutAt (cutAt b [x, xs.sum] d 1) xs d i := by
  have e1 : ((x :: xs).take (i + 1)).sum = x + (xs.take i).sum := by rw [List.take_succ_cons, List.sum_cons]
  have e2 : (x :: xs).getD (i + 1) 0 = xs.getD i 0 := rfl
  show slab b (Rat.divInt ((x :: xs).take (i + 1)).sum (x + xs.sum)) (Rat.divInt ((x :: xs).getD (i + 1) 0) (x + xs.sum)) d = slab (slab b (Rat.divInt (x + 0) (x + (xs.sum + 0))) (Rat.divInt xs.sum (x + (xs.sum + 0))) d) (Rat.divInt (xs.take i).sum xs.sum) (Rat.divInt (xs.getD i 0) xs.sum) d
  rw [Int.add_zero, Int.add_zero, slab_slab, dv_mid h, dv_mid h, dv_plusI hS, e1, e2]
theorem cutM_cons (b : Bx) {x : Int} {xs : List Int} (d : Bool) (h : xs.sum ≠ 0) (hS : x + xs.sum ≠ 0) : cutM b (x :: xs) d = cutAt b [x, xs.sum] d 0 :: cutM (cutAt b [x, xs.sum] d 1) xs d := by
  unfold cutM
  rw [List.length_cons, List.range_succ_eq_map, List.map_cons, cut_zero, List.map_map]
  congr 1
  exact List.map_congr_left fun i _ => cut_cons b d i h hS
theorem pos_sum {ws : List Int} (h : ∀ x ∈ ws, 1 ≤ x) (hl : 1 ≤ ws.length) : 1 ≤ ws.sum := by
  have := sum_nn h
  omega
theorem hlf_one (b : Bx) (x : Int) (xs : List Int) (d : Bool) (i : Nat) : hlf b (x :: xs) 1 d i = cutAt b [x, xs.sum] d i := by
  unfold hlf
  show cutAt b [x + 0, xs.sum] d i = _
  rw [Int.add_zero]
/-- single things beside one another -/
theorem ones_leaves (d : Bool) : ∀ (ws : List Int) (b : Bx), (∀ x ∈ ws, 1 ≤ x) → 1 ≤ ws.length → leavesM b ws (chainT d (List.replicate ws.length .leaf)) = cutM b ws d
  | [], _, _, h => by simp at h
  | [w], b, hw, _ => by
    have := hw w List.mem_cons_self
    show [b] = [cutAt b [w] d 0]
    rw [cut_one b (by omega)]
  | w :: u :: r, b, hw, _ => by
    have h1 := hw w List.mem_cons_self
    have hr : ∀ x ∈ u :: r, 1 ≤ x := fun x hx => hw x (List.mem_cons_of_mem _ hx)
    have h2 := pos_sum hr (by simp)
    rw [cutM_cons b d (by omega) (by omega), ← ones_leaves d (u :: r) _ hr (by simp), ← hlf_one, ← hlf_one]
    rfl
theorem off_nought (ss : List Int) : off ss 0 = 0 := by simp [off]
theorem row_cons {ws : List Int} {s : Int} {r : List Int} (hs : 1 ≤ s) (hr : ∀ y ∈ r, 1 ≤ y) (i : Nat) : rowAt ws (s :: r) (i + 1) = rowAt (ws.drop s.toNat) r i := by
  unfold rowAt
  rw [off_cons hs hr, List.drop_drop]
  rfl
theorem row_zero (ws : List Int) (s : Int) (r : List Int) : rowAt ws (s :: r) 0 = ws.take s.toNat := by
  unfold rowAt
  rw [off_nought, List.drop_zero]
  rfl
theorem sums_cons {ws : List Int} {s : Int} {r : List Int} (hs : 1 ≤ s) (hr : ∀ y ∈ r, 1 ≤ y) : sumsM ws (s :: r) = (ws.take s.toNat).sum :: sumsM (ws.drop s.toNat) r := by
  unfold sumsM rowsM
  rw [List.length_cons, List.range_succ_eq_map, List.map_cons, List.map_cons, row_zero]
  have e : List.map (rowAt ws (s :: r) ∘ Nat.succ) (List.range r.length) = List.map (rowAt (ws.drop s.toNat) r) (List.range r.length) := List.map_congr_left fun i _ => row_cons hs hr i
  rw [List.map_map (f := Nat.succ) (g := rowAt ws (s :: r)), e]
theorem sok_tail {s : Int} {r ws : List Int} (h : SOk (s :: r) ws.length) : SOk r (ws.drop s.toNat).length ∧ s.toNat ≤ ws.length ∧ 1 ≤ s := by
  have hs := h.w s List.mem_cons_self
  have hr : ∀ y ∈ r, 1 ≤ y := fun y hy => h.w y (List.mem_cons_of_mem _ hy)
  have hsum := h.s
  rw [List.sum_cons] at hsum
  have := sum_nn hr
  exact ⟨⟨hr, by rw [List.length_drop]; omega⟩, by omega, hs⟩
/-- rows as a chain of chains -/
theorem rows_leaves (d : Bool) : ∀ (ss ws : List Int) (b : Bx), (∀ x ∈ ws, 1 ≤ x) → 1 ≤ ws.length → SOk ss ws.length → leavesM b ws (rowsT ss d) = laidM b ws ss d
  | [], ws, _, _, hl, h => by
    have := h.s
    simp at this
    omega
  | [s], ws, b, hw, hl, h => by
    have hs := h.s
    have e : s.toNat = ws.length := by simp at hs; omega
    have hp := pos_sum hw hl
    have e2 : sumsM ws [s] = [ws.sum] := by
      show [(rowAt ws [s] 0).sum] = _
      rw [row_zero, e, List.take_length]
    show leavesM b ws (chainT (!d) (List.replicate s.toNat .leaf)) = [laidAt b ws [s] d 0].flatten
    rw [e, ones_leaves (!d) ws b hw hl, List.flatten_singleton]
    unfold laidAt
    rw [e2, cut_one b (by omega), row_zero, e, List.take_length]
  | s :: u :: r, ws, b, hw, hl, h => by
    obtain ⟨ht, hle, hs1⟩ := sok_tail h
    have hr : ∀ y ∈ u :: r, 1 ≤ y := ht.w
    have hu := hr u List.mem_cons_self
    have hsum := ht.s
    have hnn := sum_nn hr
    have hlen2 : 1 ≤ (u :: r).length := by simp
    have hdl : 1 ≤ (ws.drop s.toNat).length := by omega
    have hwt : ∀ x ∈ ws.take s.toNat, 1 ≤ x := fun x hx => hw x (List.mem_of_mem_take hx)
    have hwd : ∀ x ∈ ws.drop s.toNat, 1 ≤ x := fun x hx => hw x (List.mem_of_mem_drop hx)
    have htl : (ws.take s.toNat).length = s.toNat := by rw [List.length_take]; omega
    have p1 := pos_sum hwt (by omega)
    have p2 := pos_sum hwd hdl
    have en : (chainT (!d) (List.replicate s.toNat .leaf)).n = s.toNat := ones_n _ (by omega)
    have eS : (sumsM (ws.drop s.toNat) (u :: r)).sum = (ws.drop s.toNat).sum := sums_sum ht
    have c0 : cutAt b (sumsM ws (s :: u :: r)) d 0 = hlf b ws s.toNat d 0 := by
      rw [sums_cons hs1 hr, cut_zero, eS]
      rfl
    have ci : ∀ i, cutAt b (sumsM ws (s :: u :: r)) d (i + 1) = cutAt (hlf b ws s.toNat d 1) (sumsM (ws.drop s.toNat) (u :: r)) d i := fun i => by
      rw [sums_cons hs1 hr, cut_cons b d i (by omega) (by omega), eS]
      rfl
    have eT : rowsT (s :: u :: r) d = .node d (chainT (!d) (List.replicate s.toNat .leaf)) (rowsT (u :: r) d) := rfl
    rw [eT]
    show leavesM (hlf b ws (chainT (!d) (List.replicate s.toNat .leaf)).n d 0) (ws.take (chainT (!d) (List.replicate s.toNat .leaf)).n) _ ++ leavesM (hlf b ws (chainT (!d) (List.replicate s.toNat .leaf)).n d 1) (ws.drop (chainT (!d) (List.replicate s.toNat .leaf)).n) _ = _
    rw [en, rows_leaves d (u :: r) _ _ hwd hdl ht]
    have o1 := ones_leaves (!d) (ws.take s.toNat) (hlf b ws s.toNat d 0) hwt (by omega)
    rw [htl] at o1
    rw [o1]
    unfold laidM laidTo
    rw [List.length_cons (as := u :: r), List.range_succ_eq_map, List.map_cons, List.flatten_cons, List.map_map]
    congr 1
    · unfold laidAt
      rw [c0, row_zero]
    · congr 1
      refine List.map_congr_left fun i _ => ?_
      show laidAt _ _ _ _ _ = laidAt _ _ _ _ (i + 1)
      unfold laidAt
      rw [ci, row_cons hs1 hr]
end Cc
set_option maxHeartbeats 4000000
/-! XPap: papers that refute; the least of all trees; chains: promises. -/
namespace Cc
open PySem PySem.Spec PyProof.Rows L2
/-! ### papers, judged -/
def standP (S : Rat → List Int → PyData → Bool) (f : Rat) (ws : List Int) (p : PyData) (x : Bool × Nat) : Bool :=
  match p with
  | .tuple [.int i, d] => if i = 0 then S (fhalf f (ws.take x.2).sum ws.sum x.1) (ws.take x.2) d else if i = 1 then S (fhalf f (ws.drop x.2).sum ws.sum x.1) (ws.drop x.2) d else false
  | _ => false
theorem standP0 (S : Rat → List Int → PyData → Bool) (f : Rat) (ws : List Int) (d : PyData) (x : Bool × Nat) : standP S f ws (.tuple [.int 0, d]) x = S (fhalf f (ws.take x.2).sum ws.sum x.1) (ws.take x.2) d := rfl
theorem standP1 (S : Rat → List Int → PyData → Bool) (f : Rat) (ws : List Int) (d : PyData) (x : Bool × Nat) : standP S f ws (.tuple [.int 1, d]) x = S (fhalf f (ws.drop x.2).sum ws.sum x.1) (ws.drop x.2) d := rfl
def stands (bd : Rat) : Nat → Rat → List Int → PyData → Bool
  | 0, _, _, _ => false
  | n + 1, f, ws, .tuple ps => if ws.length = 1 then ps.isEmpty && !decide (shF f < bd) else decide (ps.length = (spl ws.length).length) && (ps.zip (spl ws.length)).all fun q => standP (stands bd n) f ws q.1 q.2
  | _ + 1, _, _, _ => false
mutual
/-- tuples and plain things alone -/
def tupD : PyData → Bool
  | .tuple ds => tupDs ds
  | .list _ => false
  | .dict _ => false
  | .none => true
  | .bool _ => true
  | .int _ => true
  | .str x => (PyData.str x).canLay0
def tupDs : List PyData → Bool
  | [] => true
  | d :: ds => tupD d && tupDs ds
end
mutual
theorem dp_kp {K : PySem.W.Frag} {H H' : Hp} {c : Addr} {ys : List V} (e : Kp c H H') (hc : H c = some (.lst ys)) : ∀ (d : PyData) {v : V}, tupD d = true → Dp K H v d → Dp K H' v d
  | .none, v, _, h => by cases h; exact .non
  | .bool b, v, _, h => by cases h; exact .bl b
  | .int i, v, _, h => by cases h; exact .int i
  | .str x, v, _, h => by cases h; exact .str x
  | .list ds, v, t, h => Bool.noConfusion t
  | .dict ds, v, t, h => Bool.noConfusion t
  | .tuple ds, v, t, h => by
    cases h with
    | tup hs ha => exact .tup (seqT_kp e hc hs) (dps_kp e hc ds t ha)
theorem dps_kp {K : PySem.W.Frag} {H H' : Hp} {c : Addr} {ys : List V} (e : Kp c H H') (hc : H c = some (.lst ys)) : ∀ (ds : List PyData) {vs : List V}, tupDs ds = true → DpAll K H vs ds → DpAll K H' vs ds
  | [], _, _, h => by cases h; exact .nil
  | d :: ds, _, t, h => by
    have t : (tupD d && tupDs ds) = true := t
    rw [Bool.and_eq_true] at t
    cases h with
    | cons h1 h2 => exact .cons (dp_kp e hc d t.1 h1) (dps_kp e hc ds t.2 h2)
end
theorem dpAll_snoc {K : PySem.W.Frag} {H : Hp} {v : V} {d : PyData} (h : Dp K H v d) : ∀ {vs : List V} {ds : List PyData}, DpAll K H vs ds → DpAll K H (vs ++ [v]) (ds ++ [d])
  | _, _, .nil => .cons h .nil
  | _, _, .cons a r => .cons a (dpAll_snoc h r)
theorem tupDs_snoc {d : PyData} (h : tupD d = true) : ∀ {ds : List PyData}, tupDs ds = true → tupDs (ds ++ [d]) = true
  | [], _ => by
    show (tupD d && true) = true
    rw [h]
    rfl
  | x :: r, t => by
    have t : (tupD x && tupDs r) = true := t
    rw [Bool.and_eq_true] at t
    show (tupD x && tupDs (r ++ [d])) = true
    rw [t.1, tupDs_snoc h t.2]
    rfl
mutual
theorem tupD_lay : ∀ d : PyData, tupD d = true → d.canLay0 = true
  | .none, _ => rfl
  | .bool _, _ => rfl
  | .int _, _ => rfl
  | .str _, h => h
  | .list _, h => Bool.noConfusion h
  | .dict _, h => Bool.noConfusion h
  | .tuple ds, h => tupDs_lay ds h
theorem tupDs_lay : ∀ ds : List PyData, tupDs ds = true → PyData.canLayAll0 ds = true
  | [], _ => rfl
  | d :: r, h => by
    have h : (tupD d && tupDs r) = true := h
    rw [Bool.and_eq_true] at h
    show (d.canLay0 && PyData.canLayAll0 r) = true
    rw [tupD_lay d h.1, tupDs_lay r h.2]
    rfl
end
theorem tup_shaped {ps : List PyData} (h : tupDs ps = true) (hd : PyData.depthAll ps ≤ 60) : SeqAt.shaped (.tuple ps) = true := by
  unfold SeqAt.shaped
  have e : (PyData.tuple ps).depth ≤ 61 := by
    show PyData.depthAll ps + 1 ≤ 61
    omega
  rw [decide_eq_true (by omega), Bool.and_true]
  exact tupDs_lay ps h
theorem depthAll_snoc (d : PyData) : ∀ ds : List PyData, PyData.depthAll (ds ++ [d]) = max (PyData.depthAll ds) d.depth
  | [] => by
    show max d.depth 0 = max 0 d.depth
    omega
  | x :: r => by
    show max x.depth (PyData.depthAll (r ++ [d])) = max (max x.depth (PyData.depthAll r)) d.depth
    rw [depthAll_snoc d r]
    omega
theorem pair_depth (i : Int) (d : PyData) : (PyData.tuple [.int i, d]).depth ≤ max 1 d.depth + 1 := by
  show max (PyData.int i).depth (max d.depth 0) + 1 ≤ max 1 d.depth + 1
  have : (PyData.int i).depth ≤ 1 := by simp [PyData.depth]
  omega
/-- a paper as it is told, or None -/
def PapV (K : PySem.W.Frag) (H : Hp) (u : V) (f : Rat) (ws : List Int) (bd : Rat) : Prop :=
  (u = .non ∧ ∃ r, LeastF f ws r ∧ r < bd) ∨ ∃ a ps r, u = .ref a ∧ tupDs ps = true ∧ Dp K H u (.tuple ps) ∧ (∀ j, ws.length ≤ j → stands bd j f ws (.tuple ps) = true) ∧ LeastF f ws r ∧ (¬ r < bd) ∧ PyData.depthAll ps ≤ 2 * ws.length + 1
/-- a pair of a paper: which half, its paper -/
def PprV (K : PySem.W.Frag) (H : Hp) (u : V) (f1 f2 : Rat) (w1 w2 : List Int) (bd : Rat) : Prop :=
  (u = .non ∧ (∃ p, LeastF f1 w1 p ∧ p < bd) ∧ ∃ q, LeastF f2 w2 q ∧ q < bd) ∨ ∃ a d, u = .ref a ∧ tupD d = true ∧ ((Dp K H u (.tuple [.int 0, d]) ∧ (∀ j, w1.length ≤ j → stands bd j f1 w1 d = true) ∧ ∃ p, LeastF f1 w1 p ∧ (¬ p < bd) ∧ d.depth ≤ 2 * w1.length + 2) ∨ (Dp K H u (.tuple [.int 1, d]) ∧ (∀ j, w2.length ≤ j → stands bd j f2 w2 d = true) ∧ ∃ p, LeastF f2 w2 p ∧ (¬ p < bd) ∧ d.depth ≤ 2 * w2.length + 2))
/-- what is asked of a form and weights -/
structure FwOk (f : Rat) (ws : List Int) (n : Nat) : Prop where
  f0 : 0 < f
  w : Ws ws ws.length
  l1 : 1 ≤ ws.length
  ln : ws.length ≤ n
  fz : ∃ k, Sz (fbk k) f ∧ k + ws.length ≤ 6
@[irreducible] def spPaper (K : PySem.W.Frag) (n : Nat) : Sp := fun vs H Q _ => ∃ (v vb : V) (a : Addr) (f bd : Rat) (ws : List Int), vs = [v, .ref a, vb] ∧ PtV K H v f ∧ FwOk f ws n ∧ IntsV K H a ws ∧ PtV K H vb bd ∧ Sz 3900 bd ∧ ∀ u H', Same H H' → PapV K H' u f ws bd → Q u H'
@[irreducible] def spPair (K : PySem.W.Frag) (n : Nat) : Sp := fun vs H Q _ => ∃ (vb u1 u2 : V) (L : Addr) (f1 f2 bd : Rat) (w1 w2 : List Int), vs = [.ref L, vb] ∧ H L = some (.lst [u1, u2]) ∧ HfV K H u1 f1 w1 ∧ HfV K H u2 f2 w2 ∧ FwOk f1 w1 n ∧ FwOk f2 w2 n ∧ PtV K H vb bd ∧ Sz 3900 bd ∧ ∀ u H', Same H H' → PprV K H' u f1 f2 w1 w2 bd → Q u H'
@[irreducible] def spRefuted (K : PySem.W.Frag) : Sp := fun vs H Q _ => ∃ (v vb : V) (a : Addr) (b : Bx) (bd : Rat) (ws : List Int), vs = [v, .ref a, vb] ∧ BxV K H v b ∧ b.Ok 202 ∧ IntsV K H a ws ∧ WOk ws ∧ ws.length ≤ 5 ∧ PtV K H vb bd ∧ Sz 3900 bd ∧ 1 ≤ bd ∧ ∀ u H', Same H H' → PapV K H' u (bform b) ws bd → Q u H'
@[irreducible] def spLeastT (K : PySem.W.Frag) (n : Nat) : Sp := fun vs H Q _ => ∃ (v : V) (a : Addr) (b : Bx) (ws : List Int) (k : Nat), vs = [v, .ref a] ∧ BxV K H v b ∧ BOk k b ∧ SqL K H a (ws.map V.int) ∧ Ws ws ws.length ∧ 1 ≤ ws.length ∧ ws.length ≤ n ∧ k + ws.length ≤ 6 ∧ ∀ u r H', Same H H' → PtV K H' u r → LeastF (bform b) ws r → Sz 700 r → Q u H'
@[irreducible] def spChain (K : PySem.W.Frag) : Sp := fun vs H Q _ => ∃ (L : Addr) (us : List V) (ts : List Tr) (d : Bool), vs = [.ref L, .str (sd d)] ∧ H L = some (.lst us) ∧ Al (fun v t => Dp K H v (dTr t)) us ts ∧ ts ≠ [] ∧ ts.length ≤ 12 ∧ ∀ u H', Same H H' → Dp K H' u (dTr (chainT d ts)) → Q u H'
@[irreducible] def spRowsT (K : PySem.W.Frag) : Sp := fun vs H Q _ => ∃ (t : Addr) (ss : List Int) (n : Nat) (d : Bool), vs = [.ref t, .str (sd d)] ∧ SqT K H t (ss.map V.int) ∧ SOk ss n ∧ 1 ≤ n ∧ n ≤ 12 ∧ ∀ u H', Same H H' → Dp K H' u (dTr (rowsT ss d)) → Q u H'
section
variable {K : PySem.W.Frag} {H : Hp} {Q : VK} {E : XK} {vs : List V} {n : Nat} {v vb : V} {a : Addr} {b : Bx} {ws : List Int} {f bd : Rat}
theorem paper_step {m : Nat} (hv : PtV K H v f) (hF : FwOk f ws n) (hI : IntsV K H a ws) (hb : PtV K H vb bd) (hz : Sz m bd) (hm : m ≤ 3900) (q : ∀ u H', Same H H' → PapV K H' u f ws bd → Q u H') (hvs : vs = [v, .ref a, vb] := by rfl) : spPaper K n vs H Q E := by
  unfold spPaper
  exact ⟨v, vb, a, f, bd, ws, hvs, hv, hF, hI, hb, hz.mono hm, q⟩
theorem pair_step {u1 u2 : V} {L : Addr} {f1 f2 : Rat} {w1 w2 : List Int} (hL : H L = some (.lst [u1, u2])) (h1 : HfV K H u1 f1 w1) (h2 : HfV K H u2 f2 w2) (g1 : FwOk f1 w1 n) (g2 : FwOk f2 w2 n) (hb : PtV K H vb bd) (hz : Sz 3900 bd) (q : ∀ u H', Same H H' → PprV K H' u f1 f2 w1 w2 bd → Q u H') (hvs : vs = [.ref L, vb] := by rfl) : spPair K n vs H Q E := by
  unfold spPair
  exact ⟨vb, u1, u2, L, f1, f2, bd, w1, w2, hvs, hL, h1, h2, g1, g2, hb, hz, q⟩
theorem refuted_step {m : Nat} (hv : BxV K H v b) (hb : b.Ok 202) (hI : IntsV K H a ws) (hW : WOk ws) (hl : ws.length ≤ 5) (hbd : PtV K H vb bd) (hz : Sz m bd) (hm : m ≤ 3900) (h1 : 1 ≤ bd) (q : ∀ u H', Same H H' → PapV K H' u (bform b) ws bd → Q u H') (hvs : vs = [v, .ref a, vb] := by rfl) : spRefuted K vs H Q E := by
  unfold spRefuted
  exact ⟨v, vb, a, b, bd, ws, hvs, hv, hb, hI, hW, hl, hbd, hz.mono hm, h1, q⟩
theorem leastt_step {k : Nat} (hv : BxV K H v b) (hb : BOk k b) (hI : SqL K H a (ws.map V.int)) (hW : Ws ws ws.length) (h1 : 1 ≤ ws.length) (hn : ws.length ≤ n) (hk : k + ws.length ≤ 6) (q : ∀ u r H', Same H H' → PtV K H' u r → LeastF (bform b) ws r → Sz 700 r → Q u H') (hvs : vs = [v, .ref a] := by rfl) : spLeastT K n vs H Q E := by
  unfold spLeastT
  exact ⟨v, a, b, ws, k, hvs, hv, hb, hI, hW, h1, hn, hk, q⟩
theorem chain_step {L : Addr} {us : List V} {ts : List Tr} {d : Bool} (hL : H L = some (.lst us)) (hA : Al (fun v t => Dp K H v (dTr t)) us ts) (h0 : ts ≠ []) (hl : ts.length ≤ 12) (q : ∀ u H', Same H H' → Dp K H' u (dTr (chainT d ts)) → Q u H') (hvs : vs = [.ref L, .str (sd d)] := by rfl) : spChain K vs H Q E := by
  unfold spChain
  exact ⟨L, us, ts, d, hvs, hL, hA, h0, hl, q⟩
theorem rowst_step {t : Addr} {ss : List Int} {m : Nat} {d : Bool} (ht : SqT K H t (ss.map V.int)) (hS : SOk ss m) (h1 : 1 ≤ m) (hl : m ≤ 12) (q : ∀ u H', Same H H' → Dp K H' u (dTr (rowsT ss d)) → Q u H') (hvs : vs = [.ref t, .str (sd d)] := by rfl) : spRowsT K vs H Q E := by
  unfold spRowsT
  exact ⟨t, ss, m, d, hvs, ht, hS, h1, hl, q⟩
end
/-- the least of the first splits as it stands -/
def FdR (K : PySem.W.Frag) (H : Hp) (v : V) (f : Rat) (ws : List Int) (i : Nat) : Prop := (i = 0 ∧ v = .non) ∨ (1 ≤ i ∧ ∃ r, PtV K H v r ∧ BestOf f ws ((spl ws.length).take i) r ∧ Sz 700 r)
theorem FdR.same {K : PySem.W.Frag} {H H' : Hp} {v : V} {f : Rat} {ws : List Int} {i : Nat} (e : Same H H') (h : FdR K H v f ws i) : FdR K H' v f ws i := by
  rcases h with h | ⟨hi, r, h1, h2, h3⟩
  · exact .inl h
  · exact .inr ⟨hi, r, h1.same e, h2, h3⟩
/-! ### sizes, halves -/
theorem sz_worstk {b : Bx} {ws : List Int} {t : Tr} {k : Nat} (hb : BOk k b) (hW : Ws ws t.n) (hn : k + t.n ≤ 6) : Sz 700 (worstF (bform b) ws t) := by
  rw [← worst_leaves t hb hW]
  have hne : (leavesM b ws t).map shp ≠ [] := by simpa using leavesM_ne t b ws
  obtain ⟨c, hc, e⟩ := List.mem_map.mp (mostL_mem hne)
  obtain ⟨j, hj, o⟩ := leaves_ok t hb hW c hc
  rw [← e]
  exact sz_shp o (by omega)
theorem sz_least {b : Bx} {ws : List Int} {k : Nat} {r : Rat} (hb : BOk k b) (hW : Ws ws ws.length) (hn : k + ws.length ≤ 6) (h : LeastF (bform b) ws r) : Sz 700 r := by
  obtain ⟨⟨t, ht, e⟩, _⟩ := h
  rw [← e]
  exact sz_worstk hb (by rw [ht]; exact hW) (by omega)
theorem FwOk.half {f : Rat} {ws : List Int} {n : Nat} (h : FwOk f ws (n + 1)) {x : Bool × Nat} (h1 : 1 ≤ x.2) (h2 : x.2 < ws.length) : FwOk (fhalf f (ws.take x.2).sum ws.sum x.1) (ws.take x.2) n ∧ FwOk (fhalf f (ws.drop x.2).sum ws.sum x.1) (ws.drop x.2) n := by
  obtain ⟨a, c, e⟩ := h.w.cut (k := x.2) (Nat.le_of_lt h2)
  have pa := a.pos h1
  have pc := c.pos (by omega)
  have hs := h.w.s
  have hn := h.ln
  have la := a.len
  have lc := c.len
  obtain ⟨k, hz, hk⟩ := h.fz
  refine ⟨⟨fhalf_pos h.f0 pa (by omega), by rw [la]; exact a, by omega, by omega, k + 1, fhalf_sz hz ⟨pa, by omega⟩ ⟨by omega, hs⟩, by omega⟩, ⟨fhalf_pos h.f0 pc (by omega), by rw [lc]; exact c, by omega, by omega, k + 1, fhalf_sz hz ⟨pc, by omega⟩ ⟨by omega, hs⟩, by omega⟩⟩
/-- the least is 1 at least -/
theorem shF_ge {f : Rat} (h : 0 < f) : 1 ≤ shF f := by
  unfold shF
  by_cases c : f < 1
  · have e : f * (1 / f) = 1 := by rw [Rat.div_def, Rat.one_mul, Rat.mul_inv_cancel f (by grind)]
    have g := (gr_ge f (1 / f)).2
    have p : 0 < 1 / f := by rw [Rat.div_def, Rat.one_mul]; exact Rat.inv_pos.mpr h
    have : 1 ≤ 1 / f := by
      by_cases z : 1 ≤ 1 / f
      · exact z
      · have z' : 1 / f < 1 := by grind
        have := Rat.mul_lt_mul_of_pos_left z' h
        grind
    grind
  · have g := (gr_ge f (1 / f)).1
    grind
theorem worstF_ge : ∀ (t : Tr) {f : Rat} {ws : List Int}, 0 < f → Ws ws t.n → 1 ≤ worstF f ws t
  | .leaf, f, ws, h, _ => shF_ge h
  | .node d a c, f, ws, h, hW => by
    have pa := a.pos
    have pc := c.pos
    have hn : (Tr.node d a c).n = a.n + c.n := rfl
    obtain ⟨h3, h4, e⟩ := hW.cut (k := a.n) (by omega)
    have p1 := h3.pos pa
    have p2 := h4.pos (by omega)
    have g := (gr_ge (worstF (fhalf f (ws.take a.n).sum ws.sum d) (ws.take a.n) a) (worstF (fhalf f (ws.drop a.n).sum ws.sum d) (ws.drop a.n) c)).1
    have := worstF_ge a (fhalf_pos (d := d) h p1 (c := ws.sum) (by omega)) h3
    show 1 ≤ gr _ _
    grind
theorem least_ge {f : Rat} {ws : List Int} {r : Rat} (h : 0 < f) (hW : Ws ws ws.length) (hl : LeastF f ws r) : 1 ≤ r := by
  obtain ⟨⟨t, ht, e⟩, _⟩ := hl
  rw [← e]
  exact worstF_ge t h (by rw [ht]; exact hW)
/-! ### rows against trees -/
theorem rows_worst {b : Bx} {ws ss : List Int} (d : Bool) (hb : b.Ok 202) (hW : WOk ws) (hS : SOk ss ws.length) : worstM b ws ss d = worstF (bform b) ws (rowsT ss d) := by
  have hn := rowsT_n d hS hW.l0
  rw [← most_laid hb hW hS d, ← rows_leaves d ss ws b hW.g.w hW.l0 hS]
  exact worst_leaves (rowsT ss d) (.of hb) (by rw [hn]; exact hW.g.ws)
/-- the least of rows is some tree's -/
theorem least_rows {b : Bx} {ws : List Int} {d : Bool} {g : Nat → Rat} {r : Rat} (hb : b.Ok 202) (hW : WOk ws) (h : Bst (fSh b ws d) ws.length 0 g) (hr : LeastF (bform b) ws r) : ¬ g 0 < r := by
  have hS := best_sok (f := fSh b ws d) (g := g) (M := g 0) (n := ws.length)
  have hG := best_inG h ws.length 0 (by omega) (Nat.zero_le _) (Rat.le_refl (a := g 0))
  generalize bestL (fSh b ws d) g (g 0) ws.length 0 = ss at hS hG
  have hall := (inG_iff ss 0 hS.w).mpr hG
  have hw : ¬ g 0 < worstM b ws ss d := by
    have hm : worstM b ws ss d ∈ shapesM b ws ss d := mostL_mem fun z => by
      have hc := congrArg List.length z
      unfold shapesM at hc
      rw [List.length_map, List.length_range, List.length_nil] at hc
      have := hS.ne hW.l0
      omega
    obtain ⟨k, hk, e⟩ := List.mem_map.mp (show _ ∈ (List.range ss.length).map _ from hm)
    have hk := List.mem_range.mp hk
    have h1 := hall k hk
    rw [Nat.zero_add, Nat.zero_add, hS.off_succ hk] at h1
    rw [← e]
    unfold fSh at h1
    rw [Nat.add_sub_cancel_left] at h1
    exact h1
  rw [rows_worst d hb hW hS] at hw
  have := hr.2 (rowsT ss d) (rowsT_n d hS hW.l0)
  grind
theorem boxesLay : ∀ bs : List Bx, PyData.canLayAll0 (bs.map dBox) = true
  | [] => rfl
  | b :: r => by
    show ((dBox b).canLay0 && PyData.canLayAll0 (r.map dBox)) = true
    rw [boxesLay r]
    rfl
theorem boxesDepth : ∀ bs : List Bx, PyData.depthAll (bs.map dBox) ≤ 2
  | [] => by decide
  | b :: r => by
    have h := boxesDepth r
    show max (dBox b).depth (PyData.depthAll (r.map dBox)) ≤ 2
    have : (dBox b).depth = 2 := rfl
    omega
theorem boxesSh (bs : List Bx) : SeqAt.shaped (.list (bs.map dBox)) = true := by
  unfold SeqAt.shaped
  have h : (PyData.list (bs.map dBox)).depth ≤ 3 := by
    have := boxesDepth bs
    show PyData.depthAll (bs.map dBox) + 1 ≤ 3
    omega
  rw [decide_eq_true (by omega), Bool.and_true]
  exact boxesLay bs
theorem boxesEqv (bs : List Bx) : PyData.eqv (.list (bs.map dBox)) (.list (bs.map dBox)) = true := SeqAt.eqv_refl _ (boxesLay bs)
theorem bxsDp {K : PySem.W.Frag} {H : Hp} : ∀ {us : List V} {bs : List Bx}, Bxs K H us bs → DpAll K H us (bs.map dBox)
  | _, _, .nil => .nil
  | _, _, .cons h r => .cons h.dp (bxsDp r)
end Cc
set_option maxHeartbeats 2000000
/-! XZipM: zip of a list and a tuple, either way round, out of the library's zip over iterators of any kind. -/
namespace ZM
open PySem PySem.Spec PyProof.Rows L2
/-- a list (true) or a tuple (false), as it may be read -/
def SqX : Bool → PySem.W.Frag → Hp → Addr → List V → Prop
  | true => SqL
  | false => SqT
def CurX : Bool → Heap → Addr → Addr → Nat → Prop
  | true => fun h it l i => h.IsListIter it l i
  | false => fun h it l i => h.IsTupleIter it l i
def StoX : Bool → Heap → Addr → Array Value → Prop
  | true => fun h l xs => h.IsList l xs
  | false => fun h l xs => h.IsTuple l xs
def objX : Bool → Addr → Obj
  | true => fun l => { cls := .type "list_iterator", data := .fields #[.ref l, .int 0 0] }
  | false => fun l => { cls := .type "tuple_iterator", data := .fields #[.ref l, .int 0 0] }
theorem drawX {P : Program} {w : World} {A : Around} (k : Bool) (hh : A.handled = none) (it l : Addr) (hne : l ≠ it) (xs : Array Value) : Draws P w A it [it, l] xs.size (fun i v => xs[i]? = some v) (fun i h => CurX k h it l i ∧ StoX k h l xs) := by
  cases k with
  | true => exact Draws.list hh it l hne xs
  | false => exact Draws.tuple hh it l hne xs
theorem begX (k : Bool) (l : Addr) (xs : Array Value) : Begins (.ref l) (objX k l) (fun h => StoX k h l xs) := by
  cases k with
  | true => exact begins_list l xs
  | false => exact begins_tuple l xs
theorem curX_new (k : Bool) {h : Heap} {it l : Addr} (e : h.get? it = some (objX k l)) : CurX k h it l 0 := by
  cases k with
  | true => exact ⟨_, e, rfl, rfl⟩
  | false => exact ⟨_, e, rfl, rfl⟩
theorem curX_at (k : Bool) {h g : Heap} {it l : Addr} {i : Nat} (c : CurX k h it l i) (e : ∀ o, h.get? it = some o → g.get? it = some o) : CurX k g it l i := by
  cases k with
  | true => exact Heap.IsListIter.at c e
  | false => exact Heap.IsTupleIter.at c e
theorem curX_obj (k : Bool) {h : Heap} {it l : Addr} {i : Nat} (c : CurX k h it l i) : ∃ o, h.get? it = some o ∧ ∀ v, o.data ≠ .cell v := by
  cases k with
  | true =>
    obtain ⟨o, e, _, d⟩ := c
    exact ⟨o, e, fun v z => by rw [d] at z; cases z⟩
  | false =>
    obtain ⟨o, e, _, d⟩ := c
    exact ⟨o, e, fun v z => by rw [d] at z; cases z⟩
section
variable {X : Cx} {pins : List (Addr × Obj)} {σ : L2.St} {H : Hp} {s : Shared} {a : Addr} {xs ys : List V}
theorem sqX_its (k : Bool) (I : Inv X pins σ H s) (h : SqX k X.K H a xs) : ∃ its : List Value, Vals xs its ∧ StoX k s.heap a its.toArray ∧ a < s.heap.objs.size := by
  cases k with
  | true =>
    obtain ⟨its, r, p, _⟩ := I.list h
    exact ⟨its, r, p.isList, p.lt⟩
  | false =>
    obtain ⟨its, r, p, _⟩ := I.tuple h
    exact ⟨its, r, p, p.lt⟩
theorem sqX_inj (k : Bool) (I : Inv X pins σ H s) (h : SqX k X.K H a xs) (g : SqX k X.K H a ys) : xs = ys := by
  cases k with
  | true => exact I.list_inj h g
  | false => exact I.tuple_inj h g
end
/-- what such a zip walks -/
def ItM (K : PySem.W.Frag) (k1 k2 : Bool) (a b : Addr) : It where
  go := fun i H => ∃ xs ys x y, SqX k1 K H a xs ∧ SqX k2 K H b ys ∧ xs[i]? = some x ∧ ys[i]? = some y
  yld := fun i H v G => ∃ p x y, v = .ref p ∧ H p = none ∧ G = upd H p (.tup [x, y]) ∧ (∀ xs, SqX k1 K H a xs → xs[i]? = some x) ∧ ∀ ys, SqX k2 K H b ys → ys[i]? = some y
  stop := fun i H => ∃ xs ys : List V, SqX k1 K H a xs ∧ SqX k2 K H b ys ∧ i ≤ xs.length ∧ i ≤ ys.length ∧ (i = xs.length ∨ i = ys.length)
theorem walkM {K : PySem.W.Frag} {k1 k2 : Bool} {a b : Addr} {xs ys : List V} {n : Nat} (hn : n = min xs.length ys.length) : Walk (ItM K k1 k2 a b) n (fun H => SqX k1 K H a xs ∧ SqX k2 K H b ys) (YPair (fun i => xs[i]?) fun i => ys[i]?) where
  goes := fun i H hi g => ⟨xs, ys, xs[i]'(by omega), ys[i]'(by omega), g.1, g.2, List.getElem?_eq_getElem _, List.getElem?_eq_getElem _⟩
  stops := fun H g => ⟨xs, ys, g.1, g.2, by omega, by omega, by omega⟩
  yields := fun i H v G _ g y => by
    obtain ⟨p, x, z, h1, h2, h3, h4, h5⟩ := y
    exact ⟨p, x, z, h1, h2, h3, h4 _ g.1, h5 _ g.2⟩
section
variable {P : Program} {w : World} {K : PySem.W.Frag} {elts : List Expr} {kk : Nat} {tp : Pos} {a b z TI TO i1 i2 : Addr} {k1 k2 : Bool}
/-- how its cells stand ahead of turn i -/
def ZSt (k1 k2 : Bool) (a b z TI TO i1 i2 : Addr) (i : Nat) (h : Heap) : Prop := IsZip h z TI TO .none ∧ IsTupOf2 h TI (.ref i1) (.ref i2) ∧ (∃ x y, IsTupOf2 h TO x y) ∧ CurX k1 h i1 a i ∧ CurX k2 h i2 b i
theorem mem5 {P : Addr → Prop} (h0 : P z) (h1 : P TI) (h2 : P TO) (h3 : P i1) (h4 : P i2) : ∀ c ∈ [z, TI, TO, i1, i2], P c := fun c hc => by
  rcases List.mem_cons.mp hc with rfl | hc
  · exact h0
  rcases List.mem_cons.mp hc with rfl | hc
  · exact h1
  rcases List.mem_cons.mp hc with rfl | hc
  · exact h2
  rcases List.mem_cons.mp hc with rfl | hc
  · exact h3
  rcases List.mem_singleton.mp hc with rfl
  exact h4
theorem turnM (S : ZipSep2 z TI TO i1 i2 [i1, a] [i2, b]) (n1 : a ≠ i1) (n2 : b ≠ i2) (n3 : i1 ≠ z) (n4 : i2 ≠ z) : Turn P w K (.Tuple elts kk tp) (ItM K k1 k2 a b) [z, TI, TO, i1, i2] z (ZSt k1 k2 a b z TI TO i1 i2) where
  mem := List.mem_cons_self
  obj := fun i h st => by
    obtain ⟨hz, hTI, ⟨x, y, hTO⟩, c1, c2⟩ := st
    exact mem5 ⟨_, hz, fun v q => nomatch q⟩ ⟨_, hTI, fun v q => nomatch q⟩ ⟨_, hTO, fun v q => nomatch q⟩ (curX_obj k1 c1) (curX_obj k2 c2)
  keep := fun i h g st e => by
    obtain ⟨hz, hTI, ⟨x, y, hTO⟩, c1, c2⟩ := st
    exact ⟨e z (by simp) _ hz, e TI (by simp) _ hTI, ⟨x, y, e TO (by simp) _ hTO⟩, curX_at k1 c1 (e i1 (by simp)), curX_at k2 c2 (e i2 (by simp))⟩
  item := by
    rintro X rfl rfl rfl hc i pins s σ H E I hf ⟨hz, hTI, ⟨x0, y0, hTO⟩, c1, c2⟩ ⟨xs, ys, x, y, qx, qy, ex, ey⟩
    obtain ⟨us, ru, gu, _⟩ := sqX_its k1 I qx
    obtain ⟨vs, rv, gv, _⟩ := sqX_its k2 I qy
    have hd : X.A.in1.handled = none := I.ok.hd hc
    have lx := (List.getElem?_eq_some_iff.mp ex).1
    have ly := (List.getElem?_eq_some_iff.mp ey).1
    have l1 := ru.length
    have l2 := rv.length
    refine wpAny_pyNext_zipD2_item S (drawX k1 hd i1 a n1 us.toArray) (drawX k2 hd i2 b n2 vs.toArray) hz hTI hTO ⟨c1, gu⟩ ⟨c2, gv⟩ (by simp; omega) (by simp; omega) fun u1 u2 g tk e1 e2 gz gO st1 st2 gT gs gk => ?_
    obtain ⟨w1, hw1, r1⟩ := ru.get ex
    obtain ⟨w2, hw2, r2⟩ := rv.get ey
    have q1 : u1 = w1 := by
      have e1 : us[i]? = some u1 := by simpa using e1
      exact Option.some.inj (e1.symm.trans hw1)
    have q2 : u2 = w2 := by
      have e2 : vs[i]? = some u2 := by simpa using e2
      exact Option.some.inj (e2.symm.trans hw2)
    rw [q1, q2] at gT
    refine ⟨_, rfl, wpAny_letOwnedTupleGo_zip (s := { s with heap := g, toks := tk }) gz fun g2 gz2 sb => ?_⟩
    have zl : z < s.heap.objs.size := Heap.lt_size hz
    have gT2 : g2.get? s.heap.objs.size = some { cls := .type "tuple", data := .seq #[w1, w2] } := (sb.2 _ (Nat.ne_of_gt zl)).trans gT
    have keep : ∀ c o, c ∉ [z, TI, TO, i1, i2] → s.heap.get? c = some o → g2.get? c = some o := fun c o hm e => by
      have h0 : c ≠ z := fun q => hm (by simp [q])
      have h2 : c ≠ TO := fun q => hm (by simp [q])
      have h3 : c ≠ i1 := fun q => hm (by simp [q])
      have h4 : c ≠ i2 := fun q => hm (by simp [q])
      exact (sb.2 c h0).trans (gk c o h0 h2 h3 h4 e)
    have I2 : Inv X pins σ (upd H s.heap.objs.size (.tup [x, y])) { s with heap := g2, toks := tk } :=
      I.turnedNew keep hf (Nat.le_refl _) ⟨by show 2 ≤ sizeLine; decide, [w1, w2], .cons r1 (.cons r2 .nil), ⟨_, gT2, rfl, _, rfl⟩⟩
    refine ⟨.ref s.heap.objs.size, _, I2, rfl, ⟨_, x, y, rfl, I.hok.fresh (Nat.le_refl _), rfl, fun l hl => by rw [sqX_inj k1 I hl qx]; exact ex, fun l hl => by rw [sqX_inj k2 I hl qy]; exact ey⟩, ⟨gz2, ?_, ⟨u1, u2, ?_⟩, ?_, ?_⟩, fun c hm => ?_⟩
    · exact (sb.2 _ S.TIz).trans (gk _ _ S.TIz S.TITO S.TIi1 S.TIi2 hTI)
    · exact (sb.2 _ S.TOz).trans gO
    · exact curX_at k1 st1.1 fun o q => (sb.2 _ n3).trans q
    · exact curX_at k2 st2.1 fun o q => (sb.2 _ n4).trans q
    · have lt : c < s.heap.objs.size := by
        obtain ⟨o1, h1, _⟩ := curX_obj k1 c1
        obtain ⟨o2, h2, _⟩ := curX_obj k2 c2
        exact mem5 (P := fun c => c < s.heap.objs.size) zl (Heap.lt_size hTI) (Heap.lt_size hTO) (Heap.lt_size h1) (Heap.lt_size h2) c hm
      rw [upd_ne (Nat.ne_of_lt lt)]
      exact (hf c hm).1
  done := by
    rintro X rfl rfl rfl hc i pins s σ H E I hf ⟨hz, hTI, ⟨x0, y0, hTO⟩, c1, c2⟩ ⟨xs, ys, qx, qy, lx, ly, en⟩
    obtain ⟨us, ru, gu, _⟩ := sqX_its k1 I qx
    obtain ⟨vs, rv, gv, _⟩ := sqX_its k2 I qy
    have hd : X.A.in1.handled = none := I.ok.hd hc
    have l1 := ru.length
    have l2 := rv.length
    refine wpAny_pyNext_zipD2_end S (drawX k1 hd i1 a n1 us.toArray) (drawX k2 hd i2 b n2 vs.toArray) hz hTI hTO ⟨c1, gu⟩ ⟨c2, gv⟩ (by simp; omega) (by simp; omega) (by simp; omega) fun g tk gk => ⟨rfl, I.turnedL (ch := [z, TI, TO, i1, i2]) (fun c o hm e => ?_) hf⟩
    exact gk c o (fun q => hm (by simp [q])) (fun q => hm (by simp [q])) (fun q => hm (by simp [q])) (fun q => hm (by simp [q])) e
  self := fun A i s Q E st h => wpAny_pyIter_zip st.1 h
end
def iZipM (K : PySem.W.Frag) (k1 k2 : Bool) (ta : TA) : L2.TI := fun σ H R => ta σ H fun vs H1 => ∃ a b xs ys, vs = [.ref a, .ref b] ∧ SqX k1 K H1 a xs ∧ SqX k2 K H1 b ys ∧ R (ItM K k1 k2 a b) H1
theorem pi_zipM {X : Cx} (k1 k2 : Bool) {e e2 : Expr} {ta : TA} {p pos tpos : Pos} {elts : List Expr} {kk : Nat} (hg : Gl X "zip") (hm : X.mg "zip" = none) (ha : PA X [e, e2] ta)
    (hs : starEach [e, e2] X.env = (false, eval e X.env) :: starEach [e2] X.env := by rfl) (hpl : (backTo pos (starEach [e2] X.env)).any (·.1) = false := by rfl) :
    PI X (.Tuple elts kk tpos) (.Call (.Name "zip" p) [e, e2] [] pos) (iZipM X.K k1 k2 ta) := by
  constructor
  intro pins s σ H R I h
  refine Call_ (ld_blt I hg hm PyProof.Rows.boot_zip (PyProof.Rows.callWith_type1 (thn (ha.run pos pins s σ H _ I h) fun us s1 ⟨vs, H1, I1, r1, q1⟩ => ?_) hs hpl))
  obtain ⟨a, b, xs, ys, rfl, qx, qy, q⟩ := q1
  obtain ⟨ua, ub, rfl, ra, rb⟩ : ∃ ua ub, us = [ua, ub] ∧ RelV (.ref a) ua ∧ RelV (.ref b) ub := by
    cases r1 with
    | cons ra rr =>
      cases rr with
      | cons rb rr =>
        cases rr
        exact ⟨_, _, rfl, ra, rb⟩
  cases ra
  cases rb
  obtain ⟨us, ru, gu, la⟩ := sqX_its k1 I1 qx
  obtain ⟨vs, rv, gv, lb⟩ := sqX_its k2 I1 qy
  refine zip_begins2 (begX k1 a us.toArray) (begX k2 b vs.toArray) gu gv fun g hz hTI hTO h1 h2 gs gk => wpAny_pyIter_zip hz ?_
  have I2 : Inv X pins σ H1 { s1 with heap := g } := I1.kept (t' := s1.toks) gk
  have fp : ∀ k, FpOk X pins H1 (s1.heap.objs.size + k) := fun k => I1.fpOk (Nat.le_add_right _ _) (I1.hok.fresh (Nat.le_add_right _ _))
  generalize s1.heap.objs.size = m at *
  have no : ∀ {c : Addr} {x y : Addr}, c ≠ x → c ≠ y → c ∉ [x, y] := fun h1 h2 q => (List.mem_cons.mp q).elim h1 fun q => h2 (List.mem_singleton.mp q)
  have up : ∀ (x y : Nat), x < y → ((y : Addr) ≠ x) := fun x y h => Nat.ne_of_gt h
  have dn : ∀ (x y : Nat), x < y → ((x : Addr) ≠ y) := fun x y h => Nat.ne_of_lt h
  have S : ZipSep2 (m + 4) (m + 2) (m + 3) m (m + 1) [m, a] [m + 1, b] :=
    ⟨dn _ _ (by omega), dn _ _ (by omega), dn _ _ (by omega), up _ _ (by omega), List.mem_cons_self, no (up _ _ (by omega)) (up _ _ (Nat.lt_add_right 4 la)), no (up _ _ (by omega)) (up _ _ (Nat.lt_add_right 3 la)), up _ _ (by omega), List.mem_cons_self, no (up _ _ (by omega)) (up _ _ (Nat.lt_add_right 4 lb)), no (up _ _ (by omega)) (up _ _ (Nat.lt_add_right 3 lb)), no (dn _ _ (by omega)) (up _ _ lb), no (up _ _ (by omega)) (up _ _ (Nat.lt_add_right 1 la))⟩
  exact ⟨_, _, _, _, H1, rfl, I2, turnM S (dn _ _ la) (dn _ _ (Nat.lt_add_right 1 lb)) (dn _ _ (by omega)) (dn _ _ (by omega)), ⟨hz, hTI, ⟨_, _, hTO⟩, curX_new k1 h1, curX_new k2 h2⟩, mem5 (fp 4) (fp 2) (fp 3) (fp 0) (fp 1), q⟩
end ZM
set_option maxHeartbeats 4000000
/-! XJdg: papers judged, whatever is handed in. -/
namespace Cc
open PySem PySem.Spec PyProof.Rows L2
def isNumD : PyData → Bool
  | .int _ => true
  | _ => false
@[irreducible] def spNumD (K : PySem.W.Frag) : Sp := fun vs H Q _ => ∃ (v : V) (d : PyData), vs = [v] ∧ Dp K H v d ∧ ∀ r, r = V.bl (isNumD d) → Q r H
theorem numd_step {K : PySem.W.Frag} {H : Hp} {v : V} {d : PyData} {Q : VK} {E : XK} {vs : List V} (hv : Dp K H v d) (q : Q (.bl (isNumD d)) H) (hvs : vs = [v] := by rfl) : spNumD K vs H Q E := by
  unfold spNumD
  exact ⟨v, d, hvs, hv, fun r e => by rw [e]; exact q⟩
@[irreducible] def spIsPaper (K : PySem.W.Frag) (n : Nat) : Sp := fun vs H Q _ => ∃ (v vf vb : V) (a : Addr) (d : PyData) (f bd : Rat) (ws : List Int) (j : Nat), vs = [v, vf, .ref a, vb] ∧ Dp K H v d ∧ PtV K H vf f ∧ FwOk f ws n ∧ IntsV K H a ws ∧ PtV K H vb bd ∧ Sz 3900 bd ∧ ws.length ≤ j ∧ ∀ r H', Same H H' → r = V.bl (stands bd j f ws d) → Q r H'
/-- two halves in a list, by a split -/
@[irreducible] def spIsPair (K : PySem.W.Frag) (n : Nat) : Sp := fun vs H Q _ => ∃ (v vb u1 u2 : V) (L : Addr) (d : PyData) (f bd : Rat) (ws : List Int) (x : Bool × Nat) (j : Nat), vs = [v, .ref L, vb] ∧ Dp K H v d ∧ H L = some (.lst [u1, u2]) ∧ HfV K H u1 (fhalf f (ws.take x.2).sum ws.sum x.1) (ws.take x.2) ∧ HfV K H u2 (fhalf f (ws.drop x.2).sum ws.sum x.1) (ws.drop x.2) ∧
  FwOk f ws (n + 1) ∧ 1 ≤ x.2 ∧ x.2 < ws.length ∧ PtV K H vb bd ∧ Sz 3900 bd ∧ ws.length ≤ j + 1 ∧ ∀ r H', Same H H' → r = V.bl (standP (stands bd j) f ws d x) → Q r H'
@[irreducible] def spRefutes (K : PySem.W.Frag) : Sp := fun vs H Q _ => ∃ (v vb vp : V) (a : Addr) (b : Bx) (bd : Rat) (ws : List Int) (d : PyData) (j : Nat), vs = [v, .ref a, vb, vp] ∧ BxV K H v b ∧ b.Ok 202 ∧ IntsV K H a ws ∧ WOk ws ∧ ws.length ≤ 5 ∧ PtV K H vb bd ∧ Sz 3900 bd ∧ 1 ≤ bd ∧ Dp K H vp d ∧ ws.length ≤ j ∧ ∀ r H', Same H H' → r = V.bl (stands bd j (bform b) ws d) → Q r H'
@[irreducible] def spStands (K : PySem.W.Frag) (n : Nat) : Sp := fun vs H Q _ => ∃ (v vb vt : V) (a : Addr) (b : Bx) (ws : List Int) (bd : Rat) (d : PyData) (k j : Nat), vs = [v, .ref a, vb, vt] ∧ BxV K H v b ∧ BOk k b ∧ SqL K H a (ws.map V.int) ∧ Ws ws ws.length ∧ 1 ≤ ws.length ∧ ws.length ≤ n ∧ k + ws.length ≤ 6 ∧ PtV K H vb bd ∧ Sz 3900 bd ∧ Dp K H vt d ∧ SeqAt.shaped d = true ∧ ws.length ≤ j ∧ ∀ r H', Same H H' → r = V.bl (stands bd j (bform b) ws d) → Q r H'
section
variable {K : PySem.W.Frag} {H : Hp} {Q : VK} {E : XK} {vs : List V} {n j : Nat} {v vf vb vp : V} {a : Addr} {b : Bx} {ws : List Int} {f bd : Rat} {d : PyData}
theorem ispaper_step {m : Nat} (hv : Dp K H v d) (hf : PtV K H vf f) (hF : FwOk f ws n) (hI : IntsV K H a ws) (hb : PtV K H vb bd) (hz : Sz m bd) (hm : m ≤ 3900) (hj : ws.length ≤ j) (q : ∀ H', Same H H' → Q (.bl (stands bd j f ws d)) H') (hvs : vs = [v, vf, .ref a, vb] := by rfl) : spIsPaper K n vs H Q E := by
  unfold spIsPaper
  exact ⟨v, vf, vb, a, d, f, bd, ws, j, hvs, hv, hf, hF, hI, hb, hz.mono hm, hj, fun r H' s e => by rw [e]; exact q H' s⟩
theorem ispair_step {u1 u2 : V} {L : Addr} {x : Bool × Nat} (hv : Dp K H v d) (hL : H L = some (.lst [u1, u2])) (h1 : HfV K H u1 (fhalf f (ws.take x.2).sum ws.sum x.1) (ws.take x.2)) (h2 : HfV K H u2 (fhalf f (ws.drop x.2).sum ws.sum x.1) (ws.drop x.2)) (hF : FwOk f ws (n + 1)) (x1 : 1 ≤ x.2) (x2 : x.2 < ws.length) (hb : PtV K H vb bd) (hz : Sz 3900 bd) (hj : ws.length ≤ j + 1) (q : ∀ H', Same H H' → Q (.bl (standP (stands bd j) f ws d x)) H') (hvs : vs = [v, .ref L, vb] := by rfl) : spIsPair K n vs H Q E := by
  unfold spIsPair
  exact ⟨v, vb, u1, u2, L, d, f, bd, ws, x, j, hvs, hv, hL, h1, h2, hF, x1, x2, hb, hz, hj, fun r H' s e => by rw [e]; exact q H' s⟩
theorem refutes_step {m : Nat} (hv : BxV K H v b) (hb : b.Ok 202) (hI : IntsV K H a ws) (hW : WOk ws) (hl : ws.length ≤ 5) (hbd : PtV K H vb bd) (hz : Sz m bd) (hm : m ≤ 3900) (h1 : 1 ≤ bd) (hp : Dp K H vp d) (hj : ws.length ≤ j) (q : ∀ H', Same H H' → Q (.bl (stands bd j (bform b) ws d)) H') (hvs : vs = [v, .ref a, vb, vp] := by rfl) : spRefutes K vs H Q E := by
  unfold spRefutes
  exact ⟨v, vb, vp, a, b, bd, ws, d, j, hvs, hv, hb, hI, hW, hl, hbd, hz.mono hm, h1, hp, hj, fun r H' s e => by rw [e]; exact q H' s⟩
theorem stands_step {k m : Nat} (hv : BxV K H v b) (hb : BOk k b) (hI : SqL K H a (ws.map V.int)) (hW : Ws ws ws.length) (h1 : 1 ≤ ws.length) (hn : ws.length ≤ n) (hk : k + ws.length ≤ 6) (hbd : PtV K H vb bd) (hz : Sz m bd) (hm : m ≤ 3900) (hp : Dp K H vp d) (hs : SeqAt.shaped d = true) (hj : ws.length ≤ j) (q : ∀ H', Same H H' → Q (.bl (stands bd j (bform b) ws d)) H') (hvs : vs = [v, .ref a, vb, vp] := by rfl) : spStands K n vs H Q E := by
  unfold spStands
  exact ⟨v, vb, vp, a, b, ws, bd, d, k, j, hvs, hv, hb, hI, hW, h1, hn, hk, hbd, hz.mono hm, hp, hs, hj, fun r H' s e => by rw [e]; exact q H' s⟩
end
/-! ### the judging itself -/
theorem stands_no {bd f : Rat} {ws : List Int} {d : PyData} (h : tyN d ≠ "tuple") : ∀ j, stands bd j f ws d = false
  | 0 => rfl
  | j + 1 => by
    cases d with
    | tuple ds => exact absurd rfl h
    | none => rfl
    | bool _ => rfl
    | int _ => rfl
    | str _ => rfl
    | list _ => rfl
    | dict _ => rfl
theorem stands_one {bd f : Rat} {w : Int} {ps : List PyData} (j : Nat) : stands bd (j + 1) f [w] (.tuple ps) = (decide (ps.length = 0) && !decide (shF f < bd)) := by
  show (if ([w] : List Int).length = 1 then ps.isEmpty && !decide (shF f < bd) else _) = _
  rw [if_pos (show ([w] : List Int).length = 1 from rfl)]
  cases ps <;> rfl
theorem stands_more {bd f : Rat} {ws : List Int} {ps : List PyData} (j : Nat) (h : ws.length ≠ 1) : stands bd (j + 1) f ws (.tuple ps) = (decide (ps.length = (spl ws.length).length) && (ps.zip (spl ws.length)).all fun q => standP (stands bd j) f ws q.1 q.2) := by
  show (if ws.length = 1 then _ else _) = _
  rw [if_neg h]
theorem standP_ty {S : Rat → List Int → PyData → Bool} {f : Rat} {ws : List Int} {d : PyData} {x : Bool × Nat} (h : tyN d ≠ "tuple") : standP S f ws d x = false := by
  cases d with
  | tuple ds => exact absurd rfl h
  | none => rfl
  | bool _ => rfl
  | int _ => rfl
  | str _ => rfl
  | list _ => rfl
  | dict _ => rfl
theorem standP_len {S : Rat → List Int → PyData → Bool} {f : Rat} {ws : List Int} {ds : List PyData} {x : Bool × Nat} (h : ds.length ≠ 2) : standP S f ws (.tuple ds) x = false := by
  match ds, h with
  | [], _ => rfl
  | [d], _ => cases d <;> rfl
  | [_, _], h => exact absurd rfl h
  | d :: _ :: _ :: _, _ => cases d <;> rfl
theorem standP_num {S : Rat → List Int → PyData → Bool} {f : Rat} {ws : List Int} {d e : PyData} {x : Bool × Nat} (h : isNumD d = false) : standP S f ws (.tuple [d, e]) x = false := by
  cases d with
  | int i => exact Bool.noConfusion h
  | none => rfl
  | bool _ => rfl
  | str _ => rfl
  | list _ => rfl
  | tuple _ => rfl
  | dict _ => rfl
theorem standP_int {S : Rat → List Int → PyData → Bool} {f : Rat} {ws : List Int} {i : Int} {e : PyData} {x : Bool × Nat} (h0 : i ≠ 0) (h1 : i ≠ 1) : standP S f ws (.tuple [.int i, e]) x = false := by
  show (if i = 0 then _ else if i = 1 then _ else false) = false
  rw [if_neg h0, if_neg h1]
theorem dp_isint {K : PySem.W.Frag} {H : Hp} {v : V} {d : PyData} (h : Dp K H v d) (ht : isNumD d = true) : ∃ i, v = .int i ∧ d = .int i := by
  cases h with
  | int i => exact ⟨i, rfl, rfl⟩
  | non => exact Bool.noConfusion ht
  | bl b => exact Bool.noConfusion ht
  | str x => exact Bool.noConfusion ht
  | lst _ _ => exact Bool.noConfusion ht
  | tup _ _ => exact Bool.noConfusion ht
theorem shaped_item {ds : List PyData} {d : PyData} (h : SeqAt.shaped (.tuple ds) = true) (hd : d ∈ ds) : SeqAt.shaped d = true := by
  unfold SeqAt.shaped at h ⊢
  rw [Bool.and_eq_true, decide_eq_true_eq] at h ⊢
  have key : ∀ {ds : List PyData}, PyData.canLayAll0 ds = true → d ∈ ds → d.canLay0 = true ∧ d.depth ≤ PyData.depthAll ds := by
    intro ds
    induction ds with
    | nil => intro _ h; cases h
    | cons x r ih =>
      intro hl hm
      have hl : (x.canLay0 && PyData.canLayAll0 r) = true := hl
      rw [Bool.and_eq_true] at hl
      show d.canLay0 = true ∧ d.depth ≤ max x.depth (PyData.depthAll r)
      rcases List.mem_cons.mp hm with rfl | hm
      · exact ⟨hl.1, Nat.le_max_left _ _⟩
      · have := ih hl.2 hm
        exact ⟨this.1, Nat.le_trans this.2 (Nat.le_max_right _ _)⟩
  have h1 : PyData.canLayAll0 ds = true := h.1
  have h2 : PyData.depthAll ds + 1 ≤ 64 := h.2
  have k := key h1 hd
  exact ⟨k.1, by omega⟩
theorem eqv_unit (ds : List PyData) : PyData.eqv (.tuple ds) (.tuple []) = decide (ds.length = 0) := by
  cases ds with
  | nil => rfl
  | cons d r =>
    rw [decide_eq_false (show ¬ (d :: r).length = 0 from nofun)]
    simp [PyData.eqv, PyData.eqvAll]
theorem stands_bad {bd f : Rat} {ws : List Int} {ps : List PyData} (j : Nat) (h : ws.length ≠ 1) {i : Nat} {d : PyData} {x : Bool × Nat} (e1 : ps[i]? = some d) (e2 : (spl ws.length)[i]? = some x) (hb : standP (stands bd j) f ws d x = false) : stands bd (j + 1) f ws (.tuple ps) = false := by
  rw [stands_more j h]
  have : ((ps.zip (spl ws.length)).all fun q => standP (stands bd j) f ws q.1 q.2) = false := by
    rw [List.all_eq_false]
    have ez : (ps.zip (spl ws.length))[i]? = some (d, x) := by rw [List.getElem?_zip_eq_some]; exact ⟨e1, e2⟩
    exact ⟨(d, x), List.mem_of_getElem? ez, by dsimp only; rw [hb]; exact Bool.false_ne_true⟩
  rw [this, Bool.and_false]
theorem stands_all {bd f : Rat} {ws : List Int} {ps : List PyData} (j : Nat) (h : ws.length ≠ 1) (hl : ps.length = (spl ws.length).length) (hb : ∀ i d x, i < ps.length → ps[i]? = some d → (spl ws.length)[i]? = some x → standP (stands bd j) f ws d x = true) : stands bd (j + 1) f ws (.tuple ps) = true := by
  rw [stands_more j h, decide_eq_true hl, Bool.true_and, List.all_eq_true]
  intro q hq
  obtain ⟨i, e⟩ := List.getElem?_of_mem hq
  rw [List.getElem?_zip_eq_some] at e
  exact hb i q.1 q.2 (List.getElem?_eq_some_iff.mp e.1).1 e.1 e.2
/-- a spot: which way, where -/
def SpotV (K : PySem.W.Frag) (H : Hp) (v : V) (x : Bool × Nat) : Prop := ∃ p, v = .ref p ∧ SqT K H p [.str (sd x.1), .int (x.2 : Int)]
theorem SpotV.same {K : PySem.W.Frag} {H H' : Hp} {v : V} {x : Bool × Nat} (e : Same H H') (h : SpotV K H v x) : SpotV K H' v x := by
  obtain ⟨p, rfl, h⟩ := h
  exact ⟨p, rfl, seqT_same e h⟩
theorem SpotV.kp {K : PySem.W.Frag} {H H' : Hp} {b : Addr} {ys : List V} {v : V} {x : Bool × Nat} (e : Kp b H H') (hb : H b = some (.lst ys)) (h : SpotV K H v x) : SpotV K H' v x := by
  obtain ⟨p, rfl, h⟩ := h
  exact ⟨p, rfl, seqT_kp e hb h⟩
end Cc
set_option maxHeartbeats 4000000
/-! XLamD: a lambda with one parameter that has a default, handed to a def that asks it with no argument. -/
namespace LamX
open PySem PySem.Spec PyProof.Rows L2
/-- names of its own are none of N; all others are captured or global -/
structure LamSD (N : List Str) (sc scope : Scope) : Prop where
  fn : scope.kind = .function
  sync : scope.isCoroutine = false
  plain : scope.isGenerator = false
  nocell : ∀ y ∈ scope.names, y.2 ≠ .cell
  own : ∀ y ∈ scope.names, y.2 = .local → y.1 ∉ N
  caught : ∀ y ∈ scope.names, y.2 = .free → sc.names.lookup y.1 = some .cell ∨ sc.names.lookup y.1 = some .free
def lamSDB (N : List Str) (sc scope : Scope) : Bool :=
  decide (scope.kind = .function ∧ scope.isCoroutine = false ∧ scope.isGenerator = false ∧ ∀ y ∈ scope.names, y.2 ≠ .cell ∧ (y.2 = .local → y.1 ∉ N) ∧ (y.2 = .free → sc.names.lookup y.1 = some .cell ∨ sc.names.lookup y.1 = some .free))
theorem lamSD_by {N : List Str} {sc scope : Scope} (h : lamSDB N sc scope = true) : LamSD N sc scope :=
  have z := of_decide_eq_true h
  ⟨z.1, z.2.1, z.2.2.1, fun y hy => (z.2.2.2 y hy).1, fun y hy => (z.2.2.2 y hy).2.1, fun y hy => (z.2.2.2 y hy).2.2⟩
section
variable {X : Cx} {pins : List (Addr × Obj)} {σ : L2.St} {H HZ : Hp} {s s1 : Shared} {scope : Scope}
theorem LamSD.cells {N : List Str} (L : LamSD N X.env.scope scope) (ok : X.Ok) : ∀ y ∈ scope.names, y.2 = .free → ∃ c, X.env.cells.lookup y.1 = some c := fun y hy e => ok.has y.1 (L.caught y hy e)
/-- what is new lies on no frame -/
theorem new_off (I : Inv X pins σ H s) {f : Addr} (hf : s.heap.objs.size ≤ f) : f ∉ frs X.stack := fun z =>
  (List.mem_cons.mp (I.stkSub f z)).elim (fun e => Nat.not_lt.mpr hf (e ▸ I.lt)) fun e => I.nofs hf e
/-- the body's beginning, the frame holding whatever names of its own -/
theorem inv_own {A : Around} {outer : List Env} {E : XK} {f c' : Addr} {g : Heap} {tk : Nat} {m : Str → Option Value} (I : Inv X pins σ H s) (L : LamSD X.N X.env.scope scope) (e0 : Env0 X.prog X.w X.K X.mg X.base A outer s1 HZ)
    (hd : A.handled = none) (un : Un (frs X.stack) [] H HZ s.heap s1.heap) (hns : g.Ns s1.heap.objs.size m) (kp : ∀ b o, s1.heap.get? b = some o → g.get? b = some o) :
    Inv (lamCx X A outer s1 HZ E scope f c') [] σ HZ { s1 with heap := g, toks := tk } := by
  have down : ∀ {y : Str} {c : Addr}, (cloFrom X.env.cells scope.names []).lookup y = some c → X.env.cells.lookup y = some c := fun {y c} e => by
    rcases cloFrom_mem (PySem.mem_of_lookup e) with h | ⟨hy, hc⟩
    · exact nomatch h
    · obtain ⟨d, hd⟩ := L.cells I.ok (y, .free) hy rfl
      have hd : X.env.cells.lookup y = some d := hd
      rw [hc, hd]
      rfl
  have up : ∀ {y : Str}, scope.names.lookup y = some .free → ∃ c, (cloFrom X.env.cells scope.names []).lookup y = some c := fun h => mem_lookup (cloFrom_has (acc := []) (PySem.mem_of_lookup h))
  have stay : ∀ {y : Str} {c : Addr} {v : Option Value}, X.env.cells.lookup y = some c → s.heap.IsCell c v → g.IsCell c v := fun {y c v} e ⟨o, ho, hv⟩ => by
    obtain ⟨sl, q⟩ := un.any ho (I.freeC y c e) (fun z => nomatch z)
    exact ⟨_, kp _ _ q, hv⟩
  refine { ok := { mod := e0.mod, kind := L.fn, glob := rfl, blt := rfl, above := Nat.le_refl _, inj := fun x y c e1 e2 => I.ok.inj x y c (down e1) (down e2), has := fun y hy => ?_, cab := fun _ _ z => (nomatch z), hd := fun _ => hd, frames := Around.frames_deeper e0.frames, stk := .inr ⟨rfl, rfl⟩,
                   exf := fun _ z => (nomatch z), bs := e0.bs, bsz := e0.bsz, noex := fun _ _ _ z => (nomatch z), exfs := fun _ z => (nomatch z), funs := e0.funs, frf := e0.frf },
           os := rfl, bare := e0.bare, base := Un.kept kp, loc := ⟨m, hns, fun i y v e1 e2 e3 => ?_⟩, cell := fun y c e => ?_, free := e0.hok.fresh (Nat.le_refl _), freeC := fun y c e => ?_, pin := fun _ z => (nomatch z), hok := e0.hok.kept kp, len := I.len }
  · rcases (show scope.names.lookup y = some .cell ∨ scope.names.lookup y = some .free from hy) with z | z
    · exact absurd rfl (L.nocell _ (PySem.mem_of_lookup z))
    · exact up z
  · rcases (show Vis scope y from e3) with z | z | z
    · exact absurd (List.mem_of_getElem? e1) (L.own _ (PySem.mem_of_lookup z) rfl)
    · exact absurd rfl (L.nocell _ (PySem.mem_of_lookup z))
    · have from_ := L.caught _ (PySem.mem_of_lookup z) rfl
      obtain ⟨m0, -, hl⟩ := I.loc
      obtain ⟨u, ru, look⟩ := hl i y v e1 e2 (.inr from_)
      obtain ⟨d, hd⟩ := up z
      refine ⟨u, ru, .inr ⟨.inr z, d, hd, ?_⟩⟩
      rcases look with ⟨k, -⟩ | ⟨-, d', hd', hu⟩
      · have k : X.env.scope.names.lookup y = some .local := k
        rcases from_ with q | q <;> exact nomatch k.symm.trans q
      · rw [down hd] at hd'
        cases hd'
        exact stay (down hd) hu
  · obtain ⟨v, hv⟩ := I.cell y c (down e)
    exact ⟨v, stay (down e) hv⟩
  · obtain ⟨v, o, ho, -⟩ := I.cell y c (down e)
    exact un.free c o ho (I.freeC y c (down e)) fun z => nomatch z
/-- the table with one code object more -/
theorem tab_more {T : List (Addr × Str)} {P c' : Addr} {q : Str} {ps : Array Value} {pos : Pos} (hT : Tabs T H) (hu : ∀ p ∈ T, p.1 = P → p.2 = q) (hP : H P = some (.tbl ps)) (nC : H c' = none) :
    ExtN H (upd (upd H P (.tbl (ps ++ #[rawInt pos.line, rawInt pos.col, .ref c']))) c' (CodeO c' q)) ∧ Tabs T (upd (upd H P (.tbl (ps ++ #[rawInt pos.line, rawInt pos.col, .ref c']))) c' (CodeO c' q)) := by
  generalize hG : (upd (upd H P (.tbl (ps ++ #[rawInt pos.line, rawInt pos.col, .ref c']))) c' (CodeO c' q)) = G
  have atC : G c' = some (CodeO c' q) := by rw [← hG, upd_same]
  have atP : G P = some (.tbl (ps ++ #[rawInt pos.line, rawInt pos.col, .ref c'])) := by rw [← hG, upd_ne (ne_of_none hP nC), upd_same]
  have off : ∀ {b o}, H b = some o → b ≠ P → G b = some o := fun {b o} e n => by rw [← hG, upd_ne (ne_of_none e nC), upd_ne n, e]
  have ext : ExtN H G := fun b o e n => off e fun z => by
    rw [z, hP] at e
    exact n ps (Option.some.inj e).symm
  refine ⟨ext, fun p hp => ?_⟩
  obtain ⟨qs, e1, e2, e3⟩ := hT p hp
  by_cases hb : p.1 = P
  · rw [hb, hP] at e1
    cases e1
    have app : (ps ++ #[rawInt pos.line, rawInt pos.col, .ref c']).toList = ps.toList ++ [rawInt pos.line, rawInt pos.col, .ref c'] := by rw [Array.toList_append]
    refine ⟨_, by rw [hb]; exact atP, app ▸ PySem.TriplesOk_snoc _ _ _ _ e2, fun pos' cv h => ?_⟩
    rcases among_app _ e2 (app ▸ h) with z | z
    · exact (e3 pos' cv z).imp fun d y => ⟨y.1, ext _ _ y.2 codeO_ne⟩
    · exact ⟨c', z, hu p hp hb ▸ atC⟩
  · exact ⟨qs, off e1 hb, e2, fun pos' cv h => (e3 pos' cv h).imp fun d y => ⟨y.1, ext _ _ y.2 codeO_ne⟩⟩
/-- the function object that stands for the lambda, with its default -/
abbrev lamD (X : Cx) (params : Arguments) (body : Expr) (scope : Scope) (t : Addr) (doc pm : Value) (c' : Addr) (ctv : Value) : Obj :=
  PySem.W.kdv_obj "<lambda>" (X.env.qual ++ "<lambda>") params (.expr body) scope (cloFrom X.env.cells scope.names []) (.ref t) doc pm c' ctv
/-- how the lambda stands when it is made -/
structure MadeD (X : Cx) (pins : List (Addr × Obj)) (σ : L2.St) (T : List (Addr × Str)) (H : Hp) (params : Arguments) (body : Expr) (scope : Scope) (z : Int) (f : Addr) (s' : Shared) : Prop where
  ex : ∃ (c' t : Addr) (doc pm ctv : Value) (H1 : Hp), Inv X pins σ H1 s' ∧ ExtN H H1 ∧ Tabs T H1 ∧ s'.heap.get? f = some (lamD X params body scope t doc pm c' ctv) ∧ H1 f = none ∧ f ∉ frs X.stack ∧ H1 c' = some (CodeO c' (X.env.qual ++ "<lambda>")) ∧ H1 t = some (.tup [.int z])
theorem make_tail {T : List (Addr × Str)} {c P t : Addr} {params : Arguments} {body : Expr} {pos : Pos} {line : Nat} {z : Int} {E : Value → Shared → Prop} {Q : Value → Shared → Prop} (I : Inv X pins σ H s) (TB : TabB X.base X.mg c P) (hcode : X.env.code = .ref c)
    (hm : (P, X.env.qual ++ "<lambda>") ∈ T) (hu : ∀ p ∈ T, p.1 = P → p.2 = X.env.qual ++ "<lambda>") (hT : Tabs T H) (L : LamSD X.N X.env.scope scope) (ht : H t = some (.tup [.int z])) (h : ∀ f s', MadeD X pins σ T H params body scope z f s' → Q (.ref f) s') :
    wpAny (model X.prog X.w) X.A (makeTail "<lambda>" (X.env.qual ++ "<lambda>") params (.expr body) scope X.env (.ref t) .none none pos line) Q E s := by
  obtain ⟨ps, hP, tri, known⟩ := hT _ hm
  have bP := TB.bm.keeps I.bk
  have atP := I.hok P _ hP
  have clo := closure_ok (L.cells I.ok)
  cases hc : codeAmong pos ps.toList with
  | some cv =>
    obtain ⟨c', rfl, hcv⟩ := known pos cv hc
    refine PySem.W.kdv_makeTailHit clo I.ok.glob (I.mod.glob.keeps I.bk) hcode (TB.code.keeps I.bk) atP tri hc bP fun ctv doc g tk old big => h _ _ ⟨c', t, doc, _, ctv, H, I.kept fun b o e => Heap.get?_push_of_some _ (old b o e), ExtN.refl H, hT, Heap.get?_push_size _ rfl, I.hok.fresh big, new_off I big, hcv, ht⟩
  | none =>
    refine PySem.W.kdv_makeTail clo I.ok.glob (I.mod.glob.keeps I.bk) hcode (TB.code.keeps I.bk) atP tri hc TB.gP bP fun c' ctv doc g tk old lo hi rec tab => ?_
    obtain ⟨_, oc, vs, tq, e, hoc, hvs, hq⟩ := rec
    cases e
    have nC := I.hok.fresh lo
    have big := Nat.le_trans lo (Nat.le_of_lt hi)
    obtain ⟨ext, tabs⟩ := tab_more (c' := c') (pos := pos) hT hu hP nC
    have I2 := inv_table (t' := tk) (more := #[rawInt pos.line, rawInt pos.col, .ref c']) (h' := g.push (lamD X params body scope t doc ((X.mg "__name__").getD .none) c' ctv)) (q := X.env.qual ++ "<lambda>") I hP
      (fun b o n e => Heap.get?_push_of_some _ (old b o n e)) (Heap.get?_push_of_some _ tab) lo ⟨oc, vs, tq, Heap.get?_push_of_some _ hoc, hvs, hq⟩
    refine h _ _ ⟨c', t, doc, _, ctv, _, I2, ext, tabs, Heap.get?_push_size _ rfl, ?_, new_off I big, upd_same, ext _ _ ht fun _ z => nomatch z⟩
    rw [upd_ne (Nat.ne_of_gt hi), upd_ne fun e => by rw [← e, I.hok.fresh big] at hP; exact nomatch hP]
    exact I.hok.fresh big
/-- the lambda is made -/
theorem lam_makeD {T : List (Addr × Str)} {c P : Addr} {params : Arguments} {body ed : Expr} {pos : Pos} {z : Int} {Q : Value → Shared → Prop} (I : Inv X pins σ H s) (TB : TabB X.base X.mg c P) (hcode : X.env.code = .ref c)
    (hm : (P, X.env.qual ++ "<lambda>") ∈ T) (hu : ∀ p ∈ T, p.1 = P → p.2 = X.env.qual ++ "<lambda>") (hT : Tabs T H) (L : LamSD X.N X.env.scope scope) (hd : params.defaults = [ed]) (hk : params.kw_defaults = []) (pd : PE X ed fun _ H Q => Q (.int z) H)
    (h : ∀ f s', MadeD X pins σ T H params body scope z f s' → Q (.ref f) s') :
    wpAny (model X.prog X.w) X.A (eval (.Lambda params body scope pos) X.env) Q X.xe s := by
  refine PySem.W.kdv_lam (by rw [hd]; rfl) hk ?_
  rw [hd]
  refine PySem.W.kdv_all1 (thn (pd.run pins s σ H (fun v G => v = .int z ∧ G = H) I ⟨rfl, rfl⟩) fun u s1 ⟨v, G, I1, ru, ev, eG⟩ => PySem.W.kdv_all0 ?_)
  subst ev
  subst eG
  obtain ⟨tk, rfl⟩ := ru
  have I2 : Inv X pins σ (upd G s1.heap.objs.size (.tup [.int z])) { s1 with heap := s1.heap.push (PySem.W.kdv_tup [.int z tk]) } :=
    I1.laid (t' := s1.toks) (fun b o e => Heap.get?_push_of_some _ e) (Nat.le_refl _) (show ObjOk X.prog X.w _ _ _ (.tup [.int z]) from ⟨(show 1 ≤ sizeLine by decide), [.int z tk], .cons ⟨tk, rfl⟩ .nil, _, Heap.get?_push_size _ rfl, rfl, 0, rfl⟩)
  have new : G s1.heap.objs.size = none := I1.hok.fresh (Nat.le_refl _)
  have grow : ∀ b o, G b = some o → upd G s1.heap.objs.size (.tup [.int z]) b = some o := fun b o e => by rw [upd_ne (ne_of_none e new)]; exact e
  rw [makeFunction_eq]
  simp only [List.zip_nil_right, List.filterMap_nil, List.isEmpty_nil, List.isEmpty_cons, if_true, pure_bind, Bool.false_eq_true, if_false]
  refine wpAny_bind (wpAny_newTextTuple (make_tail I2 TB hcode hm hu (hT.ext grow) L upd_same fun f s' M => h f s' ?_))
  obtain ⟨c', t, doc, pm, ctv, H1, i, e, r⟩ := M.ex
  exact ⟨c', t, doc, pm, ctv, H1, i, (ExtN.of grow).trans e, r⟩
/-- what the made lambda is worth when it is asked -/
theorem acts_lamD {f c' t : Addr} {doc pm ctv : Value} {params : Arguments} {body : Expr} {a : Str} {z : Int} {k : Nat} {tl : XK → TE} (I : Inv X pins σ H s) (L : LamSD X.N X.env.scope scope) (hf : s.heap.get? f = some (lamD X params body scope t doc pm c' ctv)) (hfn : H f = none) (hfr : f ∉ frs X.stack)
    (ht : H t = some (.tup [.int z])) (ha : scope.names.lookup a = some .local)
    (hb : ∃ k, bindArgs (PySem.W.kdv_fn "<lambda>" (X.env.qual ++ "<lambda>") params (.expr body) scope (cloFrom X.env.cells scope.names []) (.ref t) doc pm (.ref c') ctv) ⟨[], []⟩ = (seqItems? (.ref t) >>= k) ∧ ∀ v, k (some #[v]) = pure [(a, v)])
    (hbody : ∀ (A : Around) (outer : List Env) (s : Shared) (H : Hp) (E : XK), Room k (A.deeper (lamEnv X scope s.heap.objs.size f c')) → PE (lamCx X A outer s H E scope f c') body (tl E)) :
    Acts X.prog X.w X.K X.mg X.base (frs X.stack) s H f c' (X.env.qual ++ "<lambda>") (k + 1) (fun E G Q => tl E σ G Q) where
  no := hfn
  nf := hfr
  fn := ⟨_, _, _, _, hf⟩
  run := fun A outer s1 G Q E hr e0 un hc hq => by
    obtain ⟨⟨oc, vs, tq, hoc, hvs, hname⟩, _, _⟩ := e0.hok c' _ hc
    obtain ⟨_, its, rv, ot, hot, _, n, hits⟩ := e0.hok t _ (un.tups t _ ht)
    obtain ⟨v, rfl, rv⟩ := rv.one
    obtain ⟨kb, hb1, hb2⟩ := hb
    have lim : s1.heap.NoLimit := e0.mod.nolimit.keeps fun b o e => (e0.bs b o e).1
    refine PySem.W.kla_callFunE hr.depth (un.keep f _ hf hfn hfr fun z => nomatch z) rfl L.sync L.plain rfl ⟨c', oc, vs, tq, rfl, hoc, hvs, hname⟩ ?_
    refine BindsTo.of_defaults (T := t) (items := #[v]) (n := n) rfl hot hits hb1 (hb2 v) _ _ _ _ ?_
    refine wpAny_newFunctionEnv L.nocell (fun y hy => by rw [List.mem_singleton.mp hy]; exact ha) (fun g hns hsb => ⟨lim.fresh _ hsb, ?_⟩) L.fn
    have kp : ∀ b o, s1.heap.get? b = some o → g.get? b = some o := fun b o e => hsb.extBut b o (Nat.ne_of_lt (Heap.lt_size e)) (Heap.get?_push_of_some _ e)
    have J : Inv (lamCx X A outer s1 G E scope f c') [] σ G { s1 with heap := g, toks := s1.toks + 1 } := inv_own I L e0 hr.hd un hns kp
    refine PySem.W.kla_codeExpr (wpAny_mono ((hbody A outer s1 G E (hr.deeper _)).run [] _ _ G Q J hq) (fun u s2 r => ?_) fun _ _ r => r)
    obtain ⟨u', G2, J2, r1, r2⟩ := r
    exact ⟨u', G2, J2.os, J2.bare, J2.base, J2.hok, r1, r2⟩
end
/-- y(lambda a=z: body), y a def that asks -/
theorem pe_asklamDd {X : Cx} {T : List (Addr × Str)} {TT : TAsk} {x y : Str} {c P : Addr} {k j i : Nat} {params : Arguments} {body ed : Expr} {scope : Scope} {z : Int} {t : XK → TE} {p lpos pos : Pos} (D : Cc.AskD X.prog X.w X.K X.mg X.base k y TT) (hg : Gl X y)
    (TB : TabB X.base X.mg c P) (hcode : X.env.code = .ref c) (hmT : (P, X.env.qual ++ "<lambda>") ∈ T) (hu : ∀ p ∈ T, p.1 = P → p.2 = X.env.qual ++ "<lambda>") (hr : Room i X.A) (hi : j + 1 + k ≤ i) (L : LamSD X.N X.env.scope scope)
    (hd : params.defaults = [ed]) (hk : params.kw_defaults = []) (pd : PE X ed fun _ H Q => Q (.int z) H)
    (hb : ∀ (q : Str) (cl : List (Str × Addr)) (t : Addr) (doc pm cv ctv : Value), ∃ k, bindArgs (PySem.W.kdv_fn "<lambda>" q params (.expr body) scope cl (.ref t) doc pm cv ctv) ⟨[], []⟩ = (seqItems? (.ref t) >>= k) ∧ ∀ v, k (some #[v]) = pure [(x, v)])
    (hx : scope.names.lookup x = some .local)
    (hbody : ∀ (A : Around) (outer : List Env) (s : Shared) (H : Hp) (E : XK) (f c' : Addr), Room j (A.deeper (lamEnv X scope s.heap.objs.size f c')) → PE (lamCx X A outer s H E scope f c') body (t E)) (hdb : (y == ("__debug__" : Str)) = false := by decide) :
    PE X (.Call (.Name y p) [.Lambda params body scope lpos] [] pos) (tLam T TT t) := by
  obtain ⟨g, G, hm, kept⟩ := D
  refine ⟨fun pins s0 σ H Q I ⟨hT, h⟩ => wpAny_Call_Name_kw (ld_glob I hg hm (PySem.W.callWith_K (h₀ := X.base) I.ok.mod.kin kept ?_ (by rfl) (by rfl)) hdb)⟩
  show wpAny _ _ (spliced ((false, eval (.Lambda params body scope lpos) X.env) :: backTo pos (starEach [] X.env))) _ _ s0
  refine Calls.spliced_cons (lam_makeD I TB hcode hmT hu hT L hd hk pd fun f s1 M => Calls.spliced_nil ?_)
  obtain ⟨c', t', doc, pm, ctv, H1, I1, e1, T1, hf, hfn, hfr, hc, ht⟩ := M.ex
  refine ⟨I1.kIn, wpAny_call (codeAny_mono (G (j + 1) X.A X.stack s1 H1 f c' _ _ Q (hr.mono hi) I1.env0 (acts_lamD I1 L hf hfn hfr ht hx (hb _ _ _ _ _ _ _) fun A outer s H E r => hbody A outer s H E f c' r) hc (h H1 e1 T1)) fun r s2 hq => ?_)⟩
  match r, hq with
  | .ok (.ret _), hq => exact I1.after hq
  | .ok .next, hq => exact hq.elim
  | .ok .brk, hq => exact hq.elim
  | .ok .cont, hq => exact hq.elim
  | .error _, hq => exact (show False from hq).elim
end LamX
namespace Cc
open PySem PySem.Spec PyProof.Rows L2
/-! ### how weights sway -/
theorem cross_le {A B A' B' D1 D2 : Int} (hA : 0 ≤ A) (hB : 0 ≤ B) (hA' : 0 ≤ A') (hB' : 0 ≤ B') (h1 : A - B ≤ D1) (h2 : B - A ≤ D1) (h3 : A' - B' ≤ D2) (h4 : B' - A' ≤ D2) : A * (B + B') - B * (A + A') ≤ (D1 + D2) * (B + B') ∧ A * (B + B') - B * (A + A') ≤ (D1 + D2) * (A + A') := by
  have p1 := Int.mul_le_mul_of_nonneg_right h1 hB'
  have p2 := Int.mul_le_mul_of_nonneg_left h4 hB
  have p3 := Int.mul_le_mul_of_nonneg_left h4 hA
  have p4 := Int.mul_le_mul_of_nonneg_right h1 hA'
  have d1 : 0 ≤ D1 := by omega
  have d2 : 0 ≤ D2 := by omega
  have q1 := Int.mul_nonneg d1 hB
  have q2 := Int.mul_nonneg d2 hB'
  have q3 := Int.mul_nonneg d1 hA
  have q4 := Int.mul_nonneg d2 hA'
  constructor <;> grind
def dif : List Int → List Int → Int
  | x :: xs, y :: ys => ((x - y).natAbs : Int) + dif xs ys
  | _, _ => 0
theorem dif_cut : ∀ (ws os : List Int) (k : Nat), ws.length = os.length → (((ws.take k).sum - (os.take k).sum).natAbs : Int) + (((ws.drop k).sum - (os.drop k).sum).natAbs : Int) ≤ dif ws os
  | [], [], k, _ => by simp [dif]
  | x :: xs, y :: ys, 0, h => by
    have ih := dif_cut xs ys 0 (by simpa using h)
    simp only [List.take_zero, List.drop_zero, List.sum_nil, List.sum_cons, dif] at ih ⊢
    omega
  | x :: xs, y :: ys, k + 1, h => by
    have ih := dif_cut xs ys k (by simpa using h)
    simp only [List.take_succ_cons, List.drop_succ_cons, List.sum_cons, dif] at ih ⊢
    omega
  | [], _ :: _, _, h => by simp at h
  | _ :: _, [], _, h => by simp at h
theorem dv_le {a c x y : Int} (hc : 0 < c) (hy : 0 < y) (h : a * y ≤ x * c) : Rat.divInt a c ≤ Rat.divInt x y := by
  have e := Rat.divInt_sub_divInt x a (d₁ := y) (d₂ := c) (by omega) (by omega)
  have p : 0 ≤ Rat.divInt (x * c - a * y) (y * c) := Rat.divInt_nonneg (by omega) (Int.le_of_lt (Int.mul_pos hy hc))
  rw [← e] at p
  grind
def gap (q : Rat) : Rat := if q < 0 then -q else q
theorem gap_le {q M : Rat} (h1 : q ≤ M) (h2 : -q ≤ M) : ¬ M < gap q := by
  unfold gap
  split <;> grind
/-- shares ahead of a place differ by the sway at most -/
theorem share_le {ws os : List Int} {M : Int} (hl : ws.length = os.length) (hw : ∀ x ∈ ws, 1 ≤ x) (ho : ∀ x ∈ os, 1 ≤ x) (h0 : 0 < ws.sum) (h1 : 0 < os.sum) (hM : M = ws.sum ∨ M = os.sum) (k : Nat) : Rat.divInt (ws.take k).sum ws.sum - Rat.divInt (os.take k).sum os.sum ≤ Rat.divInt (dif ws os) M := by
  have nn : ∀ {xs : List Int}, (∀ x ∈ xs, 1 ≤ x) → 0 ≤ xs.sum := by
    intro xs
    induction xs with
    | nil => intro _; simp
    | cons y r ih =>
      intro h
      have := ih fun x hx => h x (List.mem_cons_of_mem _ hx)
      have := h y List.mem_cons_self
      rw [List.sum_cons]
      omega
  have hc := dif_cut ws os k hl
  have e1 : ws.sum = (ws.take k).sum + (ws.drop k).sum := by rw [← List.sum_append, List.take_append_drop]
  have e2 : os.sum = (os.take k).sum + (os.drop k).sum := by rw [← List.sum_append, List.take_append_drop]
  have a1 : 0 ≤ (ws.take k).sum := nn fun x hx => hw x (List.mem_of_mem_take hx)
  have a2 : 0 ≤ (ws.drop k).sum := nn fun x hx => hw x (List.mem_of_mem_drop hx)
  have b1 : 0 ≤ (os.take k).sum := nn fun x hx => ho x (List.mem_of_mem_take hx)
  have b2 : 0 ≤ (os.drop k).sum := nn fun x hx => ho x (List.mem_of_mem_drop hx)
  generalize (ws.take k).sum = A at *
  generalize (ws.drop k).sum = A' at *
  generalize (os.take k).sum = B at *
  generalize (os.drop k).sum = B' at *
  generalize dif ws os = D at *
  have key := cross_le (D1 := (A - B).natAbs) (D2 := (A' - B').natAbs) a1 b1 a2 b2 (by omega) (by omega) (by omega) (by omega)
  rw [← e1, ← e2] at key
  have l1 := Int.mul_le_mul_of_nonneg_right hc (Int.le_of_lt h0)
  have l2 := Int.mul_le_mul_of_nonneg_right hc (Int.le_of_lt h1)
  rw [Rat.divInt_sub_divInt _ _ (by omega) (by omega)]
  have hMp : 0 < M := by rcases hM with e | e <;> omega
  refine dv_le (Int.mul_pos h0 h1) hMp ?_
  rcases hM with e | e <;> rw [e]
  · have := Int.mul_le_mul_of_nonneg_right (Int.le_trans key.1 l2) (Int.le_of_lt h0)
    grind
  · have := Int.mul_le_mul_of_nonneg_right (Int.le_trans key.2 l1) (Int.le_of_lt h1)
    grind
theorem dif_comm : ∀ (ws os : List Int), dif ws os = dif os ws
  | x :: xs, y :: ys => by
    rw [dif, dif, dif_comm xs ys]
    omega
  | [], [] => rfl
  | [], _ :: _ => rfl
  | _ :: _, [] => rfl

def difL (ws os : List Int) : List Int := List.zipWith (fun x y => if x - y < 0 then -(x - y) else x - y) ws os
theorem difL_sum : ∀ ws os : List Int, (difL ws os).sum = dif ws os
  | x :: xs, y :: ys => by
    have ih := difL_sum xs ys
    unfold difL at ih ⊢
    rw [List.zipWith_cons_cons, List.sum_cons, ih, dif]
    split <;> omega
  | [], [] => rfl
  | [], _ :: _ => rfl
  | _ :: _, [] => rfl
def mx (a b : Int) : Int := if b > a then b else a
/-- the sway of weights that turn into as many others -/
def swayM (ws os : List Int) : Rat := Rat.divInt (dif ws os) (mx ws.sum os.sum)
theorem mx_or (a b : Int) : mx a b = a ∨ mx a b = b := by
  unfold mx
  split
  · exact .inr rfl
  · exact .inl rfl
theorem share_sway {ws os : List Int} (hl : ws.length = os.length) (hw : WOk ws) (ho : WOk os) (k : Nat) : pre ws k - pre os k ≤ swayM ws os ∧ pre os k - pre ws k ≤ swayM ws os := by
  have w1 : ∀ x ∈ ws, 1 ≤ x := fun x hx => (hw.w x hx).1
  have o1 : ∀ x ∈ os, 1 ≤ x := fun x hx => (ho.w x hx).1
  refine ⟨share_le hl w1 o1 hw.sum.1 ho.sum.1 (mx_or _ _) k, ?_⟩
  have := share_le (M := mx ws.sum os.sum) hl.symm o1 w1 ho.sum.1 hw.sum.1 (Or.symm (mx_or _ _)) k
  rw [dif_comm] at this
  exact this
theorem dif_nn : ∀ ws os : List Int, 0 ≤ dif ws os
  | x :: xs, y :: ys => by
    have := dif_nn xs ys
    rw [dif]
    omega
  | [], _ => by simp [dif]
  | _ :: _, [] => by simp [dif]
theorem dif_max : ∀ (ws os : List Int), (∀ x ∈ ws, 1 ≤ x ∧ x ≤ 400000) → (∀ x ∈ os, 1 ≤ x ∧ x ≤ 400000) → dif ws os ≤ 400000 * ws.length
  | x :: xs, y :: ys, h1, h2 => by
    have := dif_max xs ys (fun z hz => h1 z (List.mem_cons_of_mem _ hz)) (fun z hz => h2 z (List.mem_cons_of_mem _ hz))
    have := h1 x List.mem_cons_self
    have := h2 y List.mem_cons_self
    rw [dif, List.length_cons]
    omega
  | [], _, _, _ => by simp [dif]
  | _ :: _, [], _, _ => by simp [dif]; omega
theorem sz_sway {ws os : List Int} (hw : WOk ws) (ho : WOk os) : Sz 23 (swayM ws os) := by
  have h1 := dif_nn ws os
  have h2 := dif_max ws os hw.w ho.w
  have h3 := hw.l1
  refine sz_share (by omega) ?_
  rcases mx_or ws.sum os.sum with e | e <;> rw [e]
  · exact hw.sum
  · exact ho.sum
theorem gap_pt {K : PySem.W.Frag} {H : Hp} {p : Addr} {q : Rat} : PtV K (upd H p (.tup [.int (if q.num < 0 then -q.num else q.num), .int q.den])) (.ref p) (gap q) := by
  have e : q < 0 ↔ q.num < 0 := by
    have h : 0 ≤ q ↔ 0 ≤ q.num := Iff.symm Rat.num_nonneg
    constructor
    · intro z
      exact Int.not_le.mp fun w => absurd (h.mpr w) (Rat.not_le.mpr z)
    · intro z
      exact Rat.not_le.mp fun w => absurd (h.mp w) (Int.not_le.mpr z)
  refine PtV.new ?_ ?_
  · unfold gap
    by_cases c : q < 0
    · rw [if_pos c, if_pos (e.mp c), Rat.neg_num]
    · rw [if_neg c, if_neg (fun z => c (e.mpr z))]
  · unfold gap
    split
    · rw [Rat.neg_den]
    · rfl
@[irreducible] def spSway (K : PySem.W.Frag) : Sp := fun vs H Q _ => ∃ (a b : Addr) (ws os : List Int), vs = [.ref a, .ref b] ∧ SqL K H a (ws.map V.int) ∧ SqL K H b (os.map V.int) ∧ WOk ws ∧ WOk os ∧ ws.length = os.length ∧ ∀ u H', Same H H' → PtV K H' u (swayM ws os) → Q u H'
@[irreducible] def spGap (K : PySem.W.Frag) : Sp := fun vs H Q _ => ∃ (v w : V) (x y : Rat), vs = [v, w] ∧ PtV K H v x ∧ PtV K H w y ∧ Sz 1900 x ∧ Sz 1900 y ∧ ∀ u H', Same H H' → PtV K H' u (gap (x - y)) → Q u H'
section
variable {K : PySem.W.Frag} {H : Hp} {Q : VK} {E : XK} {vs : List V}
theorem sway_step {a b : Addr} {ws os : List Int} (ha : SqL K H a (ws.map V.int)) (hb : SqL K H b (os.map V.int)) (hw : WOk ws) (ho : WOk os) (hl : ws.length = os.length) (q : ∀ u H', Same H H' → PtV K H' u (swayM ws os) → Q u H') (hvs : vs = [.ref a, .ref b] := by rfl) : spSway K vs H Q E := by
  unfold spSway
  exact ⟨a, b, ws, os, hvs, ha, hb, hw, ho, hl, q⟩
theorem gap_step {v w : V} {x y : Rat} {m n : Nat} (hv : PtV K H v x) (hw : PtV K H w y) (zx : Sz m x) (zy : Sz n y) (hm : m ≤ 1900) (hn : n ≤ 1900) (q : ∀ u H', Same H H' → PtV K H' u (gap (x - y)) → Q u H') (hvs : vs = [v, w] := by rfl) : spGap K vs H Q E := by
  unfold spGap
  exact ⟨v, w, x, y, hvs, hv, hw, zx.mono hm, zy.mono hn, q⟩
end
end Cc
namespace Cc
open PySem PySem.Spec PyProof.Rows L2
theorem edge_le {z L x y M : Rat} (hL : 0 ≤ L) (h1 : x - y ≤ M) (h2 : y - x ≤ M) : ¬ L * M < gap ((z + L * x) - (z + L * y)) := by
  have a1 := Rat.mul_le_mul_of_nonneg_left h1 hL
  have a2 := Rat.mul_le_mul_of_nonneg_left h2 hL
  exact gap_le (by grind) (by grind)
/-- a box's ends -/
def endsE (c : Bx) : List Rat := [c.l, c.l + c.w, c.t, c.t + c.h]
def crossN (d : Bool) : List Nat := if d then [2, 3] else [0, 1]
section
variable {b : Bx} {ws os ss : List Int} {d : Bool} {n j k : Nat}
theorem pre_sums (hS : SOk ss ws.length) {j : Nat} (hj : j ≤ ss.length) : pre (sumsM ws ss) j = pre ws (off ss j) := by
  unfold pre
  rw [sums_take hS j hj, sums_sum hS]
theorem cross_at (hS : SOk ss ws.length) (hj : j < ss.length) : ∀ m ∈ crossN d, ∃ e, e ≤ ss.length ∧ (e = j + (m % 2)) ∧ (endsE (cutAt (cutAt b (sumsM ws ss) d j) (rowAt ws ss j) (!d) k)).getD m 0 = (if d then b.t else b.l) + (if d then b.h else b.w) * pre ws (off ss e) := by
  have hs := sums_len (ws := ws) (ss := ss)
  have p0 := pre_sums hS (j := j) (by omega)
  have p1 := pre_sums hS (j := j + 1) (by omega)
  rw [pre_succ (by omega), p0] at p1
  intro m hm
  cases d
  · simp only [crossN, Bool.false_eq_true, if_false, List.mem_cons, List.not_mem_nil, or_false] at hm
    rcases hm with rfl | rfl
    · refine ⟨j, by omega, rfl, ?_⟩
      simp only [endsE, cutAt_eq, slab, p0, Bool.not_false, if_true, Bool.false_eq_true, if_false, List.getD_cons_zero]
    · refine ⟨j + 1, by omega, rfl, ?_⟩
      simp only [endsE, cutAt_eq, slab, p0, ← p1, Bool.not_false, if_true, Bool.false_eq_true, if_false, List.getD_cons_zero, List.getD_cons_succ]
      grind
  · simp only [crossN, if_true, List.mem_cons, List.not_mem_nil, or_false] at hm
    rcases hm with rfl | rfl
    · refine ⟨j, by omega, rfl, ?_⟩
      simp only [endsE, cutAt_eq, slab, p0, Bool.not_true, if_true, Bool.false_eq_true, if_false, List.getD_cons_zero, List.getD_cons_succ]
    · refine ⟨j + 1, by omega, rfl, ?_⟩
      simp only [endsE, cutAt_eq, slab, p0, ← p1, Bool.not_true, if_true, Bool.false_eq_true, if_false, List.getD_cons_zero, List.getD_cons_succ]
      grind
theorem along_at (hk : k < (rowAt ws ss j).length) : ∀ m ∈ crossN (!d), (endsE (cutAt (cutAt b (sumsM ws ss) d j) (rowAt ws ss j) (!d) k)).getD m 0 = (if d then b.l else b.t) + (if d then b.w else b.h) * pre (rowAt ws ss j) (k + m % 2) := by
  have p1 := pre_succ hk
  intro m hm
  cases d
  · simp only [crossN, Bool.not_false, if_true, List.mem_cons, List.not_mem_nil, or_false] at hm
    rcases hm with rfl | rfl
    · simp [endsE, cutAt_eq, slab]
    · simp only [endsE, cutAt_eq, slab, Bool.not_false, if_true, Bool.false_eq_true, if_false, List.getD_cons_zero, List.getD_cons_succ]
      rw [show k + 3 % 2 = k + 1 from rfl, p1]
      grind
  · simp only [crossN, Bool.not_true, Bool.false_eq_true, if_false, List.mem_cons, List.not_mem_nil, or_false] at hm
    rcases hm with rfl | rfl
    · simp [endsE, cutAt_eq, slab]
    · simp only [endsE, cutAt_eq, slab, Bool.not_true, if_true, Bool.false_eq_true, if_false, List.getD_cons_zero, List.getD_cons_succ]
      rw [show k + 1 % 2 = k + 1 from rfl, p1]
      grind
theorem cross_sway (hb : b.Ok n) (hw : WOk ws) (ho : WOk os) (hl : ws.length = os.length) (hS : SOk ss ws.length) (hj : j < ss.length) : ∀ m ∈ crossN d, ¬ (if d then b.h else b.w) * swayM ws os < gap ((endsE (cutAt (cutAt b (sumsM ws ss) d j) (rowAt ws ss j) (!d) k)).getD m 0 - (endsE (cutAt (cutAt b (sumsM os ss) d j) (rowAt os ss j) (!d) k)).getD m 0) := by
  intro m hm
  obtain ⟨e, h1, h2, h3⟩ := cross_at (b := b) (k := k) hS hj m hm
  obtain ⟨e', h1', h2', h3'⟩ := cross_at (b := b) (k := k) (ws := os) (by rw [← hl]; exact hS) hj m hm
  obtain rfl : e = e' := by omega
  rw [h3, h3']
  have hs := share_sway hl hw ho (off ss e)
  exact edge_le (by cases d <;> first | exact Rat.le_of_lt hb.h0 | exact Rat.le_of_lt hb.w0) hs.1 hs.2
theorem along_sway (hb : b.Ok n) (hw : WOk ws) (ho : WOk os) (hl : ws.length = os.length) (hS : SOk ss ws.length) (hj : j < ss.length) (hk : k < (rowAt ws ss j).length) : ∀ m ∈ crossN (!d), ¬ (if d then b.w else b.h) * swayM (rowAt ws ss j) (rowAt os ss j) < gap ((endsE (cutAt (cutAt b (sumsM ws ss) d j) (rowAt ws ss j) (!d) k)).getD m 0 - (endsE (cutAt (cutAt b (sumsM os ss) d j) (rowAt os ss j) (!d) k)).getD m 0) := by
  intro m hm
  have hS' : SOk ss os.length := by rw [← hl]; exact hS
  have hk' : k < (rowAt os ss j).length := by
    rw [row_len hS' hj]
    rw [row_len hS hj] at hk
    exact hk
  rw [along_at hk m hm, along_at hk' m hm]
  have hs := share_sway (by rw [row_len hS hj, row_len hS' hj]) (row_ok hw hS hj) (row_ok ho hS' hj) (k + m % 2)
  exact edge_le (by cases d <;> first | exact Rat.le_of_lt hb.h0 | exact Rat.le_of_lt hb.w0) hs.1 hs.2
end
end Cc
set_option maxHeartbeats 4000000
/-! XBad: weights of any kind, judged. -/
namespace Cc
open PySem PySem.Spec PyProof.Rows L2
def isW : PyData → Bool
  | .int i => decide (1 ≤ i ∧ i ≤ 400000)
  | _ => false
/-- the things of a list or tuple -/
def itemsD : PyData → Option (List PyData)
  | .list ds => some ds
  | .tuple ds => some ds
  | _ => none
def wD (d : PyData) : Bool := match itemsD d with
  | some ds => decide (1 ≤ ds.length ∧ ds.length ≤ 12) && ds.all isW
  | none => false
def cntD (d : PyData) : Nat := match itemsD d with
  | some ds => ds.length
  | none => 0
@[irreducible] def spCheckWX (K : PySem.W.Frag) (mg : Str → Option Value) : Sp := fun vs H Q E => ∃ (v : V) (d : PyData), vs = [v] ∧ Dp K H v d ∧ (wD d = true → ∀ r H', Same H H' → r = .non → Q r H') ∧ (wD d = false → Thr K mg "BadWeight" H E)
@[irreducible] def spSwayX (K : PySem.W.Frag) (mg : Str → Option Value) : Sp := fun vs H Q E => ∃ (v w : V) (d e : PyData), vs = [v, w] ∧ Dp K H v d ∧ Dp K H w e ∧ (wD d = false ∨ wD e = false ∨ cntD d ≠ cntD e) ∧ Thr K mg "BadWeight" H E
@[irreducible] def spSwayM (K : PySem.W.Frag) : Sp := fun vs H Q _ => ∃ (a b : Addr) (ws os : List Int), vs = [.ref a, .ref b] ∧ ((SqL K H a (ws.map V.int) ∧ SqT K H b (os.map V.int)) ∨ (SqT K H a (ws.map V.int) ∧ SqL K H b (os.map V.int)) ∨ (SqL K H a (ws.map V.int) ∧ SqL K H b (os.map V.int))) ∧ WOk ws ∧ WOk os ∧ ws.length = os.length ∧ ∀ u H', Same H H' → PtV K H' u (swayM ws os) → Q u H'
section
variable {K : PySem.W.Frag} {mg : Str → Option Value} {H : Hp} {Q : VK} {E : XK} {vs : List V} {v w : V} {d e : PyData}
theorem checkwx_step (hv : Dp K H v d) (q : wD d = true → ∀ H', Same H H' → Q .non H') (hE : wD d = false → Thr K mg "BadWeight" H E) (hvs : vs = [v] := by rfl) : spCheckWX K mg vs H Q E := by
  unfold spCheckWX
  exact ⟨v, d, hvs, hv, fun h r H' s z => by rw [z]; exact q h H' s, hE⟩
theorem swayx_step (hv : Dp K H v d) (hw : Dp K H w e) (hb : wD d = false ∨ wD e = false ∨ cntD d ≠ cntD e) (hE : Thr K mg "BadWeight" H E) (hvs : vs = [v, w] := by rfl) : spSwayX K mg vs H Q E := by
  unfold spSwayX
  exact ⟨v, w, d, e, hvs, hv, hw, hb, hE⟩



theorem swaym_step {a b : Addr} {ws os : List Int} (hab : (SqL K H a (ws.map V.int) ∧ SqT K H b (os.map V.int)) ∨ (SqT K H a (ws.map V.int) ∧ SqL K H b (os.map V.int)) ∨ (SqL K H a (ws.map V.int) ∧ SqL K H b (os.map V.int))) (hw : WOk ws) (ho : WOk os) (hl : ws.length = os.length) (q : ∀ u H', Same H H' → PtV K H' u (swayM ws os) → Q u H') (hvs : vs = [.ref a, .ref b] := by rfl) : spSwayM K vs H Q E := by
  unfold spSwayM
  exact ⟨a, b, ws, os, hvs, hab, hw, ho, hl, q⟩
theorem dp_items {ds : List PyData} (h : Dp K H v d) (hi : itemsD d = some ds) : ∃ (a : Addr) (us : List V), v = .ref a ∧ (SqL K H a us ∨ SqT K H a us) ∧ us.length = ds.length ∧ DpAll K H us ds := by
  cases h with
  | lst h k => cases hi; exact ⟨_, _, rfl, .inl h, dpAll_len k, k⟩
  | tup h k => cases hi; exact ⟨_, _, rfl, .inr h, dpAll_len k, k⟩
  | non => cases hi
  | bl _ => cases hi
  | int _ => cases hi
  | str _ => cases hi
/-- isinstance(x, (list, tuple)), of whatever datum -/
theorem isiLT_step {tp : Addr} {Q : VK} {vs : List V} (hv : Dp K H v d) (hT : H tp = some (.tup [.ty "list", .ty "tuple"])) (q : Q (.bl (itemsD d).isSome) H) (hvs : vs = [v, .ref tp] := by rfl) : rIsiTI K vs H Q := by
  cases d with
  | list _ => exact isiT_step (t := "list") (b := true) (c := false) hv rfl hT (by decide +kernel) (by decide +kernel) q hvs
  | tuple _ => exact isiT_step (t := "tuple") (b := false) (c := true) hv rfl hT (by decide +kernel) (by decide +kernel) q hvs
  | none => exact isiT_step (t := "NoneType") (b := false) (c := false) hv rfl hT (by decide +kernel) (by decide +kernel) q hvs
  | bool _ => exact isiT_step (t := "bool") (b := false) (c := false) hv rfl hT (by decide +kernel) (by decide +kernel) q hvs
  | int _ => exact isiT_step (t := "int") (b := false) (c := false) hv rfl hT (by decide +kernel) (by decide +kernel) q hvs
  | str _ => exact isiT_step (t := "str") (b := false) (c := false) hv rfl hT (by decide +kernel) (by decide +kernel) q hvs
  | dict _ => exact absurd rfl (dp_nodict hv)
theorem wD_items {ds : List PyData} (hi : itemsD d = some ds) : wD d = (decide (1 ≤ ds.length ∧ ds.length ≤ 12) && ds.all isW) := by
  unfold wD
  rw [hi]
theorem wD_no (hi : itemsD d = none) : wD d = false := by
  unfold wD
  rw [hi]
theorem swayM_comm (ws os : List Int) : swayM ws os = swayM os ws := by
  unfold swayM
  rw [dif_comm, show mx ws.sum os.sum = mx os.sum ws.sum by unfold mx; split <;> split <;> omega]
theorem isW_num (h : isNumD d = false) : isW d = false := by
  cases d <;> first | rfl | exact Bool.noConfusion h
theorem wD_ints {ws : List Int} : wD (.list (ws.map .int)) = (decide (1 ≤ ws.length ∧ ws.length ≤ 12) && ws.all fun i => decide (1 ≤ i ∧ i ≤ 400000)) := by
  show (decide (1 ≤ (ws.map PyData.int).length ∧ (ws.map PyData.int).length ≤ 12) && (ws.map PyData.int).all isW) = _
  rw [List.length_map, List.all_map]
  rfl
end
/-! ### things that are no weights for so many others -/
theorem depth_ints : ∀ ns : List Int, PyData.depthAll (ns.map PyData.int) ≤ 1
  | [] => Nat.zero_le _
  | x :: r => Nat.max_le.mpr ⟨(show (PyData.int x).depth ≤ 1 by simp [PyData.depth]), depth_ints r⟩
theorem lay_ints : ∀ ns : List Int, PyData.canLayAll0 (ns.map PyData.int) = true
  | [] => rfl
  | _ :: r => lay_ints r
def BadFor (K : PySem.W.Frag) (H : Hp) (v : V) (n : Nat) : Prop := ∃ d, Dp K H v d ∧ SeqAt.shaped d = true ∧ (wD d = false ∨ cntD d ≠ n)
section
variable {K : PySem.W.Frag} {H H' : Hp} {v : V} {n : Nat}
theorem BadFor.same (h : BadFor K H v n) (e : Same H H') : BadFor K H' v n := h.imp fun _ z => ⟨Dp.mono e _ _ z.1, z.2⟩
theorem BadFor.non : BadFor K H .non n := ⟨.none, .non, by decide +kernel, .inl rfl⟩
theorem BadFor.ints {a : Addr} {ns : List Int} (h : H a = some (.lst (ns.map V.int))) (b : wD (.list (ns.map .int)) = false ∨ ns.length ≠ n) : BadFor K H (.ref a) n :=
  ⟨_, .lst (SqL.of h) (dp_ints K _ ns), PySem.W.ke_shaped_ints ns, b.imp id fun z => by show (ns.map PyData.int).length ≠ n; rw [List.length_map]; exact z⟩
end
end Cc
set_option maxHeartbeats 4000000
/-! XBent: tuples bent, how deep and how long they may be. -/
namespace Cc
open PySem PySem.Spec PyProof.Rows L2
/-- no tuple, and it may be laid -/
def plainD : PyData → Bool
  | .none => true
  | .bool _ => true
  | .int _ => true
  | .str x => (PyData.str x).canLay0
  | _ => false
/-- tuples of N at most, k deep at most -/
def goodD (N : Nat) : Nat → PyData → Prop
  | 0, d => plainD d = true
  | k + 1, .tuple ds => ds.length ≤ N ∧ ∀ d ∈ ds, goodD N k d
  | _ + 1, d => plainD d = true
theorem good_plain {N : Nat} {d : PyData} (h : plainD d = true) : ∀ k, goodD N k d
  | 0 => h
  | k + 1 => by
    cases d with
    | tuple ds => exact Bool.noConfusion h
    | none => exact h
    | bool _ => exact h
    | int _ => exact h
    | str _ => exact h
    | list _ => exact Bool.noConfusion h
    | dict _ => exact Bool.noConfusion h
theorem good_cases {N k : Nat} {d : PyData} (h : goodD N k d) : plainD d = true ∨ ∃ k' ds, k = k' + 1 ∧ d = .tuple ds ∧ ds.length ≤ N ∧ ∀ d ∈ ds, goodD N k' d := by
  cases k with
  | zero => exact .inl h
  | succ k =>
    cases d with
    | tuple ds => exact .inr ⟨k, ds, rfl, rfl, h⟩
    | none => exact .inl h
    | bool _ => exact .inl h
    | int _ => exact .inl h
    | str _ => exact .inl h
    | list _ => exact .inl h
    | dict _ => exact .inl h
theorem good_mono {N M : Nat} (hN : N ≤ M) : ∀ {k j : Nat} {d : PyData}, k ≤ j → goodD N k d → goodD M j d
  | k, j, d, hk, h => by
    rcases good_cases h with h | ⟨k', ds, rfl, rfl, h1, h2⟩
    · exact good_plain h j
    · obtain ⟨j', rfl⟩ : ∃ j', j = j' + 1 := ⟨j - 1, by omega⟩
      exact ⟨Nat.le_trans h1 hN, fun d hd => good_mono hN (by omega) (h2 d hd)⟩
theorem plain_tup {d : PyData} (h : plainD d = true) : tupD d = true := by
  cases d with
  | tuple ds => exact Bool.noConfusion h
  | none => rfl
  | bool _ => rfl
  | int _ => rfl
  | str x => exact h
  | list _ => exact Bool.noConfusion h
  | dict _ => exact Bool.noConfusion h
theorem tupDs_of : ∀ {ds : List PyData}, (∀ d ∈ ds, tupD d = true) → tupDs ds = true
  | [], _ => rfl
  | d :: r, h => by
    show (tupD d && tupDs r) = true
    rw [h d List.mem_cons_self, tupDs_of fun x hx => h x (List.mem_cons_of_mem _ hx)]
    rfl
theorem good_tup {N : Nat} : ∀ {k : Nat} {d : PyData}, goodD N k d → tupD d = true
  | k, d, h => by
    rcases good_cases h with h | ⟨k', ds, rfl, rfl, h1, h2⟩
    · exact plain_tup h
    · exact tupDs_of fun x hx => good_tup (h2 x hx)
theorem depthAll_le {n : Nat} : ∀ {ds : List PyData}, (∀ d ∈ ds, d.depth ≤ n) → PyData.depthAll ds ≤ n
  | [], _ => Nat.zero_le _
  | d :: r, h => by
    show max d.depth (PyData.depthAll r) ≤ n
    have := h d List.mem_cons_self
    have := depthAll_le fun x hx => h x (List.mem_cons_of_mem _ hx)
    omega
theorem good_depth {N : Nat} : ∀ {k : Nat} {d : PyData}, goodD N k d → d.depth ≤ k + 1
  | k, d, h => by
    rcases good_cases h with h | ⟨k', ds, rfl, rfl, h1, h2⟩
    · cases d with
      | tuple ds => exact Bool.noConfusion h
      | none => simp [PyData.depth]
      | bool _ => simp [PyData.depth]
      | int _ => simp [PyData.depth]
      | str x => simp [PyData.depth]
      | list _ => exact Bool.noConfusion h
      | dict _ => exact Bool.noConfusion h
    · have := depthAll_le fun x hx => good_depth (h2 x hx)
      show PyData.depthAll ds + 1 ≤ k' + 1 + 1
      omega
theorem good_shaped {N k : Nat} {d : PyData} (h : goodD N k d) (hk : k ≤ 40) : SeqAt.shaped d = true := by
  have := good_depth h
  unfold SeqAt.shaped
  rw [tupD_lay d (good_tup h), decide_eq_true (by omega)]
  rfl
/-- what stands is good -/
theorem stands_good {bd : Rat} {m : Nat} : ∀ {j : Nat} {f : Rat} {ws : List Int} {d : PyData}, ws.length ≤ m → stands bd j f ws d = true → goodD (2 * m + 2) (2 * j) d
  | 0, _, _, _, _, h => Bool.noConfusion h
  | j + 1, f, ws, d, hm, h => by
    by_cases ht : tyN d = "tuple"
    · obtain ⟨ds, rfl⟩ : ∃ ds, d = .tuple ds := by
        cases d with
        | tuple ds => exact ⟨ds, rfl⟩
        | none => exact absurd ht (show ("NoneType" : String) ≠ "tuple" by decide)
        | bool _ => exact absurd ht (show ("bool" : String) ≠ "tuple" by decide)
        | int _ => exact absurd ht (show ("int" : String) ≠ "tuple" by decide)
        | str _ => exact absurd ht (show ("str" : String) ≠ "tuple" by decide)
        | list _ => exact absurd ht (show ("list" : String) ≠ "tuple" by decide)
        | dict _ => exact absurd ht (show ("dict" : String) ≠ "tuple" by decide)
      show ds.length ≤ 2 * m + 2 ∧ ∀ d ∈ ds, goodD (2 * m + 2) (2 * j + 1) d
      by_cases h1 : ws.length = 1
      · obtain ⟨w, rfl⟩ : ∃ w, ws = [w] := by
          match ws, h1 with
          | [w], _ => exact ⟨w, rfl⟩
        rw [stands_one, Bool.and_eq_true, decide_eq_true_eq] at h
        have := List.length_eq_zero_iff.mp h.1
        subst this
        exact ⟨Nat.zero_le _, fun d hd => by cases hd⟩
      · rw [stands_more j h1, Bool.and_eq_true, decide_eq_true_eq, spl_len, List.all_eq_true] at h
        refine ⟨by omega, fun d hd => ?_⟩
        obtain ⟨i, hi, e⟩ := List.getElem_of_mem hd
        have hi2 : i < (spl ws.length).length := by rw [spl_len]; omega
        have hq := h.2 (ds[i], (spl ws.length)[i]) (List.mem_of_getElem? (i := i) (by rw [List.getElem?_zip_eq_some]; exact ⟨List.getElem?_eq_getElem hi, List.getElem?_eq_getElem hi2⟩))
        dsimp only at hq
        rw [e] at hq
        generalize (spl ws.length)[i] = x at hq
        obtain ⟨g, vs, y, d', rfl, hl, hs⟩ : ∃ (g : Rat) (vs : List Int) (y : Int) (d' : PyData), d = .tuple [.int y, d'] ∧ vs.length ≤ m ∧ stands bd j g vs d' = true := by
          unfold standP at hq
          split at hq
          · rename_i y d'
            split at hq
            · exact ⟨_, _, y, d', rfl, by rw [List.length_take]; omega, hq⟩
            · split at hq
              · exact ⟨_, _, y, d', rfl, by rw [List.length_drop]; omega, hq⟩
              · exact Bool.noConfusion hq
          · exact Bool.noConfusion hq
        refine ⟨by show 2 ≤ 2 * m + 2; omega, fun z hz => ?_⟩
        rcases List.mem_cons.mp hz with rfl | hz
        · exact good_plain rfl _
        · rcases List.mem_singleton.mp hz with rfl
          exact stands_good hl hs
    · rw [stands_no ht] at h
      exact Bool.noConfusion h
/-! ### cuts and sums of tuples of data -/
section
variable {K : PySem.W.Frag} {H : Hp} {Q : VK} {v w : V} {ds es : List PyData}
theorem dpAll_drop : ∀ (n : Nat) {xs : List V} {ds : List PyData}, DpAll K H xs ds → DpAll K H (xs.drop n) (ds.drop n)
  | 0, _, _, h => h
  | n + 1, _, _, .nil => .nil
  | n + 1, _, _, .cons _ r => dpAll_drop n r
theorem dpAll_take : ∀ (n : Nat) {xs : List V} {ds : List PyData}, DpAll K H xs ds → DpAll K H (xs.take n) (ds.take n)
  | 0, _, _, _ => .nil
  | n + 1, _, _, .nil => .nil
  | n + 1, _, _, .cons a r => .cons a (dpAll_take n r)
theorem dpAll_app : ∀ {xs ys : List V} {ds es : List PyData}, DpAll K H xs ds → DpAll K H ys es → DpAll K H (xs ++ ys) (ds ++ es)
  | _, _, _, _, .nil, h => h
  | _, _, _, _, .cons a r, h => .cons a (dpAll_app r h)
theorem dp_open (h : Dp K H v (.tuple ds)) : ∃ a xs, v = .ref a ∧ SqT K H a xs ∧ DpAll K H xs ds := by
  cases h with
  | tup hs ha => exact ⟨_, _, rfl, hs, ha⟩
theorem slA_step {lo hi : Option Int} (h : Dp K H v (.tuple ds)) (q : ∀ u H' es, Same H H' → Dp K H' u (.tuple es) → (∀ e ∈ es, e ∈ ds) → es.length ≤ HT.sIx ds.length ds.length hi - HT.sIx ds.length 0 lo → Q u H') : rSlA K v lo hi H Q := by
  obtain ⟨a, xs, rfl, hs, ha⟩ := dp_open h
  have hl := dpAll_len ha
  have hc : DpAll K H (cutV xs lo hi) ((ds.drop (HT.sIx ds.length 0 lo)).take (HT.sIx ds.length ds.length hi - HT.sIx ds.length 0 lo)) := by
    unfold cutV
    rw [hl]
    exact dpAll_take _ (dpAll_drop _ ha)
  have hm : ∀ e ∈ (ds.drop (HT.sIx ds.length 0 lo)).take (HT.sIx ds.length ds.length hi - HT.sIx ds.length 0 lo), e ∈ ds := fun e he => List.mem_of_mem_drop (List.mem_of_mem_take he)
  have hz : ((ds.drop (HT.sIx ds.length 0 lo)).take (HT.sIx ds.length ds.length hi - HT.sIx ds.length 0 lo)).length ≤ HT.sIx ds.length ds.length hi - HT.sIx ds.length 0 lo := by
    rw [List.length_take]
    exact Nat.min_le_left _ _
  refine ⟨a, xs, rfl, hs, fun e => ?_, fun _ p np => ?_⟩
  · refine q _ H ds (Same.refl _) h (fun e he => he) ?_
    rw [hl] at e
    rw [e.1, e.2]
    exact Nat.le_refl _
  · have sp := same_new (o := .tup (cutV xs lo hi)) np
    exact q _ _ _ sp (.tup (SqT.of upd_same) (Dp.monoAll sp _ _ hc)) hm hz
theorem catA_step (h1 : Dp K H v (.tuple ds)) (h2 : Dp K H w (.tuple es)) (hl : ds.length + es.length ≤ 1000) (q : ∀ u H', Same H H' → Dp K H' u (.tuple (ds ++ es)) → Q u H') : rCatA K v w H Q := by
  obtain ⟨a, xs, rfl, hs, ha⟩ := dp_open h1
  obtain ⟨b, ys, rfl, ht, hb⟩ := dp_open h2
  have l1 := dpAll_len ha
  have l2 := dpAll_len hb
  refine ⟨a, b, xs, ys, rfl, rfl, hs, ht, Nat.le_trans (by omega) (show 1000 ≤ sizeLine by decide), fun e => ?_, fun _ e => ?_, fun _ _ p np => ?_⟩
  · rw [e] at l1
    have : ds = [] := List.length_eq_zero_iff.mp l1.symm
    subst this
    exact q _ H (Same.refl _) h2
  · rw [e] at l2
    have : es = [] := List.length_eq_zero_iff.mp l2.symm
    subst this
    rw [List.append_nil] at q
    exact q _ H (Same.refl _) h1
  · have sp := same_new (o := .tup (xs ++ ys)) np
    exact q _ _ sp (.tup (SqT.of upd_same) (Dp.monoAll sp _ _ (dpAll_app ha hb)))
end
/-- a datum kept by what keeps all but the bag -/
theorem dp_bag {K : PySem.W.Frag} {H H' : Hp} {c : Addr} {v : V} {d : PyData} (t : tupD d = true) (e : Kp c H H') (hb : Bag H c) (h : Dp K H v d) : Dp K H' v d := by
  obtain ⟨ys, hy⟩ := hb.lst
  exact dp_kp e hy d t h
@[irreducible] def spBent (K : PySem.W.Frag) (n : Nat) : Sp := fun vs H Q _ => ∃ (c : Addr) (v : V) (d : PyData) (N k g : Nat), vs = [.ref c, v, .int (g : Int)] ∧ Bag H c ∧ Dp K H v d ∧ goodD N k d ∧ N ≤ 900 ∧ 3 ≤ N ∧ g + 3 ≤ k ∧ k ≤ 30 ∧ g + 1 ≤ n ∧ ∀ u e H', Dp K H' u e → goodD (N + 1) k e → Bag H' c → Kp c H H' → Q u H'
theorem bent_step {K : PySem.W.Frag} {H : Hp} {Q : VK} {E : XK} {vs : List V} {n : Nat} {c : Addr} {v : V} {d : PyData} {N k g : Nat} (hb : Bag H c) (hv : Dp K H v d) (hg : goodD N k d) (h1 : N ≤ 900) (h3 : 3 ≤ N) (h2 : g + 3 ≤ k) (hk : k ≤ 30) (hn : g + 1 ≤ n) (q : ∀ u e H', Dp K H' u e → goodD (N + 1) k e → Bag H' c → Kp c H H' → Q u H') (hvs : vs = [.ref c, v, .int (g : Int)] := by rfl) : spBent K n vs H Q E := by
  unfold spBent
  exact ⟨c, v, d, N, k, g, hvs, hb, hv, hg, h1, h3, h2, hk, hn, q⟩
/-- other things, one of them picked -/
theorem bail_step {K : PySem.W.Frag} {σ : L2.St} {H : Hp} {Q : VK} {c : Addr} (h0 : σ[0]? = some (some (.ref c))) (hB : Bag H c) (q : ∀ u e H', Dp K H' u e → goodD 3 3 e → Bag H' c → Kp c H H' → Q u H') :
    tCall spPick [] E0 (tCons (tVar 0) (tCons (tLst (tCons (tTup tNil) (tCons (tC (V.int 0)) (tCons (tC (V.int 1)) (tCons (tC (V.int 2)) (tCons (tC V.non) (tCons (tC (V.str (Str.ofString "down"))) (tCons (tTup (tCons (tC (V.int 0)) (tCons (tTup tNil) tNil))) (tCons (tTup (tCons (tTup (tCons (tC (V.int 0)) (tCons (tTup tNil) tNil))) (tCons (tTup (tCons (tC (V.int 1)) (tCons (tTup tNil) tNil))) tNil))) (tCons (tC (V.bl true)) tNil)))))))))) tNil)) σ H Q := by
  have two : ∀ {G : Hp} {v w : V} {d e : PyData} {p : Addr}, G p = none → Dp K G v d → Dp K G w e → Dp K (upd G p (.tup [v, w])) (.ref p) (.tuple [d, e]) := fun np hv hw => .tup (SqT.of upd_same) (.cons (Dp.mono (same_new np) _ _ hv) (.cons (Dp.mono (same_new np) _ _ hw) .nil))
  have nil : ∀ {G : Hp} {p : Addr}, G p = none → Dp K (upd G p (.tup [])) (.ref p) (.tuple []) := fun np => .tup (SqT.of upd_same) .nil
  refine ⟨_, h0, Nat.zero_le _, fun p1 n1 => ?_⟩
  have s1 := same_new (o := .tup []) n1
  have d1 := nil n1
  generalize upd H p1 (.tup []) = H1 at s1 d1 ⊢
  refine ⟨Nat.zero_le _, fun p2 n2 => ?_⟩
  have s2 := same_new (o := .tup []) n2
  have d2 := nil n2
  generalize upd H1 p2 (.tup []) = H2 at s2 d2 ⊢
  refine ⟨(show 2 ≤ sizeLine by decide), fun p3 n3 => ?_⟩
  have s3 := same_new (o := .tup [.int 0, .ref p2]) n3
  have d3 := two n3 (.int 0) d2
  generalize upd H2 p3 (.tup [.int 0, .ref p2]) = H3 at s3 d3 ⊢
  refine ⟨Nat.zero_le _, fun p4 n4 => ?_⟩
  have s4 := same_new (o := .tup []) n4
  have d4 := nil n4
  generalize upd H3 p4 (.tup []) = H4 at s4 d4 ⊢
  refine ⟨(show 2 ≤ sizeLine by decide), fun p5 n5 => ?_⟩
  have s5 := same_new (o := .tup [.int 0, .ref p4]) n5
  have d5 := two n5 (.int 0) d4
  generalize upd H4 p5 (.tup [.int 0, .ref p4]) = H5 at s5 d5 ⊢
  refine ⟨Nat.zero_le _, fun p6 n6 => ?_⟩
  have s6 := same_new (o := .tup []) n6
  have d6 := nil n6
  generalize upd H5 p6 (.tup []) = H6 at s6 d6 ⊢
  refine ⟨(show 2 ≤ sizeLine by decide), fun p7 n7 => ?_⟩
  have s7 := same_new (o := .tup [.int 1, .ref p6]) n7
  have d7 := two n7 (.int 1) d6
  generalize upd H6 p7 (.tup [.int 1, .ref p6]) = H7 at s7 d7 ⊢
  refine ⟨(show 2 ≤ sizeLine by decide), fun p8 n8 => ?_⟩
  have s8 := same_new (o := .tup [.ref p5, .ref p7]) n8
  have d8 := two n8 (Dp.mono (s6.trans s7) _ _ d5) d7
  generalize upd H7 p8 (.tup [.ref p5, .ref p7]) = H8 at s8 d8 ⊢
  refine ⟨(show 9 ≤ sizeLine by decide), fun L nL => ?_⟩
  have s48 := s4.trans (s5.trans (s6.trans (s7.trans s8)))
  have s28 := s2.trans (s3.trans s48)
  have sL := same_new (o := .lst [.ref p1, .int 0, .int 1, .int 2, .non, .str (Str.ofString "down"), .ref p3, .ref p8, .bl true]) nL
  have hL : (upd H8 L (.lst [.ref p1, .int 0, .int 1, .int 2, .non, .str (Str.ofString "down"), .ref p3, .ref p8, .bl true])) L = some (.lst [.ref p1, .int 0, .int 1, .int 2, .non, .str (Str.ofString "down"), .ref p3, .ref p8, .bl true]) := upd_same
  have hB8 := hB.same (s1.trans s28)
  have nLc : L ≠ c := fun z => by
    obtain ⟨ys, hy⟩ := hB8.lst
    rw [z, hy] at nL
    cases nL
  have sA := s1.trans (s28.trans sL)
  have all : ∀ v ∈ [V.ref p1, .int 0, .int 1, .int 2, .non, .str (Str.ofString "down"), .ref p3, .ref p8, .bl true], ∃ e, Dp K (upd H8 L (.lst [.ref p1, .int 0, .int 1, .int 2, .non, .str (Str.ofString "down"), .ref p3, .ref p8, .bl true])) v e ∧ goodD 3 3 e := by
    have g0 : ∀ k, goodD 3 (k + 1) (.tuple []) := fun k => ⟨Nat.zero_le _, fun d h => by cases h⟩
    have g1 : ∀ k (i : Int), goodD 3 (k + 2) (.tuple [.int i, .tuple []]) := fun k i => ⟨(show 2 ≤ 3 by decide), fun d h => by
      rcases List.mem_cons.mp h with rfl | h
      · exact good_plain rfl _
      · rcases List.mem_singleton.mp h with rfl
        exact g0 k⟩
    intro v hv
    rcases List.mem_cons.mp hv with rfl | hv
    · exact ⟨_, Dp.mono (s28.trans sL) _ _ d1, g0 2⟩
    rcases List.mem_cons.mp hv with rfl | hv
    · exact ⟨_, .int 0, good_plain rfl _⟩
    rcases List.mem_cons.mp hv with rfl | hv
    · exact ⟨_, .int 1, good_plain rfl _⟩
    rcases List.mem_cons.mp hv with rfl | hv
    · exact ⟨_, .int 2, good_plain rfl _⟩
    rcases List.mem_cons.mp hv with rfl | hv
    · exact ⟨_, .non, good_plain rfl _⟩
    rcases List.mem_cons.mp hv with rfl | hv
    · exact ⟨_, .str _, good_plain (by decide +kernel) _⟩
    rcases List.mem_cons.mp hv with rfl | hv
    · exact ⟨_, Dp.mono (s48.trans sL) _ _ d3, g1 1 0⟩
    rcases List.mem_cons.mp hv with rfl | hv
    · refine ⟨_, Dp.mono sL _ _ d8, (show 2 ≤ 3 by decide), fun d h => ?_⟩
      rcases List.mem_cons.mp h with rfl | h
      · exact g1 0 0
      · rcases List.mem_singleton.mp h with rfl
        exact g1 0 1
    · rcases List.mem_singleton.mp hv with rfl
      exact ⟨_, .bl true, good_plain rfl _⟩
  refine pick_step (hB8.same sL) hL nLc (by show 0 < 9; decide) (by show 9 ≤ 1000; decide) fun v H9 hv hB9 k9 => ?_
  obtain ⟨e, he, ge⟩ := all v hv
  exact q v e H9 (dp_bag (good_tup ge) k9 (hB8.same sL) he) ge hB9 ((Kp.of sA).trans k9)
end Cc
set_option maxHeartbeats 4000000
/-! XTrD: whether any datum is a tree, and of how many things: as the program counts (tn) and as the law judges (isT). -/
namespace Cc
open PySem PySem.Spec PyProof.Rows L2
/-- the law's judging; k: how often it may go on -/
def isT : Nat → PyData → Nat → Bool
  | 0, _, _ => false
  | k + 1, d, m =>
    match d with
    | .tuple [] => decide (m = 1)
    | .tuple [s, a, b] => isSd s && (List.range (m - 1)).any fun j => isT k a (j + 1) && isT k b (m - (j + 1))
    | _ => false
theorem isT_inv : ∀ {k m : Nat} {d : PyData}, isT k d m = true → ∃ t, d = dTr t ∧ t.n = m
  | 0, m, d, h => Bool.noConfusion h
  | k + 1, m, d, h => by
    unfold isT at h
    split at h
    · exact ⟨.leaf, rfl, (of_decide_eq_true h).symm⟩
    · rename_i s a b
      rw [Bool.and_eq_true, List.any_eq_true] at h
      obtain ⟨hs, j, hj, h⟩ := h
      rw [Bool.and_eq_true] at h
      have hj := List.mem_range.mp hj
      obtain ⟨d', rfl⟩ := isSd_str hs
      obtain ⟨ta, ea, na⟩ := isT_inv h.1
      obtain ⟨tb, eb, nb⟩ := isT_inv h.2
      exact ⟨.node d' ta tb, by rw [ea, eb]; rfl, by show ta.n + tb.n = m; omega⟩
    · exact Bool.noConfusion h
theorem isT_tr : ∀ (t : Tr) {k : Nat}, t.n ≤ k → isT k (dTr t) t.n = true
  | t, 0, h => by
    have := t.pos
    omega
  | .leaf, k + 1, h => rfl
  | .node d a c, k + 1, h => by
    have pa := a.pos
    have pc := c.pos
    have h : a.n + c.n ≤ k + 1 := h
    show (isSd (.str (sd d)) && (List.range (a.n + c.n - 1)).any fun j => isT k (dTr a) (j + 1) && isT k (dTr c) (a.n + c.n - (j + 1))) = true
    rw [isSd_sd, Bool.true_and, List.any_eq_true]
    refine ⟨a.n - 1, List.mem_range.mpr (by omega), ?_⟩
    rw [show a.n - 1 + 1 = a.n by omega, show a.n + c.n - a.n = c.n by omega, isT_tr a (by omega), isT_tr c (by omega)]
    rfl
/-- the two agree -/
theorem isT_tn {k m n : Nat} {d : PyData} (h1 : 1 ≤ m) (hn : m ≤ n) (hk : m ≤ k) : isT k d m = decide (tn n n d = m) := by
  rw [Bool.eq_iff_iff, decide_eq_true_eq]
  constructor
  · intro h
    obtain ⟨t, rfl, e⟩ := isT_inv h
    rw [tn_tr t (by omega) (Nat.le_refl _), e]
  · intro h
    obtain ⟨t, rfl, e, _⟩ := tn_inv (n := n) (m := n) (d := d) (by omega)
    rw [← h, ← e]
    exact isT_tr t (by omega)
theorem dtr_tup : ∀ t : Tr, tupD (dTr t) = true
  | .leaf => rfl
  | .node d a c => by
    show ((PyData.str (sd d)).canLay0 && (tupD (dTr a) && (tupD (dTr c) && true))) = true
    rw [dtr_tup a, dtr_tup c]
    cases d <;> decide +kernel
/-- a drawn tree of so many things -/
@[irreducible] def spTree (K : PySem.W.Frag) (n : Nat) : Sp := fun vs H Q _ => ∃ (c : Addr) (m : Nat), vs = [.ref c, .int (m : Int)] ∧ Bag H c ∧ 1 ≤ m ∧ m ≤ n ∧ m ≤ 900 ∧ ∀ u t H', t.n = m → Dp K H' u (dTr t) → Bag H' c → Kp c H H' → Q u H'
theorem drawtree_step {K : PySem.W.Frag} {H : Hp} {Q : VK} {E : XK} {vs : List V} {n : Nat} {c : Addr} {m : Nat} (hb : Bag H c) (h1 : 1 ≤ m) (hn : m ≤ n) (h9 : m ≤ 900) (q : ∀ u t H', t.n = m → Dp K H' u (dTr t) → Bag H' c → Kp c H H' → Q u H') (hvs : vs = [.ref c, .int (m : Int)] := by rfl) : spTree K n vs H Q E := by
  unfold spTree
  exact ⟨c, m, hvs, hb, h1, hn, h9, q⟩
end Cc
set_option maxHeartbeats 4000000
/-! XTrE: whether anything is a tree, judged by the law; what refuses as BadSizes. -/
namespace Cc
open PySem PySem.Spec PyProof.Rows L2
/-! ### x not in (a, b), of whatever data -/
def rNotInTD (K : PySem.W.Frag) : R2 := fun x y H Q => ∃ d ds, Dp K H x d ∧ Dp K H y (.tuple ds) ∧ SeqAt.shaped d = true ∧ SeqAt.shaped (.tuple ds) = true ∧ Q (.bl (!ds.any fun z => PyData.eqv z d)) H
theorem op_notInTD {X : Cx} (hu : X.A.units + 65 < cLine) : OpR X (compareOp .NotIn) (rNotInTD X.K) := fun pins s σ H x y v u Q I rx ry ⟨d, ds, hd, he, sd, se, q⟩ =>
  have ⟨_, r1⟩ := Dp.reads I d x v hd rx
  have ⟨_, r2⟩ := Dp.reads I (.tuple ds) y u he ry
  SeqAt.notIn_tuple_reads r2 r1 (SeqAt.canLay_of_shaped se) (SeqAt.canLay_of_shaped sd) (room_in_shaped sd hu) ⟨.bl _, H, I, rfl, q⟩
theorem un65 {k : Nat} {A : Around} (r : Room k A) : A.units + 65 < cLine := by
  have := r.un
  omega
theorem sides_any (d : PyData) : ([PyData.str "down", PyData.str "across"].any fun z => PyData.eqv z d) = isSd d := by
  cases d with
  | str x =>
    have e : ∀ y : Str, (y == x) = decide (x = y) := fun y => by rw [Bool.eq_iff_iff, beq_iff_eq, decide_eq_true_eq]; exact eq_comm
    simp only [List.any_cons, List.any_nil, PyData.eqv, Bool.or_false, e]
    rfl
  | none => rfl
  | bool _ => rfl
  | int _ => rfl
  | list _ => rfl
  | tuple _ => rfl
  | dict _ => rfl
theorem sides_shaped : SeqAt.shaped (.tuple [.str "down", .str "across"]) = true := by decide +kernel
/-! ### the law's judging -/
@[irreducible] def spIsTreeD (K : PySem.W.Frag) (n : Nat) : Sp := fun vs H Q _ => ∃ (v : V) (d : PyData) (m : Nat), vs = [v, .int (m : Int)] ∧ Dp K H v d ∧ SeqAt.shaped d = true ∧ 1 ≤ m ∧ m ≤ n ∧ m ≤ 60 ∧ ∀ r H', Same H H' → r = V.bl (isT n d m) → Q r H'
theorem istreeD_step {K : PySem.W.Frag} {H : Hp} {Q : VK} {E : XK} {vs : List V} {n m : Nat} {v : V} {d : PyData} (hv : Dp K H v d) (hs : SeqAt.shaped d = true) (h1 : 1 ≤ m) (hn : m ≤ n) (h6 : m ≤ 60) (q : ∀ H', Same H H' → Q (.bl (isT n d m)) H') (hvs : vs = [v, .int (m : Int)] := by rfl) : spIsTreeD K n vs H Q E := by
  unfold spIsTreeD
  exact ⟨v, d, m, hvs, hv, hs, h1, hn, h6, fun r H' s e => by rw [e]; exact q H' s⟩
theorem isT_no {n m : Nat} {d : PyData} (h : tyN d ≠ "tuple") : isT (n + 1) d m = false := by
  cases d <;> first | rfl | exact absurd rfl h
theorem eqv_no {d : PyData} (h : tyN d ≠ "tuple") : PyData.eqv d (.tuple []) = false := by
  cases d <;> first | rfl | exact absurd rfl h
theorem isT_len {n m : Nat} {ds : List PyData} (h0 : ds.length ≠ 0) (h3 : ds.length ≠ 3) : isT (n + 1) (.tuple ds) m = false := by
  match ds, h0, h3 with
  | [_], _, _ => rfl
  | [_, _], _, _ => rfl
  | _ :: _ :: _ :: _ :: _, _, _ => rfl
theorem dp_three {K : PySem.W.Frag} {H : Hp} {us : List V} {ds : List PyData} (ha : DpAll K H us ds) (h : ds.length = 3) : ∃ d1 d2 d3 v1 v2 v3, ds = [d1, d2, d3] ∧ us = [v1, v2, v3] ∧ Dp K H v1 d1 ∧ Dp K H v2 d2 ∧ Dp K H v3 d3 := by
  match ds, us, h, ha with
  | [d1, d2, d3], [v1, v2, v3], _, .cons k1 (.cons k2 (.cons k3 .nil)) => exact ⟨d1, d2, d3, v1, v2, v3, rfl, rfl, k1, k2, k3⟩
theorem iteNT {c A B : Prop} {i : Decidable c} (hc : ¬ c) (h : A) : if (!decide c) = true then A else B := by
  rw [decide_eq_false hc]
  exact h
/-! ### what refuses as BadSizes -/
@[irreducible] def spSlicedX (K : PySem.W.Frag) (mg : Str → Option Value) : Sp := fun vs H Q E => ∃ (v w : V) (a : Addr) (b : Bx) (ws : List Int) (d : PyData), vs = [v, .ref a, w] ∧ BxV K H v b ∧ b.Ok 202 ∧ IntsV K H a ws ∧ WOk ws ∧ Dp K H w d ∧ tn 7 6 d ≠ ws.length ∧ Thr K mg "BadSizes" H E
@[irreducible] def spSlWorstX (K : PySem.W.Frag) (mg : Str → Option Value) : Sp := fun vs H Q E => ∃ (v w : V) (a : Addr) (b : Bx) (ws : List Int) (d : PyData), vs = [v, .ref a, w] ∧ BxV K H v b ∧ b.Ok 202 ∧ IntsV K H a ws ∧ WOk ws ∧ Dp K H w d ∧ tn 7 6 d ≠ ws.length ∧ Thr K mg "BadSizes" H E
@[irreducible] def spCheckFewX (K : PySem.W.Frag) (mg : Str → Option Value) : Sp := fun vs H Q E => ∃ (v : V) (a : Addr) (b : Bx) (ws : List Int) (m : Int), vs = [v, .ref a, .int m] ∧ BxV K H v b ∧ b.Ok 202 ∧ IntsV K H a ws ∧ WOk ws ∧ m < ws.length ∧ Thr K mg "BadSizes" H E
@[irreducible] def spBestSlX (K : PySem.W.Frag) (mg : Str → Option Value) : Sp := fun vs H Q E => ∃ (v : V) (a : Addr) (b : Bx) (ws : List Int), vs = [v, .ref a] ∧ BxV K H v b ∧ b.Ok 202 ∧ IntsV K H a ws ∧ WOk ws ∧ 6 < ws.length ∧ Thr K mg "BadSizes" H E
@[irreducible] def spRefutedX (K : PySem.W.Frag) (mg : Str → Option Value) : Sp := fun vs H Q E => ∃ (v u : V) (a : Addr) (b : Bx) (ws : List Int), vs = [v, .ref a, u] ∧ BxV K H v b ∧ b.Ok 202 ∧ IntsV K H a ws ∧ WOk ws ∧ 5 < ws.length ∧ Thr K mg "BadSizes" H E
@[irreducible] def spRefutesX (K : PySem.W.Frag) (mg : Str → Option Value) : Sp := fun vs H Q E => ∃ (v u z : V) (a : Addr) (b : Bx) (ws : List Int), vs = [v, .ref a, u, z] ∧ BxV K H v b ∧ b.Ok 202 ∧ IntsV K H a ws ∧ WOk ws ∧ 5 < ws.length ∧ Thr K mg "BadSizes" H E
section
variable {K : PySem.W.Frag} {mg : Str → Option Value} {H : Hp} {Q : VK} {E : XK} {vs : List V} {v u w z : V} {a : Addr} {b : Bx} {ws : List Int} {d : PyData} {m : Int}
theorem slicedx_step (hv : BxV K H v b) (hb : b.Ok 202) (hI : IntsV K H a ws) (hW : WOk ws) (hw : Dp K H w d) (hn : tn 7 6 d ≠ ws.length) (hE : Thr K mg "BadSizes" H E) (hvs : vs = [v, .ref a, w] := by rfl) : spSlicedX K mg vs H Q E := by
  unfold spSlicedX
  exact ⟨v, w, a, b, ws, d, hvs, hv, hb, hI, hW, hw, hn, hE⟩
theorem slworstx_step (hv : BxV K H v b) (hb : b.Ok 202) (hI : IntsV K H a ws) (hW : WOk ws) (hw : Dp K H w d) (hn : tn 7 6 d ≠ ws.length) (hE : Thr K mg "BadSizes" H E) (hvs : vs = [v, .ref a, w] := by rfl) : spSlWorstX K mg vs H Q E := by
  unfold spSlWorstX
  exact ⟨v, w, a, b, ws, d, hvs, hv, hb, hI, hW, hw, hn, hE⟩
theorem fewx_step (hv : BxV K H v b) (hb : b.Ok 202) (hI : IntsV K H a ws) (hW : WOk ws) (hn : m < ws.length) (hE : Thr K mg "BadSizes" H E) (hvs : vs = [v, .ref a, .int m] := by rfl) : spCheckFewX K mg vs H Q E := by
  unfold spCheckFewX
  exact ⟨v, a, b, ws, m, hvs, hv, hb, hI, hW, hn, hE⟩
theorem bestslx_step (hv : BxV K H v b) (hb : b.Ok 202) (hI : IntsV K H a ws) (hW : WOk ws) (hn : 6 < ws.length) (hE : Thr K mg "BadSizes" H E) (hvs : vs = [v, .ref a] := by rfl) : spBestSlX K mg vs H Q E := by
  unfold spBestSlX
  exact ⟨v, a, b, ws, hvs, hv, hb, hI, hW, hn, hE⟩
theorem refutedx_step (hv : BxV K H v b) (hb : b.Ok 202) (hI : IntsV K H a ws) (hW : WOk ws) (hn : 5 < ws.length) (hE : Thr K mg "BadSizes" H E) (hvs : vs = [v, .ref a, u] := by rfl) : spRefutedX K mg vs H Q E := by
  unfold spRefutedX
  exact ⟨v, u, a, b, ws, hvs, hv, hb, hI, hW, hn, hE⟩
theorem refutesx_step (hv : BxV K H v b) (hb : b.Ok 202) (hI : IntsV K H a ws) (hW : WOk ws) (hn : 5 < ws.length) (hE : Thr K mg "BadSizes" H E) (hvs : vs = [v, .ref a, u, z] := by rfl) : spRefutesX K mg vs H Q E := by
  unfold spRefutesX
  exact ⟨v, u, z, a, b, ws, hvs, hv, hb, hI, hW, hn, hE⟩
end
theorem tn_le6 (d : PyData) : tn 7 6 d ≤ 6 := by
  by_cases h : tn 7 6 d = 0
  · omega
  · obtain ⟨t, _, e, l⟩ := tn_inv h
    omega
end Cc
set_option maxHeartbeats 4000000
/-! XAny: any thing at all, empty dicts too; whether it is a part, a box. -/
namespace Cc
open PySem PySem.Spec PyProof.Rows L2
mutual
inductive AnyV (K : PySem.W.Frag) (H : Hp) : V → PyData → Prop
  | non : AnyV K H .non .none
  | bl (b : Bool) : AnyV K H (.bl b) (.bool b)
  | int (i : Int) : AnyV K H (.int i) (.int i)
  | str (x : Str) : AnyV K H (.str x) (.str x)
  | lst {a : Addr} {us : List V} {ds : List PyData} (h : SqL K H a us) (k : AnyAll K H us ds) : AnyV K H (.ref a) (.list ds)
  | tup {a : Addr} {us : List V} {ds : List PyData} (h : SqT K H a us) (k : AnyAll K H us ds) : AnyV K H (.ref a) (.tuple ds)
  | dic {a : Addr} (h : H a = some (.dK [])) : AnyV K H (.ref a) (.dict [])
inductive AnyAll (K : PySem.W.Frag) (H : Hp) : List V → List PyData → Prop
  | nil : AnyAll K H [] []
  | cons {v : V} {d : PyData} {us : List V} {ds : List PyData} (h : AnyV K H v d) (k : AnyAll K H us ds) : AnyAll K H (v :: us) (d :: ds)
end
section
variable {K : PySem.W.Frag} {H H' : Hp}
mutual
theorem AnyV.of : ∀ {v : V} {d : PyData}, Dp K H v d → AnyV K H v d
  | _, _, .non => .non
  | _, _, .bl b => .bl b
  | _, _, .int i => .int i
  | _, _, .str x => .str x
  | _, _, .lst h k => .lst h (AnyAll.of k)
  | _, _, .tup h k => .tup h (AnyAll.of k)
theorem AnyAll.of : ∀ {us : List V} {ds : List PyData}, DpAll K H us ds → AnyAll K H us ds
  | _, _, .nil => .nil
  | _, _, .cons h k => .cons (AnyV.of h) (AnyAll.of k)
end
mutual
theorem AnyV.same (e : Same H H') : ∀ {v : V} {d : PyData}, AnyV K H v d → AnyV K H' v d
  | _, _, .non => .non
  | _, _, .bl b => .bl b
  | _, _, .int i => .int i
  | _, _, .str x => .str x
  | _, _, .lst h k => .lst (seqL_same e h) (AnyAll.same e k)
  | _, _, .tup h k => .tup (seqT_same e h) (AnyAll.same e k)
  | _, _, .dic h => .dic (e _ _ h)
theorem AnyAll.same (e : Same H H') : ∀ {us : List V} {ds : List PyData}, AnyAll K H us ds → AnyAll K H' us ds
  | _, _, .nil => .nil
  | _, _, .cons h k => .cons (AnyV.same e h) (AnyAll.same e k)
end
mutual
theorem AnyV.ext (e : LamX.ExtN H H') : ∀ {v : V} {d : PyData}, AnyV K H v d → AnyV K H' v d
  | _, _, .non => .non
  | _, _, .bl b => .bl b
  | _, _, .int i => .int i
  | _, _, .str x => .str x
  | _, _, .lst h k => .lst (seqL_ext e h) (AnyAll.ext e k)
  | _, _, .tup h k => .tup (seqT_ext e h) (AnyAll.ext e k)
  | _, _, .dic h => .dic (e _ _ h (fun _ z => by cases z))
theorem AnyAll.ext (e : LamX.ExtN H H') : ∀ {us : List V} {ds : List PyData}, AnyAll K H us ds → AnyAll K H' us ds
  | _, _, .nil => .nil
  | _, _, .cons h k => .cons (AnyV.ext e h) (AnyAll.ext e k)
end
theorem anyAll_len : ∀ {us : List V} {ds : List PyData}, AnyAll K H us ds → us.length = ds.length
  | _, _, .nil => rfl
  | _, _, .cons _ k => by rw [List.length_cons, List.length_cons, anyAll_len k]
theorem anyAll_get : ∀ {us : List V} {ds : List PyData}, AnyAll K H us ds → ∀ {i : Nat} {v : V}, us[i]? = some v → ∃ d, ds[i]? = some d ∧ AnyV K H v d
  | _, _, .nil, i, v, e => by simp at e
  | _, _, .cons (d := d) h k, 0, v, e => by
    cases e
    exact ⟨d, rfl, h⟩
  | _, _, .cons h k, i + 1, v, e => by
    rw [List.getElem?_cons_succ] at e ⊢
    exact anyAll_get k e
theorem tyx_any {v : V} {d : PyData} (h : AnyV K H v d) : TyX K H v (.type (tyN d)) := by
  cases h with
  | non => exact .base .non
  | bl b => exact .base (.bl b)
  | int i => exact .base (.int i)
  | str x => exact .base (.str x)
  | lst h _ => exact tyx_lst h
  | tup h _ => exact tyx_tup h
  | dic h => exact .base (.dK h)
theorem isia_step {v : V} {d : PyData} (t n : String) (b : Bool) {Q : VK} {vs : List V} (h : AnyV K H v d) (ht : tyN d = t) (hk : kitB t n = some b) (q : Q (.bl b) H) (hvs : vs = [v, .ty n] := by rfl) : rIsiI K vs H Q := by
  unfold rIsiI
  exact ⟨v, .ty n, _, _, b, hvs, .ty n, tyx_any h, kit_ty (by rw [ht]; exact hk), q⟩
theorem isia_tup {v : V} {d : PyData} {Q : VK} {vs : List V} (h : AnyV K H v d) (q : Q (.bl (decide (tyN d = "tuple"))) H) (hvs : vs = [v, .ty "tuple"] := by rfl) : rIsiI K vs H Q := by
  cases d with
  | tuple ds => exact isia_step "tuple" "tuple" true h rfl (by decide +kernel) q hvs
  | none => exact isia_step "NoneType" "tuple" false h rfl (by decide +kernel) q hvs
  | bool _ => exact isia_step "bool" "tuple" false h rfl (by decide +kernel) q hvs
  | int _ => exact isia_step "int" "tuple" false h rfl (by decide +kernel) q hvs
  | str _ => exact isia_step "str" "tuple" false h rfl (by decide +kernel) q hvs
  | list _ => exact isia_step "list" "tuple" false h rfl (by decide +kernel) q hvs
  | dict _ => exact isia_step "dict" "tuple" false h rfl (by decide +kernel) q hvs
theorem any_tup {v : V} {d : PyData} (h : AnyV K H v d) (ht : tyN d = "tuple") : ∃ a us ds, v = .ref a ∧ d = .tuple ds ∧ SqT K H a us ∧ AnyAll K H us ds := by
  cases h with
  | tup h k => exact ⟨_, _, _, rfl, rfl, h, k⟩
  | non => exact absurd (show ("NoneType" : String) = "tuple" from ht) (by decide)
  | bl b => exact absurd (show ("bool" : String) = "tuple" from ht) (by decide)
  | int i => exact absurd (show ("int" : String) = "tuple" from ht) (by decide)
  | str x => exact absurd (show ("str" : String) = "tuple" from ht) (by decide)
  | lst h k => exact absurd (show ("list" : String) = "tuple" from ht) (by decide)
  | dic h => exact absurd (show ("dict" : String) = "tuple" from ht) (by decide)
theorem any_int {v : V} {d : PyData} (h : AnyV K H v d) (hn : isNumD d = true) : ∃ i, v = .int i ∧ d = .int i := by
  cases h with
  | int i => exact ⟨i, rfl, rfl⟩
  | non => exact Bool.noConfusion hn
  | bl b => exact Bool.noConfusion hn
  | str x => exact Bool.noConfusion hn
  | lst h k => exact Bool.noConfusion hn
  | tup h k => exact Bool.noConfusion hn
  | dic h => exact Bool.noConfusion hn
theorem any_two {us : List V} {ds : List PyData} (k : AnyAll K H us ds) (h : ds.length = 2) : ∃ d1 d2 v1 v2, ds = [d1, d2] ∧ us = [v1, v2] ∧ AnyV K H v1 d1 ∧ AnyV K H v2 d2 := by
  match ds, us, h, k with
  | [d1, d2], [v1, v2], _, .cons k1 (.cons k2 .nil) => exact ⟨d1, d2, v1, v2, rfl, rfl, k1, k2⟩
theorem any_four {us : List V} {ds : List PyData} (k : AnyAll K H us ds) (h : ds.length = 4) : ∃ d1 d2 d3 d4 v1 v2 v3 v4, ds = [d1, d2, d3, d4] ∧ us = [v1, v2, v3, v4] ∧ AnyV K H v1 d1 ∧ AnyV K H v2 d2 ∧ AnyV K H v3 d3 ∧ AnyV K H v4 d4 := by
  match ds, us, h, k with
  | [d1, d2, d3, d4], [v1, v2, v3, v4], _, .cons k1 (.cons k2 (.cons k3 (.cons k4 .nil))) => exact ⟨d1, d2, d3, d4, v1, v2, v3, v4, rfl, rfl, k1, k2, k3, k4⟩
end
/-! ### parts and boxes, judged -/
def isPD : PyData → Bool
  | .tuple [.int a, .int b] => decide (0 < b ∧ Nat.gcd a.natAbs b.natAbs = 1)
  | _ => false
def posD : PyData → Bool
  | .tuple (.int a :: _) => decide (0 < a)
  | _ => false
def isBD : PyData → Bool
  | .tuple [d1, d2, d3, d4] => (isPD d1 && (isPD d2 && (isPD d3 && isPD d4))) && (posD d3 && posD d4)
  | _ => false
theorem isPD_no {d : PyData} (h : tyN d ≠ "tuple") : isPD d = false := by
  cases d <;> first | rfl | exact absurd rfl h
theorem isPD_len {ds : List PyData} (h : ds.length ≠ 2) : isPD (.tuple ds) = false := by
  match ds, h with
  | [], _ => rfl
  | [.int _], _ => rfl
  | [.none], _ => rfl
  | [.bool _], _ => rfl
  | [.str _], _ => rfl
  | [.list _], _ => rfl
  | [.tuple _], _ => rfl
  | [.dict _], _ => rfl
  | _ :: _ :: _ :: _, _ => unfold isPD; split <;> simp_all
theorem isPD_two {d1 d2 : PyData} (h : isNumD d1 = false ∨ isNumD d2 = false) : isPD (.tuple [d1, d2]) = false := by
  unfold isPD
  split
  · rename_i a b e
    cases e
    rcases h with h | h <;> exact Bool.noConfusion h
  · rfl
@[irreducible] def spNumA (K : PySem.W.Frag) : Sp := fun vs H Q _ => ∃ (v : V) (d : PyData), vs = [v] ∧ AnyV K H v d ∧ ∀ r, r = V.bl (isNumD d) → Q r H
@[irreducible] def spPartA (K : PySem.W.Frag) : Sp := fun vs H Q _ => ∃ (v : V) (d : PyData), vs = [v] ∧ AnyV K H v d ∧ ∀ r, r = V.bl (isPD d) → Q r H
section
variable {K : PySem.W.Frag} {H : Hp} {Q : VK} {E : XK} {vs : List V} {v : V} {d : PyData}
theorem numa_step (hv : AnyV K H v d) (q : Q (.bl (isNumD d)) H) (hvs : vs = [v] := by rfl) : spNumA K vs H Q E := by
  unfold spNumA
  exact ⟨v, d, hvs, hv, fun r e => by rw [e]; exact q⟩
theorem parta_step (hv : AnyV K H v d) (q : Q (.bl (isPD d)) H) (hvs : vs = [v] := by rfl) : spPartA K vs H Q E := by
  unfold spPartA
  exact ⟨v, d, hvs, hv, fun r e => by rw [e]; exact q⟩
end
/-- the numbers of a tuple's parts are not too great -/
def BdD (n : Nat) : PyData → Prop
  | .tuple ds => ∀ e ∈ ds, ∀ a b : Int, e = .tuple [.int a, .int b] → a.natAbs < 2 ^ n ∧ b.natAbs < 2 ^ n
  | _ => True
theorem isPD_inv {d : PyData} (h : isPD d = true) : ∃ q : Rat, d = dPart q := by
  unfold isPD at h
  split at h
  · rename_i a b
    obtain ⟨h1, h2⟩ := of_decide_eq_true h
    refine ⟨⟨a, b.toNat, by omega, ?_⟩, ?_⟩
    · show Nat.gcd a.natAbs b.toNat = 1
      rw [show b.toNat = b.natAbs by omega]
      exact h2
    · show PyData.tuple [.int a, .int b] = .tuple [.int a, .int ((b.toNat : Nat) : Int)]
      rw [show ((b.toNat : Nat) : Int) = b by omega]
  · exact Bool.noConfusion h
theorem any_part {K : PySem.W.Frag} {H : Hp} {v : V} {q : Rat} (h : AnyV K H v (dPart q)) : PtV K H v q := by
  have h' : AnyV K H v (.tuple [.int q.num, .int (q.den : Int)]) := h
  cases h' with
  | tup ha hk =>
    cases hk with
    | cons h1 hk =>
      cases hk with
      | cons h2 hk =>
        cases hk
        cases h1
        cases h2
        exact ⟨_, rfl, ha⟩
theorem isBD_no {d : PyData} (h : tyN d ≠ "tuple") : isBD d = false := by
  cases d <;> first | rfl | exact absurd rfl h
theorem isBD_len {ds : List PyData} (h : ds.length ≠ 4) : isBD (.tuple ds) = false := by
  unfold isBD
  split
  · rename_i e
    cases e
    exact absurd rfl h
  · rfl
theorem posD_part (q : Rat) : posD (dPart q) = decide (0 < q) := by
  show decide (0 < q.num) = decide (0 < q)
  refine decide_eq_decide.mpr ⟨fun h => ?_, fun h => ?_⟩
  · refine Rat.not_le.mp fun z => ?_
    have := Rat.num_nonneg.mpr (show 0 ≤ -q by grind)
    rw [Rat.neg_num] at this
    omega
  · have n0 := Rat.num_nonneg.mpr (Rat.le_of_lt h)
    have : q.num ≠ 0 := fun z => by
      rw [Rat.num_eq_zero.mp z] at h
      exact absurd h (by decide)
    omega
@[irreducible] def spBoxA (K : PySem.W.Frag) : Sp := fun vs H Q _ => ∃ (v : V) (d : PyData), vs = [v] ∧ AnyV K H v d ∧ BdD 3900 d ∧ ∀ r H', Same H H' → r = V.bl (isBD d) → Q r H'
@[irreducible] def spCheckBA (K : PySem.W.Frag) (mg : Str → Option Value) : Sp := fun vs H Q E => ∃ (v : V) (d : PyData), vs = [v] ∧ AnyV K H v d ∧ BdD 3900 d ∧ (isBD d = true → ∀ H', Same H H' → Q .non H') ∧ (isBD d = false → Thr K mg "BadBox" H E)
section
variable {K : PySem.W.Frag} {mg : Str → Option Value} {H : Hp} {Q : VK} {E : XK} {vs : List V} {v : V} {d : PyData}
theorem boxa_step (hv : AnyV K H v d) (hb : BdD 3900 d) (q : ∀ H', Same H H' → Q (.bl (isBD d)) H') (hvs : vs = [v] := by rfl) : spBoxA K vs H Q E := by
  unfold spBoxA
  exact ⟨v, d, hvs, hv, hb, fun r H' s e => by rw [e]; exact q H' s⟩
theorem checkba_step (hv : AnyV K H v d) (hb : BdD 3900 d) (q : isBD d = true → ∀ H', Same H H' → Q .non H') (hE : isBD d = false → Thr K mg "BadBox" H E) (hvs : vs = [v] := by rfl) : spCheckBA K mg vs H Q E := by
  unfold spCheckBA
  exact ⟨v, d, hvs, hv, hb, q, hE⟩
end
end Cc
set_option maxHeartbeats 4000000
/-! XNew: new objects with the heap behind them a letter; what stays through draws, lambdas and new objects. -/
namespace Cc
open PySem PySem.Spec PyProof.Rows L2 LamX
theorem z0 : 0 ≤ sizeLine := by decide
theorem z1 : 1 ≤ sizeLine := by decide
theorem z2 : 2 ≤ sizeLine := by decide
theorem z3 : 3 ≤ sizeLine := by decide
theorem z4 : 4 ≤ sizeLine := by decide
theorem z5 : 5 ≤ sizeLine := by decide
theorem z6 : 6 ≤ sizeLine := by decide
theorem z7 : 7 ≤ sizeLine := by decide
theorem z8 : 8 ≤ sizeLine := by decide
theorem z9 : 9 ≤ sizeLine := by decide
theorem zN {n : Nat} (h : n ≤ 1000) : n ≤ sizeLine := Nat.le_of_lt (small1000 h)
section
variable {X : Cx} {es : List Expr} {t : TA} {pos : Pos}
/-- the argument list, what is wanted behind it made weaker -/
theorem PA.weak (h : PA X es t) : PA X es (fun σ H R => ∃ R' : List V → Hp → Prop, t σ H R' ∧ ∀ xs H1, R' xs H1 → R xs H1) :=
  ⟨fun pos pins s σ H Q I ⟨R', h1, h2⟩ => thn (h.run pos pins s σ H R' I h1) fun us s1 ⟨vs, H1, I1, r, q⟩ => ⟨vs, H1, I1, r, h2 _ _ q⟩⟩
def tTupN (t : TA) : TE := fun σ H Q => t σ H fun xs H1 => xs.length ≤ sizeLine ∧ ∀ p H2, H1 p = none → Same H1 H2 → H2 p = some (.tup xs) → Q (.ref p) H2
def tLstN (t : TA) : TE := fun σ H Q => t σ H fun xs H1 => xs.length ≤ sizeLine ∧ ∀ p H2, H1 p = none → Same H1 H2 → H2 p = some (.lst xs) → Q (.ref p) H2
theorem pe_tupN {x1} (h : PA X es t) : PE X (.Tuple es x1 pos) (tTupN t) :=
  ⟨fun pins s σ H Q I hq => (pe_tup (PA.weak h)).run pins s σ H Q I ⟨_, hq, fun _ _ ⟨z, q⟩ => ⟨z, fun p np => q p _ np (same_new np) upd_same⟩⟩⟩
theorem pe_lstN (h : PA X es t) : PE X (.List es pos) (tLstN t) :=
  ⟨fun pins s σ H Q I hq => (pe_lst (PA.weak h)).run pins s σ H Q I ⟨_, hq, fun _ _ ⟨z, q⟩ => ⟨z, fun p np => q p _ np (same_new np) upd_same⟩⟩⟩
def tDnN : TE := fun _ H Q => ∀ p H2, H p = none → Same H H2 → H2 p = some (.dK []) → Q (.ref p) H2
theorem pe_dnewN : PE X (.Dict [] [] pos) tDnN := ⟨fun pins s σ H Q I h => pe_dnewK.run pins s σ H Q I fun p np => h p _ np (same_new np) upd_same⟩
theorem OpR.mp {f : Value → Value → Sem Value} {r r' : R2} (h : OpR X f r) (m : ∀ x y H Q, r' x y H Q → r x y H Q) : OpR X f r' := fun pins s σ H x y v u Q I rx ry z => h pins s σ H x y v u Q I rx ry (m _ _ _ _ z)
theorem CallR.mp {f : Value} {r r' : List V → Hp → VK → Prop} (h : CallR X f r) (m : ∀ xs H Q, r' xs H Q → r xs H Q) : CallR X f r' := by
  intro pins s σ H xs us Q I r z
  exact h pins s σ H xs us Q I r (m _ _ _ z)
def rCatN : R2 := fun x y H Q => ∃ l b xs zs, x = .ref l ∧ y = .ref b ∧ H l = some (.lst xs) ∧ H b = some (.lst zs) ∧ xs.length + zs.length ≤ sizeLine ∧ ∀ p H', H p = none → Same H H' → H' p = some (.lst (xs ++ zs)) → Q (.ref p) H'
theorem op_catN : OpR X (binaryOp .Add) rCatN := OpR.mp op_cat fun _ _ _ _ ⟨l, b, xs, zs, h1, h2, h3, h4, h5, q⟩ => ⟨l, b, xs, zs, h1, h2, h3, h4, h5, fun p np => q p _ np (same_new np) upd_same⟩
def rCatTN (K : PySem.W.Frag) : R2 := fun x y H Q => ∃ a b xs ys, x = .ref a ∧ y = .ref b ∧ SqT K H a xs ∧ SqT K H b ys ∧ xs.length + ys.length ≤ sizeLine ∧ ∀ p H', Same H H' → SqT K H' p (xs ++ ys) → Q (.ref p) H'
theorem op_catTN {X : Cx} : OpR X (binaryOp .Add) (rCatTN X.K) := OpR.mp op_catA fun _ _ _ _ ⟨a, b, xs, ys, h1, h2, h3, h4, h5, q⟩ => ⟨a, b, xs, ys, h1, h2, h3, h4, h5, fun e => q b _ (Same.refl _) (by rw [e]; exact h4), fun _ e => q a _ (Same.refl _) (by rw [e, List.append_nil]; exact h3), fun _ _ p np => q p _ (same_new np) (SqT.of upd_same)⟩
def rSlAN (K : PySem.W.Frag) : V → Option Int → Option Int → Hp → VK → Prop := fun x lo hi H Q => ∃ a xs, x = .ref a ∧ SqT K H a xs ∧ ∀ p H', Same H H' → SqT K H' p (cutV xs lo hi) → Q (.ref p) H'
theorem sl_tupAN {X : Cx} : SlR X (rSlAN X.K) := by
  intro pins s σ H x v vl vu lo hi sl Q I rx hs pl pu z
  obtain ⟨a, xs, h1, h2, q⟩ := z
  refine sl_tupA pins s σ H x v vl vu lo hi sl Q I rx hs pl pu ⟨a, xs, h1, h2, fun e => q a _ (Same.refl _) ?_, fun _ p np => q p _ (same_new np) (SqT.of upd_same)⟩
  unfold cutV
  rw [e.1, e.2, List.drop_zero, Nat.sub_zero, List.take_length]
  exact h2
def rRepN : R2 := fun x y H Q => ∃ l k xs, x = .ref l ∧ y = .int k ∧ H l = some (.lst xs) ∧ -(2 ^ 63) ≤ k ∧ k < 2 ^ 63 ∧ xs.length * k.toNat ≤ sizeLine ∧ ∀ p H', H p = none → Same H H' → H' p = some (.lst (List.replicate k.toNat xs).flatten) → Q (.ref p) H'
theorem op_repN : OpR X (binaryOp .Mult) rRepN := OpR.mp op_rep fun _ _ _ _ ⟨l, k, xs, h1, h2, h3, h4, h5, h6, q⟩ => ⟨l, k, xs, h1, h2, h3, h4, h5, h6, fun p np => q p _ np (same_new np) upd_same⟩
def rSlLN (K : PySem.W.Frag) : V → Option Int → Option Int → Hp → VK → Prop := fun x lo hi H Q => ∃ a xs, x = .ref a ∧ SqL K H a xs ∧ ∀ p H', H p = none → Same H H' → H' p = some (.lst (cutV xs lo hi)) → Q (.ref p) H'
theorem sl_listN : SlR X (rSlLN X.K) := by
  intro pins s σ H x v vl vu lo hi sl Q I rx hs pl pu z
  obtain ⟨a, xs, h1, h2, q⟩ := z
  refine sl_list pins s σ H x v vl vu lo hi sl Q I rx hs pl pu ⟨a, xs, h1, h2, fun p np => q p _ np (same_new np) upd_same⟩
def rListN (K : PySem.W.Frag) : List V → Hp → VK → Prop := fun xs H Q => ∃ p ys, xs = [.ref p] ∧ (SqL K H p ys ∨ SqT K H p ys) ∧ ∀ l H', H l = none → Same H H' → H' l = some (.lst ys) → Q (.ref l) H'
theorem call_listN : CallR X (.type "list") (rListN X.K) := CallR.mp call_list_of fun _ _ _ ⟨p, ys, h1, h2, q⟩ => ⟨p, ys, h1, h2, fun l nl => q l _ nl (same_new nl) upd_same⟩
def rTupleN (K : PySem.W.Frag) : List V → Hp → VK → Prop := fun xs H Q => ∃ p ys, xs = [.ref p] ∧ (SqL K H p ys ∨ SqT K H p ys) ∧ ∀ l H', Same H H' → SqT K H' l ys → Q (.ref l) H'
theorem call_tupleN {X : Cx} : CallR X (.type "tuple") (rTupleN X.K) := CallR.mp call_tuple_of fun _ _ _ ⟨p, ys, h1, h2, q⟩ => ⟨p, ys, h1, h2.elim (fun h => .inl ⟨h, fun l nl => q l _ (same_new nl) (SqT.of upd_same)⟩) (fun h => .inr ⟨h, q p _ (Same.refl _) h⟩)⟩
end
/-! ### what stays -/
/-- all but what stands at b, and tables, is as it was -/
def Wk (b : Addr) (H H' : Hp) : Prop := ∀ a o, H a = some o → a ≠ b → (∀ ps, o ≠ .tbl ps) → H' a = some o
section
variable {b : Addr} {H H1 H' : Hp}
theorem Wk.refl : Wk b H H := fun _ _ h _ _ => h
theorem Wk.trans (x : Wk b H H1) (y : Wk b H1 H') : Wk b H H' := fun a o h n t => y a o (x a o h n t) n t
theorem wkS (e : Same H H') : Wk b H H' := fun a o h _ _ => e a o h
theorem wkK (e : Kp b H H') : Wk b H H' := fun a o h n _ => e a o h n
theorem wkE (e : ExtN H H') : Wk b H H' := fun a o h _ t => e a o h t
end
/-- P at H becomes P' at H' -/
class Up (b : Addr) (H H' : Hp) (P : Prop) (P' : outParam Prop) : Prop where
  up : Bag H b → Wk b H H' → P → P'
/-- it stays, come what may -/
def Stay (b : Addr) (F : Hp → Prop) (H : Hp) : Prop := ∀ H', Wk b H H' → F H'
theorem Stay.now {b : Addr} {F : Hp → Prop} {H : Hp} (h : Stay b F H) : F H := h H .refl
/-- a list that is not the bag's -/
def LB (b : Addr) (L : Addr) (xs : List V) (H : Hp) : Prop := H L = some (.lst xs) ∧ L ≠ b
theorem LB.l {K : PySem.W.Frag} {b L : Addr} {xs : List V} {H : Hp} (h : LB b L xs H) : SqL K H L xs := SqL.of h.1
section
variable {b : Addr} {K : PySem.W.Frag} {H H' : Hp}
instance {F : Hp → Prop} : Up b H H' (Stay b F H) (Stay b F H') := ⟨fun _ k h H2 k2 => h H2 (k.trans k2)⟩
instance {L : Addr} {xs : List V} : Up b H H' (LB b L xs H) (LB b L xs H') := ⟨fun _ k h => ⟨k _ _ h.1 h.2 (fun _ z => by cases z), h.2⟩⟩
instance {T : Addr} {xs : List V} : Up b H H' (H T = some (.tup xs)) (H' T = some (.tup xs)) := ⟨fun hB k h => by
  obtain ⟨ys, hb⟩ := hB.lst
  exact k _ _ h (ne_of h hb fun z => by cases z) fun _ z => by cases z⟩
instance {T : Addr} {xs : List (Key × V)} : Up b H H' (H T = some (.dK xs)) (H' T = some (.dK xs)) := ⟨fun hB k h => by
  obtain ⟨ys, hb⟩ := hB.lst
  exact k _ _ h (ne_of h hb fun z => by cases z) fun _ z => by cases z⟩
theorem up_SqT {T : Addr} {xs : List V} (hB : Bag H b) (k : Wk b H H') (h : SqT K H T xs) : SqT K H' T xs := by
  obtain ⟨ys, hb⟩ := hB.lst
  rcases h with (h | ⟨o, h⟩) | h
  · exact .inl (.inl (k _ _ h (ne_of h hb fun z => by cases z) fun _ z => by cases z))
  · exact .inl (.inr ⟨o, k _ _ h (ne_of h hb fun z => by cases z) fun _ z => by cases z⟩)
  · exact .inr h
instance {T : Addr} {xs : List V} : Up b H H' (SqT K H T xs) (SqT K H' T xs) := ⟨up_SqT⟩
theorem up_PtV {v : V} {q : Rat} (hB : Bag H b) (k : Wk b H H') (h : PtV K H v q) : PtV K H' v q := by
  obtain ⟨a, e, h⟩ := h
  exact ⟨a, e, up_SqT hB k h⟩
instance {v : V} {q : Rat} : Up b H H' (PtV K H v q) (PtV K H' v q) := ⟨up_PtV⟩
theorem up_BxV {v : V} {x : Bx} (hB : Bag H b) (k : Wk b H H') (h : BxV K H v x) : BxV K H' v x := by
  obtain ⟨a, v1, v2, v3, v4, e, h0, h1, h2, h3, h4⟩ := h
  exact ⟨a, v1, v2, v3, v4, e, up_SqT hB k h0, up_PtV hB k h1, up_PtV hB k h2, up_PtV hB k h3, up_PtV hB k h4⟩
instance {v : V} {x : Bx} : Up b H H' (BxV K H v x) (BxV K H' v x) := ⟨up_BxV⟩
end
theorem up {b : Addr} {H H' : Hp} (hB : Bag H b) (k : Wk b H H') {P P' : Prop} (h : P) [u : Up b H H' P P'] : P' := u.up hB k h
section
variable {b : Addr} {K : PySem.W.Frag} {H H' : Hp}
theorem stay {F : Hp → Prop} (hB : Bag H b) (h : F H) (u : ∀ H', Wk b H H' → F H → F H') : Stay b F H := fun H' k => u H' k h
theorem stay_BxV {v : V} {x : Bx} (hB : Bag H b) (h : BxV K H v x) : Stay b (fun H => BxV K H v x) H := fun _ k => up_BxV hB k h
theorem stay_LB {L : Addr} {xs : List V} (h : LB b L xs H) : Stay b (LB b L xs) H := fun _ k => ⟨k _ _ h.1 h.2 (fun _ z => by cases z), h.2⟩
/-- a write to what is not there at H -/
theorem Wk.put {H0 : Hp} {W : Addr} {o : HO} (k : Wk b H0 H) (n : H0 W = none) : Wk b H0 (upd H W o) := fun a u h nb t => by
  rw [upd_ne (fun z => by rw [z, n] at h; cases h)]
  exact k a u h nb t
theorem wk_none {H0 : Hp} {W : Addr} (k : Wk b H0 H) (n : H W = none) (hb : W ≠ b) (ht : ∀ ps, H0 W ≠ some (.tbl ps)) : H0 W = none := by
  cases e : H0 W with
  | none => rfl
  | some o =>
    rw [k _ _ e hb (fun ps z => ht ps (by rw [e, z]))] at n
    cases n
theorem bag_put {W : Addr} {z : Str} {r : List V} {o : HO} (h : Bag H b) (hW : H W = some (.lst (.str z :: r))) : Bag (upd H W o) b := by
  obtain ⟨c, ns, p, r', x, q, e1, e2, e3⟩ := h
  have n1 : W ≠ b := ne_of hW e1 fun e => by cases e
  have n2 : W ≠ c := ne_of hW e2 fun e => by
    cases ns with
    | nil => cases e
    | cons _ _ => cases e
  exact ⟨c, ns, p, r', x, q, by rw [upd_ne n1.symm]; exact e1, by rw [upd_ne n2.symm]; exact e2, e3⟩
end
/-! ### asking -/
section
variable {b : Addr} {K : PySem.W.Frag} {mg : Str → Option Value} {T : List (Addr × Str)} {tl : XK → Hp → VK → Prop} {H : Hp} {Q : VK}
theorem why_w (hB : Bag H b) (hT : Tabs T H) (h : ∀ G, Wk b H G → Bag G b → Tabs T G → tl (fun cls d H' => ∃ z, Thrown K mg z cls d H' ∧ ∀ G', Same H' G' → Q (.str z) G') G fun v H' => ∀ G', Same H' G' → Q (.str "") G') : Tabs T H ∧ ∀ G1, ExtN H G1 → Tabs T G1 → tWhy K mg tl G1 Q :=
  ⟨hT, fun _ e t => why_step fun _ s => h _ ((wkE e).trans (wkS s)) ((hB.ext e).same s) (t.ext s)⟩
theorem ask_w (hB : Bag H b) (hT : Tabs T H) (h : ∀ G, Wk b H G → Bag G b → Tabs T G → tl (fun cls d H' => ∃ z, Thrown K mg z cls d H' ∧ ∀ p, H' p = none → Q (.ref p) (upd H' p (.tup [.non, .str z]))) G fun v H' => ∀ p, H' p = none → Q (.ref p) (upd H' p (.tup [v, .str ""]))) : Tabs T H ∧ ∀ G1, ExtN H G1 → Tabs T G1 → tAsk K mg tl G1 Q :=
  ⟨hT, fun _ e t => ask_step fun _ s => h _ ((wkE e).trans (wkS s)) ((hB.ext e).same s) (t.ext s)⟩
/-- asking, the word known ahead -/
theorem why_d {z : Str} (hB : Bag H b) (hT : Tabs T H) (h : ∀ G, Wk b H G → Bag G b → Tabs T G → ∀ E R, (∀ cls dd H', Thrown K mg z cls dd H' → Same G H' → E cls dd H') → (∀ v H', z = "" → Same G H' → R v H') → tl E G R) (q : ∀ G, Wk b H G → Bag G b → Tabs T G → Q (.str z) G) : Tabs T H ∧ ∀ G1, ExtN H G1 → Tabs T G1 → tWhy K mg tl G1 Q :=
  why_w hB hT fun G k b' t' => h G k b' t' _ _ (fun _ _ _ th s => ⟨z, th, fun _ s' => q _ (k.trans (wkS (s.trans s'))) (b'.same (s.trans s')) (t'.ext (s.trans s'))⟩) (fun _ _ e s _ s' => by
    subst e
    exact q _ (k.trans (wkS (s.trans s'))) (b'.same (s.trans s')) (t'.ext (s.trans s')))
end
/-! ### anything, but not the bag -/
/-- any thing, none of its lists is the bag -/
abbrev AnyB (b : Addr) (K : PySem.W.Frag) (v : V) (d : PyData) : Hp → Prop := Stay b (fun H => AnyV K H v d)
abbrev AllB (b : Addr) (K : PySem.W.Frag) (us : List V) (ds : List PyData) : Hp → Prop := Stay b (fun H => AnyAll K H us ds)
section
variable {b : Addr} {K : PySem.W.Frag} {H : Hp} {v : V} {d : PyData} {us : List V} {ds : List PyData} {a : Addr}
theorem anyB_int {i : Int} : AnyB b K (.int i) (.int i) H := fun _ _ => .int i
theorem anyB_bl {c : Bool} : AnyB b K (.bl c) (.bool c) H := fun _ _ => .bl c
theorem anyB_str {x : Str} : AnyB b K (.str x) (.str x) H := fun _ _ => .str x
theorem anyB_non : AnyB b K .non .none H := fun _ _ => .non
theorem allB_nil : AllB b K [] [] H := fun _ _ => .nil
theorem allB_cons (h : AnyB b K v d H) (k : AllB b K us ds H) : AllB b K (v :: us) (d :: ds) H := fun H' w => .cons (h H' w) (k H' w)
theorem anyB_tup (hB : Bag H b) (h : SqT K H a us) (k : AllB b K us ds H) : AnyB b K (.ref a) (.tuple ds) H := fun H' w => .tup (up_SqT hB w h) (k H' w)
theorem anyB_lst (h : LB b a us H) (k : AllB b K us ds H) : AnyB b K (.ref a) (.list ds) H := fun H' w => .lst (SqL.of (w _ _ h.1 h.2 fun _ z => by cases z)) (k H' w)
theorem anyB_dic (hB : Bag H b) (h : H a = some (.dK [])) : AnyB b K (.ref a) (.dict []) H := fun H' w => .dic (by
  obtain ⟨ys, hb⟩ := hB.lst
  exact w _ _ h (ne_of h hb fun z => by cases z) fun _ z => by cases z)
theorem anyB_part {q : Rat} (hB : Bag H b) (h : PtV K H v q) : AnyB b K v (dPart q) H := fun _ w => .of (up_PtV hB w h).dp
end
end Cc
set_option maxHeartbeats 4000000
/-! XTxt: texts as lists of signs; parts written and read. -/
namespace Cc
open PySem PySem.Spec PyProof.Rows L2
/-- the text of such signs -/
def tS (l : List Nat) : Str := ⟨l.toArray⟩
theorem tS_cps (l : List Nat) : (tS l).cps.toList = l := rfl
theorem tS_len (l : List Nat) : (tS l).length = l.length := by
  show l.toArray.size = _
  exact List.size_toArray
theorem tS_of (x : Str) : tS x.cps.toList = x := by
  cases x
  rfl
theorem tS_eq {x : Str} {l : List Nat} (h : x.cps.toList = l) : x = tS l := by rw [← h, tS_of]
theorem tS_app (l m : List Nat) : tS l ++ tS m = tS (l ++ m) := by
  show Str.mk (l.toArray ++ m.toArray) = Str.mk (l ++ m).toArray
  rw [List.append_toArray]
theorem tS_inj {l m : List Nat} (h : tS l = tS m) : l = m := by
  have := congrArg (fun x : Str => x.cps.toList) h
  exact this
/-! ### figures -/
def dig (m : Nat) : List Nat := (Nat.toDigits 10 m).map Char.toNat
theorem dig_all (m : Nat) : NumText.AllDigits (dig m) := fun c hc => by
  obtain ⟨ch, hch, e⟩ := List.mem_map.mp hc
  rw [← e]
  exact digit_range (Nat.isDigit_of_mem_toDigits (by decide) (by decide) hch)
theorem dig_ne (m : Nat) : dig m ≠ [] := fun e => by
  have h := PySem.W.KIN.val_back m
  have e : (Nat.toDigits 10 m).map Char.toNat = [] := e
  have h2 := toDigits_len_ge 10 m
  rw [List.map_eq_nil_iff.mp e] at h2
  exact absurd h2 (by decide)
theorem dig_val (m : Nat) : NumText.digitsVal (dig m) = m := PySem.W.KIN.val_back m
theorem num_txt (m : Nat) : Str.ofString (toString ((m : Nat) : Int)) = tS (dig m) := tS_eq (PySem.W.KIN.signs_num m)
theorem dig_len {m k : Nat} (hk : 0 < k) (h : m < 10 ^ k) : (dig m).length ≤ k := by
  have z := toString_length_le (v := (m : Int)) (by omega) hk (by exact_mod_cast h)
  rw [num_txt, tS_len] at z
  exact z
/-- the signs of an int -/
def icps (i : Int) : List Nat := if i < 0 then 45 :: dig i.natAbs else dig i.natAbs
theorem minus_app (s : String) : Str.ofString ("-" ++ s) = tS (45 :: (Str.ofString s).cps.toList) := by
  refine tS_eq ?_
  rw [signs_ofString, signs_ofString, String.toList_append, List.map_append]
  rfl
theorem int_txt (i : Int) : Str.ofString (toString i) = tS (icps i) := by
  unfold icps
  by_cases h : i < 0
  · rw [if_pos h, toString_neg h, minus_app, show (0 : Int) - i = ((i.natAbs : Nat) : Int) by omega, num_txt]
    rfl
  · rw [if_neg h]
    have e : i = ((i.natAbs : Nat) : Int) := by omega
    rw [e, num_txt]
    rfl
/-- the signs of a part -/
def pcps (q : Rat) : List Nat := icps q.num ++ (if q.den = 1 then [] else 47 :: dig q.den)
/-! ### what texts' methods give -/
def stripM : List Nat → List Nat
  | 45 :: r => r
  | l => l
theorem rem_cons (r : List Nat) : Txt.affix (tS (45 :: r)) (some (1, (tS (45 :: r)).length)) = tS r := by
  unfold Txt.affix
  dsimp only
  rw [tS_len, if_neg (by simp), strSub_mk, tS_cps]
  refine tS_eq ?_
  show ((r.take ((45 :: r).length - 1)).toArray).toList = r
  simp
theorem rem_txt (l : List Nat) : Txt.removeprefix (tS l) (Str.ofString "-") = tS (stripM l) := by
  unfold Txt.removeprefix
  rw [StrLaws.subAt_eq, tS_cps, List.drop_zero, show (Str.ofString "-").length = 1 by decide +kernel, show (Str.ofString "-").cps.toList = [45] by decide +kernel]
  match l with
  | [] => rfl
  | 45 :: r =>
    exact rem_cons r
  | c :: r =>
    by_cases h : c = 45
    · subst h
      exact rem_cons r
    · have e : (List.take 1 (c :: r) == [45]) = false := by simp [h]
      rw [e]
      have e2 : stripM (c :: r) = c :: r := by
        unfold stripM
        split
        · rename_i z
          cases z
          exact absurd rfl h
        · rfl
      rw [e2]
      rfl
theorem starts_txt (l : List Nat) : Txt.startswith (tS l) (Str.ofString "-") = decide (l.head? = some 45) := by
  unfold Txt.startswith
  rw [StrLaws.subAt_eq, tS_cps, List.drop_zero, show (Str.ofString "-").length = 1 by decide +kernel, show (Str.ofString "-").cps.toList = [45] by decide +kernel, tS_len]
  cases l with
  | nil => rfl
  | cons c r => 
    by_cases h : c = 45
    · subst h; simp
    · simp [h]
/-- ahead of the first stroke -/
def headP (l : List Nat) : List Nat := l.takeWhile (· != 47)
def markP (l : List Nat) : List Nat := if 47 ∈ l then [47] else []
def tailP (l : List Nat) : List Nat := l.drop ((headP l).length + 1)
theorem head_at : ∀ {l : List Nat} {i : Nat}, l[i]? = some 47 → (∀ k, k < i → l[k]? ≠ some 47) → headP l = l.take i
  | [], i, h, _ => by simp at h
  | c :: r, 0, h, _ => by
    cases h
    rfl
  | c :: r, i + 1, h, hk => by
    have hc : c ≠ 47 := fun z => hk 0 (Nat.zero_lt_succ i) (by rw [z]; rfl)
    have ih := head_at (l := r) (i := i) h fun k hki => hk (k + 1) (by omega)
    unfold headP at ih ⊢
    rw [List.takeWhile_cons, if_pos (by simpa using hc), ih]
    rfl
theorem head_none : ∀ {l : List Nat}, 47 ∉ l → headP l = l
  | [], _ => rfl
  | c :: r, h => by
    have hc : c ≠ 47 := fun z => h (by rw [z]; exact List.mem_cons_self)
    have ih := head_none (l := r) fun z => h (List.mem_cons_of_mem _ z)
    unfold headP at ih ⊢
    rw [List.takeWhile_cons, if_pos (by simpa using hc), ih]
theorem part_txt (l : List Nat) : Txt.partition (tS l) (Str.ofString "/") = (tS (headP l), tS (markP l), tS (tailP l)) := by
  have hl1 : (Str.ofString "/").length = 1 := by decide +kernel
  have hl2 : Str.ofString "/" = tS [47] := by decide +kernel
  have at_iff : ∀ i, StrLaws.At (tS l) (Str.ofString "/") (tS l).length i ↔ l[i]? = some 47 := fun i => by
    unfold StrLaws.At
    rw [StrLaws.subAt_eq, hl1, tS_cps, tS_len, hl2, tS_cps]
    constructor
    · rintro ⟨h1, h2⟩
      have h2 := beq_iff_eq.mp h2
      rw [List.drop_eq_getElem_cons (by omega : i < l.length)] at h2
      simp only [List.take_succ_cons, List.take_zero, List.cons.injEq, and_true] at h2
      rw [List.getElem?_eq_getElem (by omega), h2]
    · intro h
      obtain ⟨h1, h2⟩ := List.getElem?_eq_some_iff.mp h
      refine ⟨by omega, ?_⟩
      rw [List.drop_eq_getElem_cons h1, h2]
      rfl
  unfold Txt.partition
  rcases StrLaws.occ_head (tS l) (Str.ofString "/") 1 (Nat.le_refl 1) with ⟨h0, hn⟩ | ⟨i, r, h0, hi, hn⟩
  · rw [h0]
    have no : 47 ∉ l := fun z => by
      obtain ⟨i, hi⟩ := List.getElem?_of_mem z
      exact hn i ((at_iff i).mpr hi)
    show (tS l, Str.empty, Str.empty) = _
    rw [head_none no, show markP l = [] from if_neg no]
    unfold tailP
    rw [head_none no, List.drop_eq_nil_of_le (by omega)]
    rfl
  · rw [h0]
    have hi := (at_iff i).mp hi
    have hh := head_at hi fun k hk z => hn k hk ((at_iff k).mpr z)
    obtain ⟨lt, _⟩ := List.getElem?_eq_some_iff.mp hi
    show (Builtin.Str.strSub (tS l) 0 i, Str.ofString "/", Builtin.Str.strSub (tS l) (i + (Str.ofString "/").length) (tS l).length) = _
    rw [hh, show markP l = [47] from if_pos (List.mem_of_getElem? hi), hl2]
    unfold tailP
    rw [hh, List.length_take, Nat.min_eq_left (by omega), strSub_mk, strSub_mk, tS_cps, show (tS [47]).length = 1 by decide +kernel, tS_len]
    refine Prod.ext ?_ (Prod.ext rfl ?_)
    · show tS _ = tS _
      rw [List.drop_zero, Nat.sub_zero]
    · show tS _ = tS _
      rw [List.take_of_length_le (by rw [List.length_drop]; exact Nat.le_refl _)]
/-- so many figures, and one -/
def figs (l : List Nat) : Bool := decide (l ≠ [] ∧ l.length ≤ 200) && l.all fun c => decide (48 ≤ c ∧ c ≤ 57)
theorem uni_digit : ∀ c, c < 128 → Unicode.isDigit c = decide (48 ≤ c ∧ c ≤ 57) := by decide +kernel
theorem digit_txt {l : List Nat} (h : ∀ c ∈ l, c < 128) : Txt.isdigit (tS l) = (decide (l ≠ []) && l.all fun c => decide (48 ≤ c ∧ c ≤ 57)) := by
  unfold Txt.isdigit
  rw [tS_len]
  congr 1
  · cases l <;> simp
  · show l.toArray.all Unicode.isDigit = _
    rw [List.all_toArray]
    induction l with
    | nil => rfl
    | cons c r ih => rw [List.all_cons, List.all_cons, uni_digit c (h c List.mem_cons_self), ih fun x hx => h x (List.mem_cons_of_mem _ hx)]
theorem ascii_txt {l : List Nat} (h : ∀ c ∈ l, c < 128) : Txt.isascii (tS l) = true := by
  unfold Txt.isascii
  show l.toArray.all (· < 128) = true
  rw [List.all_toArray]
  exact List.all_eq_true.mpr fun c hc => decide_eq_true (h c hc)
theorem int_of_txt {l : List Nat} (h : figs l = true) : PySem.intText? (tS l) = some ((NumText.digitsVal l : Nat) : Int) := by
  unfold figs at h
  rw [Bool.and_eq_true, decide_eq_true_eq] at h
  obtain ⟨⟨h1, h2⟩, h3⟩ := h
  exact PySem.intText_digits (x := tS l) (fun c hc => of_decide_eq_true (List.all_eq_true.mp h3 c hc)) h1 (by rw [tS_len]; omega)
theorem allDig_no {l : List Nat} (h : NumText.AllDigits l) {c : Nat} (hc : c < 48 ∨ 57 < c) : c ∉ l := fun z => by
  have := h c z
  omega
theorem dig_figs {m : Nat} (h : m < 10 ^ 200) : figs (dig m) = true := by
  unfold figs
  rw [Bool.and_eq_true, decide_eq_true_eq]
  exact ⟨⟨dig_ne m, dig_len (by decide) h⟩, List.all_eq_true.mpr fun c hc => decide_eq_true (dig_all m c hc)⟩
theorem icps_low (i : Int) : ∀ c ∈ icps i, c < 128 := fun c hc => by
  unfold icps at hc
  split at hc
  · rcases List.mem_cons.mp hc with rfl | hc
    · decide
    · have := dig_all _ c hc
      omega
  · have := dig_all _ c hc
    omega
theorem pcps_low (q : Rat) : ∀ c ∈ pcps q, c < 128 := fun c hc => by
  unfold pcps at hc
  rcases List.mem_append.mp hc with hc | hc
  · exact icps_low _ c hc
  · split at hc
    · cases hc
    · rcases List.mem_cons.mp hc with rfl | hc
      · decide
      · have := dig_all _ c hc
        omega
/-- the figures of both numbers are not too many -/
def FigOk (q : Rat) : Prop := q.num.natAbs < 10 ^ 200 ∧ q.den < 10 ^ 200
theorem icps_len {i : Int} {k : Nat} (hk : 0 < k) (h : i.natAbs < 10 ^ k) : (icps i).length ≤ k + 1 := by
  have := dig_len hk h
  unfold icps
  split
  · rw [List.length_cons]; omega
  · omega
theorem pcps_len {q : Rat} (h : FigOk q) : (pcps q).length ≤ 402 := by
  have h1 := icps_len (k := 200) (by decide) h.1
  have h2 := dig_len (k := 200) (by decide) h.2
  unfold pcps
  rw [List.length_append]
  split
  · rw [List.length_nil]; omega
  · rw [List.length_cons]; omega
/-- what is read of such signs -/
def belowP (l : List Nat) : List Nat := if 47 ∈ l then tailP l else [49]
def partD (l : List Nat) : Rat :=
  let x := Rat.divInt (NumText.digitsVal (headP (stripM l)) : Nat) (NumText.digitsVal (belowP (stripM l)) : Nat)
  if l.head? = some 45 then 0 - x else x
def readD (l : List Nat) : Option Rat :=
  if (figs (headP (stripM l)) && (figs (belowP (stripM l)) && !decide (NumText.digitsVal (belowP (stripM l)) = 0))) = true then (if pcps (partD l) = l then some (partD l) else none) else none
theorem strip_no {l : List Nat} (h : l.head? ≠ some 45) : stripM l = l := by
  unfold stripM
  split
  · exact absurd rfl h
  · rfl
theorem strip_sub {l : List Nat} : ∀ c ∈ stripM l, c ∈ l := fun c hc => by
  unfold stripM at hc
  split at hc
  · exact List.mem_cons_of_mem _ hc
  · exact hc
theorem strip_len (l : List Nat) : (stripM l).length ≤ l.length := by
  unfold stripM
  split
  · rw [List.length_cons]; omega
  · exact Nat.le_refl _
theorem dig_head (m : Nat) (r : List Nat) : (dig m ++ r).head? ≠ some 45 := fun h => by
  cases e : dig m with
  | nil => exact dig_ne m e
  | cons c s =>
    rw [e] at h
    have h : some c = some 45 := h
    have := dig_all m c (by rw [e]; exact List.mem_cons_self)
    cases h
    omega
theorem head_stroke {a b : List Nat} (h : 47 ∉ a) : headP (a ++ 47 :: b) = a ∧ tailP (a ++ 47 :: b) = b ∧ 47 ∈ a ++ 47 :: b := by
  have e : headP (a ++ 47 :: b) = a := by
    induction a with
    | nil => rfl
    | cons c r ih =>
      have hc : c ≠ 47 := fun z => h (by rw [z]; exact List.mem_cons_self)
      have ih := ih fun z => h (List.mem_cons_of_mem _ z)
      unfold headP at ih ⊢
      rw [List.cons_append, List.takeWhile_cons, if_pos (by simpa using hc), ih]
  refine ⟨e, ?_, List.mem_append_right _ List.mem_cons_self⟩
  unfold tailP
  rw [e, ← List.drop_drop, List.drop_left]
  rfl
theorem read_abs {m : Nat} {q : Rat} (h : m < 10 ^ 200) (hd : q.den < 10 ^ 200) : figs (headP (dig m ++ (if q.den = 1 then [] else 47 :: dig q.den))) = true ∧ figs (belowP (dig m ++ (if q.den = 1 then [] else 47 :: dig q.den))) = true ∧
    NumText.digitsVal (headP (dig m ++ (if q.den = 1 then [] else 47 :: dig q.den))) = m ∧ NumText.digitsVal (belowP (dig m ++ (if q.den = 1 then [] else 47 :: dig q.den))) = q.den := by
  have no := allDig_no (dig_all m) (c := 47) (.inl (by decide))
  by_cases c : q.den = 1
  · rw [if_pos c, List.append_nil, head_none no]
    unfold belowP
    rw [if_neg no, c]
    exact ⟨dig_figs h, by decide, dig_val m, by decide⟩
  · obtain ⟨h1, h2, h3⟩ := head_stroke (b := dig q.den) no
    rw [if_neg c, h1]
    unfold belowP
    rw [if_pos h3, h2]
    exact ⟨dig_figs h, dig_figs hd, dig_val m, dig_val _⟩
theorem read_back {q : Rat} (h : FigOk q) : readD (pcps q) = some q := by
  have hd := q.den_pos
  have key : ∃ m : Nat, m < 10 ^ 200 ∧ stripM (pcps q) = dig m ++ (if q.den = 1 then [] else 47 :: dig q.den) ∧ (if (pcps q).head? = some 45 then 0 - Rat.divInt (m : Nat) (q.den : Nat) else Rat.divInt (m : Nat) (q.den : Nat)) = q := by
    refine ⟨q.num.natAbs, h.1, ?_⟩
    unfold pcps icps
    by_cases c : q.num < 0
    · rw [if_pos c]
      refine ⟨rfl, ?_⟩
      rw [show ((45 :: dig q.num.natAbs ++ (if q.den = 1 then [] else 47 :: dig q.den)).head? = some 45) from rfl, if_pos rfl]
      have e : Rat.divInt ((q.num.natAbs : Nat) : Int) ((q.den : Nat) : Int) = -q := by
        rw [show ((q.num.natAbs : Nat) : Int) = -q.num by omega, Rat.divInt_eq_div]
        have := Rat.num_divInt_den q
        rw [Rat.divInt_eq_div] at this
        grind
      rw [e]
      grind
    · rw [if_neg c, if_neg (dig_head _ _), strip_no (dig_head _ _)]
      refine ⟨rfl, ?_⟩
      rw [show ((q.num.natAbs : Nat) : Int) = q.num by omega]
      exact Rat.num_divInt_den q
  obtain ⟨m, hm, h1, h2⟩ := key
  obtain ⟨f1, f2, f3, f4⟩ := read_abs hm h.2
  have e : partD (pcps q) = q := by
    unfold partD
    rw [h1, f3, f4]
    exact h2
  unfold readD
  rw [h1, f1, f2, f4, decide_eq_false (by omega), if_pos (by rfl), e, if_pos rfl]
theorem emp_app (x : Str) : Str.empty ++ x = x := by
  cases x with
  | mk a =>
    show Str.mk (#[] ++ a) = Str.mk a
    rw [Array.empty_append]
theorem fig_div {a b : Nat} (ha : a < 10 ^ 200) (hb : b < 10 ^ 200) (h0 : b ≠ 0) : FigOk (Rat.divInt (a : Int) (b : Int)) := by
  obtain ⟨e1, e2⟩ := divInt_num_eq (a := (a : Int)) (c := (b : Int)) (by omega)
  have g0 : 0 < Int.gcd (a : Int) (b : Int) := Int.gcd_pos_of_ne_zero_right _ (by omega)
  refine ⟨?_, ?_⟩
  · rw [e1]
    have := Int.natAbs_ediv_le_natAbs (a : Int) ((Int.gcd (a : Int) (b : Int) : Nat) : Int)
    rw [Int.natAbs_natCast] at this
    omega
  · have := Int.natAbs_ediv_le_natAbs (b : Int) ((Int.gcd (a : Int) (b : Int) : Nat) : Int)
    rw [← e2, Int.natAbs_natCast, Int.natAbs_natCast] at this
    omega
theorem fig_neg {q : Rat} (h : FigOk q) : FigOk (0 - q) := by
  have e : 0 - q = -q := by grind
  rw [e]
  exact ⟨by rw [Rat.neg_num, Int.natAbs_neg]; exact h.1, by rw [Rat.neg_den]; exact h.2⟩
theorem fig_sz {q : Rat} (h : FigOk q) : Sz 700 q := ⟨Nat.lt_of_lt_of_le h.1 (by decide +kernel), Nat.lt_of_lt_of_le h.2 (by decide +kernel)⟩
theorem low_txt {l : List Nat} (h : ∀ c ∈ l, c < 128) : dle 6 (.str (tS l)) = true := by
  have e : PyData.strOk (tS l) = true := by
    unfold PyData.strOk
    rw [← Array.all_toList]
    exact List.all_eq_true.mpr fun c hc => decide_eq_true (by have := h c hc; omega)
  show (PyData.strOk (tS l) && decide (PyData.depth (.str (tS l)) ≤ 64)) = true
  rw [e]
  rfl
/-! ### promises -/
@[irreducible] def spPText (K : PySem.W.Frag) : Sp := fun vs H Q _ => ∃ (v : V) (q : Rat), vs = [v] ∧ PtV K H v q ∧ FigOk q ∧ ∀ r, r = V.str (tS (pcps q)) → Q r H
@[irreducible] def spFigs : Sp := fun vs H Q _ => ∃ l : List Nat, vs = [.str (tS l)] ∧ (∀ c ∈ l, c < 128) ∧ l.length ≤ 1000 ∧ ∀ r, r = V.bl (figs l) → Q r H
@[irreducible] def spRead (K : PySem.W.Frag) : Sp := fun vs H Q _ => ∃ (l : List Nat) (q : Rat), vs = [.str (tS l)] ∧ (∀ c ∈ l, c < 128) ∧ l.length ≤ 1000 ∧ readD l = some q ∧ ∀ v H', Same H H' → PtV K H' v q → Q v H'
section
variable {K : PySem.W.Frag} {H : Hp} {Q : VK} {E : XK} {vs : List V} {v : V} {q : Rat} {l : List Nat}
theorem ptext_step (hv : PtV K H v q) (hq : FigOk q) (h : Q (.str (tS (pcps q))) H) (hvs : vs = [v] := by rfl) : spPText K vs H Q E := by
  unfold spPText
  exact ⟨v, q, hvs, hv, hq, fun r e => by rw [e]; exact h⟩
theorem figs_step (hl : ∀ c ∈ l, c < 128) (hn : l.length ≤ 1000) (h : Q (.bl (figs l)) H) (hvs : vs = [.str (tS l)] := by rfl) : spFigs vs H Q E := by
  unfold spFigs
  exact ⟨l, hvs, hl, hn, fun r e => by rw [e]; exact h⟩
theorem read_step (hl : ∀ c ∈ l, c < 128) (hn : l.length ≤ 1000) (hr : readD l = some q) (h : ∀ v H', Same H H' → PtV K H' v q → Q v H') (hvs : vs = [.str (tS l)] := by rfl) : spRead K vs H Q E := by
  unfold spRead
  exact ⟨l, q, hvs, hl, hn, hr, h⟩
end
theorem val_lt : ∀ {l : List Nat}, NumText.AllDigits l → NumText.digitsVal l < 10 ^ l.length := by
  intro l h
  have go : ∀ (l : List Nat) (a k : Nat), NumText.AllDigits l → a < 10 ^ k → l.foldl (fun acc c => acc * 10 + (c - 48)) a < 10 ^ (k + l.length) := fun l => by
    induction l with
    | nil => intro a k _ h; exact h
    | cons c r ih =>
      intro a k hd h
      rw [List.foldl_cons, List.length_cons]
      have hc := hd.head
      have := ih (a * 10 + (c - 48)) (k + 1) hd.tail (by rw [Nat.pow_succ]; omega)
      rw [show k + (r.length + 1) = k + 1 + r.length by omega]
      exact this
  have := go l 0 0 h (by decide)
  rw [Nat.zero_add] at this
  exact this
theorem figs_inv {l : List Nat} (h : figs l = true) : l ≠ [] ∧ l.length ≤ 200 ∧ NumText.AllDigits l := by
  unfold figs at h
  rw [Bool.and_eq_true, decide_eq_true_eq] at h
  exact ⟨h.1.1, h.1.2, fun c hc => of_decide_eq_true (List.all_eq_true.mp h.2 c hc)⟩
theorem figs_lt {l : List Nat} (h : figs l = true) : NumText.digitsVal l < 10 ^ 200 := by
  obtain ⟨_, h2, h3⟩ := figs_inv h
  exact Nat.lt_of_lt_of_le (val_lt h3) (Nat.pow_le_pow_right (by decide) h2)
theorem read_inv {l : List Nat} {q : Rat} (h : readD l = some q) : figs (headP (stripM l)) = true ∧ figs (belowP (stripM l)) = true ∧ NumText.digitsVal (belowP (stripM l)) ≠ 0 ∧ partD l = q ∧ pcps q = l := by
  unfold readD at h
  split at h
  · rename_i c
    rw [Bool.and_eq_true, Bool.and_eq_true, Bool.not_eq_true', decide_eq_false_iff_not] at c
    split at h
    · rename_i e
      cases h
      exact ⟨c.1, c.2.1, c.2.2, rfl, e⟩
    · cases h
  · cases h
theorem txt_log {i : Int} (h : i.natAbs < 10 ^ 200) : i.natAbs.log2 < 1920 := by
  have h : i.natAbs < 2 ^ 1900 := Nat.lt_of_lt_of_le h (by decide +kernel)
  by_cases c : i.natAbs = 0
  · rw [c]; decide
  · exact Nat.lt_of_lt_of_le ((Nat.log2_lt c).mpr h) (by decide)
end Cc
namespace L2
open PySem PySem.Spec PyProof.Rows
/-- a text so many times -/
theorem op_repS {X : Cx} : OpR X (binaryOp .Mult) (fun x y H Q => ∃ (z : Str) (k : Int), x = .str z ∧ y = .int k ∧ 2 ≤ k ∧ k ≤ 1000 ∧ 1 ≤ z.length ∧ z.length * k.toNat ≤ 1000 ∧ (⟨(List.replicate k.toNat z.cps).foldl (· ++ ·) #[]⟩ : Str).length ≤ sizeLine ∧ Q (.str ⟨(List.replicate k.toNat z.cps).foldl (· ++ ·) #[]⟩) H) := by
  intro pins s σ H x y v u Q I rx ry h
  obtain ⟨z, k, rfl, rfl, h1, h2, h3, h4, h5, q⟩ := h
  obtain ⟨t, rfl⟩ := rx
  obtain ⟨t', rfl⟩ := ry
  have n1 : ¬ k < 1 := by omega
  have n2 : ¬ (k == 1 || z.length == 0) = true := by
    simp
    omega
  refine PySem.P.mul_str ?_ (fun _ _ => ?_) (fun _ _ => ?_) ?_
  · rw [decide_eq_false (by omega), decide_eq_false (by omega)]
    rfl
  · have : (2 ^ 63 - 1) / k ≥ 1000 := by
      rw [ge_iff_le, Int.le_ediv_iff_mul_le (by omega)]
      omega
    have : z.length ≤ z.length * k.toNat := Nat.le_mul_of_pos_right _ (by omega)
    omega
  · exact decide_eq_false (by have := small1000 h4; omega)
  · rw [if_neg n1, if_neg n2]
    exact ⟨h5, .str _, H, I.tok _, ⟨_, rfl⟩, q⟩
end L2
set_option maxHeartbeats 4000000
/-! XCfn: a plain function of a class called by the class (C.f(e, ..)); refusals with a field of their own over CutError. -/
namespace L2
open PySem PySem.Spec PyProof.Rows
section
variable {X : Cx} {CX : CXT} {k : Nat} {C g : Addr} {fd : FuncData} {ps : List Str} {mc : Value} {sp : Sp} {E : XK} {e : Expr} {es : List Expr} {x f : Str} {p pos apos : Pos} {t : TA} {pl : Sem Bool}
/-- x.f(e, ..), x a global class, f a plain function read off it -/
theorem pe_cfun (hg : Gl X x) (hm : X.mg x = some (.ref C)) (r : ClX.CRead X.K C mc) (v : ClX.CVal X.K C mc f (.ref g) (.ref g)) (F : FnOk X.prog X.w X.K X.mg X.base CX k g fd ps sp) (hr : Room k X.A) (hk : PySem.W.keepIn X.K (.ref g) = true)
    (hb : Binds X.K fd ps []) (hx : Passes CX X E) (ha : PA X (e :: es) t) (hdb : (x == ("__debug__" : Str)) = false := by decide) (he : starEach (e :: es) X.env = (false, eval e X.env) :: starEach es X.env := by rfl) (hpl : (backTo pos (starEach es X.env)).any (·.1) = false := by rfl)
    (ht : eval (.Call (.Attribute (.Name x p) f apos) (e :: es) [] pos) X.env = (do
      let ov ← eval (.Name x p) X.env
      standAt apos.atName
      let (f, first) ← holding [ov] (getMethod ov f pl)
      callWith pos f first (backTo pos (starEach (e :: es) X.env)) (backToKw pos (keywordEach [] X.env))) := by rfl) :
    PE X (.Call (.Attribute (.Name x p) f apos) (e :: es) [] pos) (tCall sp [] E t) := by
  refine ⟨fun pins s σ H Q I h => ?_⟩
  refine PySem.W.methodCall_KW (pl := pl) (ld_glob I hg hm ?_ hdb) ht
  refine PySem.W.method_cls I.kIn r.ga (ClX.getcval_ok I r v fun s2 I2 => ?_)
  exact PySem.W.callWith_K (h₀ := X.base) I2.ok.mod.kin hk (thn (ha.run pos pins s2 σ H _ I2 h) fun us s1 ⟨vs, H1, I1, rv, q⟩ => ⟨I1.kIn, run_fn F hr hb .nil hx I1 rv q⟩) he hpl
end
end L2
namespace Cc
open PySem PySem.Spec PyProof.Rows L2 LamX
/-- thrown: a refusal of class x, its field f holding y -/
def ThrownF (K : PySem.W.Frag) (mg : Str → Option Value) (x f : Str) (y : V) (cls : Value) (d : Option Addr) (H : Hp) : Prop :=
  ∃ (C dd : Addr), cls = .ref C ∧ mg x = some (.ref C) ∧ XfC K C ∧ PySem.W.findIn K (.ref C) "called" = some none ∧ PySem.W.findIn K (.ref C) f = some none ∧ PySem.W.exmOne K (.ref C) (.ref C) = some true ∧ Taken K mg cls ∧ d = some dd ∧ H dd = some (.xd [(f, y), ("called", .str x)])
def ThrF (K : PySem.W.Frag) (mg : Str → Option Value) (x f : Str) (y : V) (H : Hp) (E : XK) : Prop := ∀ cls d H', ThrownF K mg x f y cls d H' → Same H H' → E cls d H'
theorem ThrF.later {K : PySem.W.Frag} {mg : Str → Option Value} {x f : Str} {y : V} {H H1 : Hp} {E : XK} (t : ThrF K mg x f y H E) (s : Same H H1) : ThrF K mg x f y H1 E := fun cls d H' h s' => t cls d H' h (s.trans s')
theorem ThrownF.thrown {K : PySem.W.Frag} {mg : Str → Option Value} {x f : Str} {y : V} {cls : Value} {d : Option Addr} {H : Hp} (hf : (("called" : Str) == f) = false) (h : ThrownF K mg x f y cls d H) : Thrown K mg x cls d H := by
  obtain ⟨C, dd, rfl, _, xf, no, _, _, tk, rfl, e⟩ := h
  refine ⟨C, dd, _, rfl, xf, no, rfl, e, ?_, tk⟩
  rw [List.lookup_cons, hf]
  rfl
structure ExcTxtF (K : PySem.W.Frag) (mg : Str → Option Value) (x f : Str) (C fI : Addr) : Prop where
  ox : OexC K C
  nm : NmC K C x
  no1 : PySem.W.findIn K (.ref C) "called" = some none
  no2 : PySem.W.findIn K (.ref C) f = some none
  iC : PySem.W.findIn K (.ref C) "__init__" = some (some (.ref fI))
  tI : PySem.W.typeIn K (.ref fI) = some (.type "function")
  mgC : mg x = some (.ref C)
  ex : PySem.W.exmOne K (.ref C) (.ref C) = some true
  tk : Taken K mg (.ref C)
/-- CutError itself, its __init__ read off it -/
structure CutC (K : PySem.W.Frag) (mg : Str → Option Value) (CC fB : Addr) : Prop where
  mgC : mg "CutError" = some (.ref CC)
  rd : ClX.CRead K CC (.type "type")
  va : ClX.CVal K CC (.type "type") "__init__" (.ref fB) (.ref fB)
  kp : PySem.W.keepIn K (.ref fB) = true
/-- the form of CutError.__init__(self) at its place -/
def CutCall (X : Cx) (p1 p2 p3 p4 : Pos) : Prop := Gl X "CutError" ∧ ∃ pl : Sem Bool, eval (.Call (.Attribute (.Name "CutError" p1) "__init__" p2) [.Name "self" p3] [] p4) X.env = (do
  let ov ← eval (.Name "CutError" p1) X.env
  standAt p2.atName
  let (f, first) ← holding [ov] (getMethod ov "__init__" pl)
  callWith p4 f first (backTo p4 (starEach [.Name "self" p3] X.env)) (backToKw p4 (keywordEach [] X.env)))
def spInitF (K : PySem.W.Frag) (f : Str) : Sp := fun vs H Q _ => ∃ (a C : Addr) (z : Str) (y : V), vs = [.ref a, y] ∧ H a = some (exo a C none) ∧ NmC K C z ∧ OexC K C ∧ PySem.W.findIn K (.ref C) "called" = some none ∧ PySem.W.findIn K (.ref C) f = some none ∧
  ∀ d, H d = none → d ≠ a → Q .non (upd (upd (upd H d (exd d [("called", .str z)])) a (exo a C (some d))) d (exd d [(f, y), ("called", .str z)]))
section
variable {P : Program} {w : World} {K : PySem.W.Frag} {mg : Str → Option Value} {base : Heap}
/-- def __init__(self, f): CutError.__init__(self); self.f = f -/
theorem ok_initF {g fB CC : Addr} {f : Str} {fd fdB : FuncData} {qual : Str} {st : Stmt} {p1 p2 p3 p4 p5 q1 q2 q3 q4 : Pos} (F : Fun K "__init__" qual st g fd) (Z : CutC K mg CC fB) (B : FnOk P w K mg base CX0 1 fB fdB ["self"] (spOwnInit K)) (hB : Binds K fdB ["self"] [])
    (S : FnScope ["self", f] ["self", f] (defScope st)) (hcut : ∀ cdv A outer s H E, CutCall (cxOf CX0 P w K mg base ["self", f] qual (defScope st) g cdv A outer s H E).nox p1 p2 p3 p4)
    (hb : defBody st = [.Expr (.Call (.Attribute (.Name "CutError" p1) "__init__" p2) [.Name "self" p3] [] p4) p5, .Assign [.Attribute (.Name "self" q1) f q2] (.Name f q3) q4]) (hf1 : (f == ("__debug__" : Str)) = false) (hf2 : (f == ("__classdict__" : Str)) = false) :
    FnOk P w K mg base CX0 2 g fd ["self", f] (spInitF K f) := by
  refine F.ok S (fun vs H Q E h => ?_) (fun cdv A outer s H vs Q E hr h => ?_)
  · obtain ⟨a, C, z, y, rfl, _⟩ := h
    rfl
  · obtain ⟨a, C, z, y, rfl, ha, hn, ho, no1, no2, q⟩ := h
    rw [hb]
    have vis : Vis (defScope st) "self" := (S.par "self" List.mem_cons_self).elim .inl fun z => .inr (.inl z)
    have vis2 : Vis (defScope st) f := (S.par f (List.mem_cons_of_mem _ List.mem_cons_self)).elim .inl fun z => .inr (.inl z)
    obtain ⟨hg, pl, ht⟩ := hcut cdv A outer s H E
    refine ⟨_, pss_cons (ps_expr (pe_cfun (pl := pl) (E := fun _ _ _ => False) hg Z.mgC Z.rd Z.va B hr Z.kp hB (fun _ _ _ _ _ _ _ z => z.elim) (pa_cons (pe_var (i := 0) rfl vis) pa_nil) (by decide) rfl rfl ht)) (pss_one (ps_ost (pe_var (i := 0) rfl vis) (pe_var (i := 1) rfl vis2 hf1 hf2))), ?_⟩
    refine ⟨_, rfl, a, C, z, rfl, ha, hn, ho, no1, fun d hd hne => ?_⟩
    refine ⟨_, rfl, _, rfl, a, C, rfl, ho, no2, .inr ⟨d, [("called", .str z)], upd_same, by rw [upd_ne hne, upd_same], (show 1 ≤ 900 by decide), ?_⟩⟩
    exact q d hd hne
def ExcOkF (P : Program) (w : World) (K : PySem.W.Frag) (mg : Str → Option Value) (base : Heap) (x f : Str) : Prop := ∃ C fI fd, ExcTxtF K mg x f C fI ∧ FnOk P w K mg base CX0 2 fI fd ["self", f] (spInitF K f) ∧ Binds K fd ["self", f] []
/-- raise C(e) -/
def tExcF (K : PySem.W.Frag) (mg : Str → Option Value) (x f : Str) (ta : TA) : L2.St → Hp → XK → Prop := fun σ H Q => ta σ H fun vs H1 => ∃ y, vs = [y] ∧ ThrF K mg x f y H1 Q
/-- a reading of arguments, closed upwards -/
def upAF (ta : TA) : TA := fun σ H R => ∃ G, ta σ H G ∧ ∀ vs H1, G vs H1 → R vs H1
theorem paUpF {X : Cx} {es : List Expr} {ta : TA} (h : PA X es ta) : PA X es (upAF ta) := ⟨fun pos pins s σ H Q I ⟨G, g, m⟩ => thn (h.run pos pins s σ H G I g) fun us s1 ⟨vs, H1, I1, r1, z⟩ => ⟨vs, H1, I1, r1, m _ _ z⟩⟩
theorem pmk_f {X : Cx} {x f : Str} {e : Expr} {ta : TA} {p pos : Pos} (Z : ExcOkF X.prog X.w X.K X.mg X.base x f) (hr : Room 3 X.A) (hg : Gl X x) (ha : PA X [e] ta) (hdb : (x == ("__debug__" : Str)) = false := by decide)
    (he : starEach [e] X.env = (false, eval e X.env) :: starEach [] X.env := by rfl) : PMk X (.Call (.Name x p) [e] [] pos) (tExcF X.K X.mg x f ta) := by
  obtain ⟨C, fI, fd, T, F, hb⟩ := Z
  intro pins s σ H Q I h
  refine pmk_oex (CX := CX0) (dvs := []) (ds := []) T.ox T.iC T.tI F hr hb .nil (fun _ _ _ _ _ _ _ z => z.elim) hg T.mgC (paUpF ha) hdb he rfl pins s σ H Q I ⟨_, h, fun vs H1 ⟨y, ev, th⟩ => ?_⟩
  subst ev
  refine ⟨(show 1 ≤ 1000 by decide), fun a na => ⟨a, C, x, y, rfl, upd_same, T.nm, T.ox, T.no1, T.no2, fun d nd hne => ⟨rfl, d, [(f, y), ("called", .str x)], ?_, upd_same, ?_, ?_⟩⟩⟩
  · rw [upd_ne hne.symm, upd_same]
  · rw [upd_ne hne] at nd
    exact nd
  · rw [upd_ne hne] at nd
    refine th _ _ _ ⟨C, d, rfl, T.mgC, nmC_xf T.nm, T.no1, T.no2, T.ex, T.tk, rfl, upd_same⟩ fun b o e => ?_
    have b1 := ne_of_none e na
    have b2 := ne_of_none e nd
    rw [upd_ne b2, del_ne b1, upd_ne b2, upd_ne b1, upd_ne b2, upd_ne b1]
    exact e
/-! ### the classes as the top has left them -/
def ExcAtF (K : PySem.W.Frag) (mg : Str → Option Value) (x f qual : Str) (st st0 : Stmt) : Prop := ∃ C fI fd CC fB fdB, ExcTxtF K mg x f C fI ∧ Fun K "__init__" qual st fI fd ∧ Binds K fd ["self", f] [] ∧ CutC K mg CC fB ∧ Fun K "__init__" "CutError.__init__" st0 fB fdB ∧ Binds K fdB ["self"] []
theorem ExcAtF.ok {x f qual : Str} {st st0 : Stmt} {p1 p2 p3 p4 p5 q1 q2 q3 q4 r1 r2 r3 r4 r5 r6 : Pos} (Z : ExcAtF K mg x f qual st st0) (S : FnScope ["self", f] ["self", f] (defScope st)) (S0 : FnScope ["self"] ["self"] (defScope st0))
    (hb0 : defBody st0 = [.Assign [.Attribute (.Name "self" r1) "called" r2] (.Attribute (.Attribute (.Name "self" r3) "__class__" r4) "__name__" r5) r6])
    (hb : defBody st = [.Expr (.Call (.Attribute (.Name "CutError" p1) "__init__" p2) [.Name "self" p3] [] p4) p5, .Assign [.Attribute (.Name "self" q1) f q2] (.Name f q3) q4])
    (hcut : ∀ g cdv A outer s H E, CutCall (cxOf CX0 P w K mg base ["self", f] qual (defScope st) g cdv A outer s H E).nox p1 p2 p3 p4) (hf1 : (f == ("__debug__" : Str)) = false) (hf2 : (f == ("__classdict__" : Str)) = false) : ExcOkF P w K mg base x f := by
  obtain ⟨C, fI, fd, CC, fB, fdB, T, F, b, Zc, F0, b0⟩ := Z
  exact ⟨C, fI, fd, T, ok_initF F Zc (ok_ownInit F0 S0 hb0) b0 S (hcut fI) hb hf1 hf2, b⟩
theorem excAtF_mk {h : Heap} {x f qual : Str} {st st0 : Stmt} (X : K.In h) (G : h.Ns mainGlobals mg) {C fI N CC fB : Addr} {nm q : Str} {bs bm sub : List Value} {sn : List Str} {ab : Bool} {col : Option Bool} {dd : Option Addr} {k0 k1 k3 k5 : Option Value} {tk : Tok}
    {oc oc0 : Value} {od an od0 an0 : Option Addr} {sl sl0 : Array (Option Value)} {kV doc pm cdv ct kV0 doc0 pm0 cdv0 ct0 : Value}
    (a : PySem.W.nsIn K mainGlobals x = some (some (.ref C))) (l : K.lookup C = some (excClassObj nm q C N bs bm true sn sub ab col dd k0 k1 (some (.str x tk)) k3 k5 "ValueError.__new__")) (b : PySem.HandSPX.refsVE bm = true)
    (sa : PySem.W.findIn K (.ref C) "__setattr__" = some (some (.builtin "object.__setattr__"))) (ex : PySem.W.subIn K (.ref C) (.type "BaseException") = some true) (ty : PySem.W.typeIn K (.ref C) = some (.type "type")) (kc : PySem.W.keepIn K (.ref C) = true)
    (g1 : PySem.W.findIn K (.ref C) "__getattribute__" = some (some (.builtin "BaseException.__getattribute__"))) (g2 : PySem.W.findIn K (.ref C) "__getattr__" = some none) (hd : PySem.W.hasDictIn K C = true)
    (c5 : PySem.W.findIn K (.ref C) "__class__" = some (some (.builtin "object.__class__"))) (c6 : PySem.W.specialIn K (.builtin "object.__class__") "__get__" = some (some (.builtin "getset_descriptor.__get__"))) (c7 : PySem.W.takesIn K (.builtin "object.__class__") = some true) (c8 : PySem.W.mroIn K C (.type "object") = some true)
    (n1 : PySem.W.nsIn K cStatics "thirdparty.any" = some none) (n3 : PySem.W.findCls K (.ref C) (.type "type") "__name__" = some (.get (.builtin "getset_descriptor.__get__") (.builtin "type.__name__") (.ref C) (.type "type")))
    (no1 : PySem.W.findIn K (.ref C) "called" = some none) (no2 : PySem.W.findIn K (.ref C) f = some none) (iC : PySem.W.findIn K (.ref C) "__init__" = some (some (.ref fI))) (tI : PySem.W.typeIn K (.ref fI) = some (.type "function"))
    (lI : K.lookup fI = some ⟨oc, od, .func (PySem.W.fnOf "__init__" qual (defArgs st) (defBody st) (defScope st) .none kV doc pm an cdv ct), sl⟩) (cI : PySem.W.codeIn K cdv qual = true) (kI : PySem.W.keepIn K (.ref fI) = true)
    (eC : PySem.W.nsIn K mainGlobals "CutError" = some (some (.ref CC))) (t : PySem.W.exmOne K (.ref C) (.ref CC) = some true) (tx : PySem.W.exmOne K (.ref C) (.ref C) = some true)
    (r1 : PySem.W.readsIn K CC (.type "type") = true) (r2 : PySem.W.specialIn K (.ref CC) "__getattribute__" = some (some (.builtin "type.__getattribute__"))) (va : PySem.W.findCls K (.ref CC) (.type "type") "__init__" = some (.val (.ref fB)))
    (lB : K.lookup fB = some ⟨oc0, od0, .func (PySem.W.fnOf "__init__" "CutError.__init__" (defArgs st0) (defBody st0) (defScope st0) .none kV0 doc0 pm0 an0 cdv0 ct0), sl0⟩) (cB : PySem.W.codeIn K cdv0 "CutError.__init__" = true) (kB : PySem.W.keepIn K (.ref fB) = true)
    (hb : ∀ (kV doc pm : Value) (an : Option Addr) (cdv ct : Value) (us : List Value), us.length = 2 → bindArgs (PySem.W.fnOf "__init__" qual (defArgs st) (defBody st) (defScope st) .none kV doc pm an cdv ct) ⟨us, []⟩ = pure ((["self", f] : List Str).zip us))
    (hb0 : ∀ (kV doc pm : Value) (an : Option Addr) (cdv ct : Value) (us : List Value), us.length = 1 → bindArgs (PySem.W.fnOf "__init__" "CutError.__init__" (defArgs st0) (defBody st0) (defScope st0) .none kV doc pm an cdv ct) ⟨us, []⟩ = pure ((["self"] : List Str).zip us)) : ExcAtF K mg x f qual st st0 :=
  ⟨C, fI, _, CC, fB, _, ⟨⟨⟨nm, q, N, bs, bm, sn, sub, ab, col, dd, k0, k1, _, k3, k5, l, b⟩, sa, ex, ty, kc⟩, ⟨g1, g2, ex, hd, c5, c6, c7, c8, n1, ty, n3, ⟨_, tk, l, rfl⟩⟩, no1, no2, iC, tI, PySem.W.mg_of X G a, tx, .inl ⟨_, PySem.W.mg_of X G eC, t⟩⟩, fun_mk lI cI kI, (fun_mk lI cI kI).binds hb,
    ⟨PySem.W.mg_of X G eC, ⟨r1, r2⟩, ⟨va, rfl⟩, kB⟩, fun_mk lB cB kB, (fun_mk lB cB kB).binds hb0⟩
end
section
variable {X : Cx} {k j : Nat} {x : Str} {ps : List Str} {sp : Sp} {p pos : Pos} {e : Expr} {es : List Expr} {t : TA} {W : WX}
/-- a call of a def that raises, in a suite that is tried -/
theorem pe_callW (D : DefOkX X.prog X.w X.K X.mg X.base k x ps sp) (hr : Room j X.A) (hkj : k ≤ j) (tk : Takes X W) (hg : Gl X x) (ha : PA X (e :: es) t) (hdb : (x == ("__debug__" : Str)) = false := by decide)
    (he : starEach (e :: es) X.env = (false, eval e X.env) :: starEach es X.env := by rfl) (hpl : (backTo pos (starEach es X.env)).any (·.1) = false := by rfl) :
    PE X (.Call (.Name x p) (e :: es) [] pos) (tCallS sp (WE W) t) := by
  obtain ⟨f, fd, F, hm, hk, hb⟩ := D
  exact pe_callS F (hr.mono hkj) hg hm hk hb (passAt tk) ha hdb he hpl
end
end Cc
set_option maxHeartbeats 4000000
/-! XRead: texts that are no part; signs of a text; what is read. -/
namespace L2
open PySem PySem.Spec PyProof.Rows
/-- one sign in a text -/
def rInG : V → V → Hp → VK → Prop := fun x y H Q => ∃ (c : Nat) (z : Str), x = .str ⟨#[c]⟩ ∧ y = .str z ∧ Q (.bl (decide (c ∈ z.cps.toList))) H
theorem op_inG {X : Cx} : OpR X (compareOp .In) rInG := op_in_sign
/-- list(text) -/
theorem call_listS {X : Cx} (hc : X.calm = true) : CallR X (.type "list") (fun xs H Q => ∃ x : Str, xs = [.str x] ∧ x.length ≤ sizeLine ∧ ∀ p, H p = none → Q (.ref p) (upd H p (.lst (x.cps.toList.map fun c => V.str ⟨#[c]⟩)))) := by
  intro pins s σ H xs us Q I r h
  obtain ⟨x, rfl, hz, q⟩ := h
  obtain ⟨u, rfl, t, rfl⟩ := vals1 r
  refine call_list_str (I.ok.hd hc) x t (fun h' tk acc c' hk hS hacc => ?_) (hn := hz)
  have e : (x.cps.toList.map fun c => V.str ⟨#[c]⟩) = (List.range acc.toList.length).map fun i => V.str ⟨#[x.cps.toList.getD i 0]⟩ := by
    refine List.ext_getElem ?_ fun i h1 h2 => ?_
    · rw [List.length_map, List.length_map, List.length_range, Array.length_toList, Array.length_toList, hacc.1]
    · rw [List.length_map] at h1
      rw [List.getElem_map, List.getElem_map, List.getElem_range, List.getD_eq_getElem?_getD, List.getElem?_eq_getElem h1]
      rfl
  have hv : Vals (x.cps.toList.map fun c => V.str ⟨#[c]⟩) acc.toList := by
    rw [e]
    refine vals_of_get acc.toList (fun i => V.str ⟨#[x.cps.toList.getD i 0]⟩) fun j v hj => ?_
    obtain ⟨c, u, hx, rfl⟩ := hacc.2 j v (by rw [← Array.getElem?_toList]; exact hj)
    refine ⟨u, ?_⟩
    rw [← Array.getElem?_toList] at hx
    rw [List.getD_eq_getElem?_getD, hx]
    rfl
  refine ⟨.ref s.heap.objs.size, _, I.laid (t' := tk) hk (Nat.le_refl _) (show ObjOk X.prog X.w _ h' _ (.lst (x.cps.toList.map fun c => V.str ⟨#[c]⟩)) from ⟨?_, acc.toList, c', hv, by rw [Array.toArray_toList]; exact hS⟩), rfl, q _ (I.hok.fresh (Nat.le_refl _))⟩
  rw [List.length_map, Array.length_toList]
  exact hz
end L2
namespace Cc
open PySem PySem.Spec PyProof.Rows L2
theorem tcut_lo {l : List Nat} {k : Nat} (h : k ≤ l.length) : cutS (tS l) (some (k : Int)) none = tS (l.drop k) := by
  unfold cutS
  rw [tS_cps, tS_len, HT.sIx_nat, Nat.min_eq_left h]
  show tS ((l.drop k).take (l.length - k)) = _
  rw [List.take_of_length_le (by rw [List.length_drop]; exact Nat.le_refl _)]
theorem tcut_hi {l : List Nat} {k : Nat} (h : k ≤ l.length) : cutS (tS l) none (some (k : Int)) = tS (l.take k) := by
  unfold cutS
  rw [tS_cps, tS_len, HT.sIx_nat, Nat.min_eq_left h]
  show tS ((l.drop 0).take (k - 0)) = _
  rw [List.drop_zero, Nat.sub_zero]
theorem tcut_any (l : List Nat) (a b : Option Int) : ∃ m, cutS (tS l) a b = tS m ∧ m.Sublist l := ⟨_, rfl, (List.take_sublist _ _).trans (List.drop_sublist _ _)⟩
theorem tcut_one (l : List Nat) : cutS (tS l) none (some 1) = tS (l.take 1) := by
  unfold cutS
  rw [tS_cps, tS_len, show (1 : Int) = ((1 : Nat) : Int) from rfl, HT.sIx_nat]
  show tS ((l.drop 0).take (min 1 l.length - 0)) = _
  rw [List.drop_zero, Nat.sub_zero]
  cases l with
  | nil => rfl
  | cons c r => rw [Nat.min_eq_left (by simp)]
theorem tcut_from (l : List Nat) (k : Nat) : ∃ m, cutS (tS l) (some (k : Int)) none = tS m ∧ m.Sublist l ∧ m.length = l.length - k := by
  refine ⟨_, rfl, (List.take_sublist _ _).trans (List.drop_sublist _ _), ?_⟩
  rw [tS_cps, tS_len, HT.sIx_nat, List.length_take, List.length_drop]
  show min (l.length - min k l.length) (l.length - min k l.length) = _
  omega
theorem tcut_to (l : List Nat) (k : Nat) : ∃ m, cutS (tS l) none (some (k : Int)) = tS m ∧ m.Sublist l ∧ m.length ≤ k := by
  refine ⟨_, rfl, (List.take_sublist _ _).trans (List.drop_sublist _ _), ?_⟩
  rw [tS_cps, tS_len, HT.sIx_nat, List.length_take]
  omega
theorem tcut_mid (l : List Nat) (k : Nat) : ∃ m, cutS (tS l) (some (k : Int)) (some ((k : Int) + 1)) = tS m ∧ m.Sublist l ∧ m.length ≤ 1 := by
  refine ⟨_, rfl, (List.take_sublist _ _).trans (List.drop_sublist _ _), ?_⟩
  rw [tS_cps, tS_len, HT.sIx_nat, show (k : Int) + 1 = ((k + 1 : Nat) : Int) from rfl, HT.sIx_nat, List.length_take]
  omega
theorem signs_low {v : V} (h : v ∈ (Str.ofString " 0123456789-/:+,anest").cps.toList.map (fun c => V.str ⟨#[c]⟩) ++ [V.str "\n", V.str "A", V.str ".", V.str "_"]) : ∃ c, c < 128 ∧ v = .str (tS [c]) := by
  rcases List.mem_append.mp h with h | h
  · obtain ⟨c, hc, rfl⟩ := List.mem_map.mp h
    exact ⟨c, (show ∀ c ∈ (Str.ofString " 0123456789-/:+,anest").cps.toList, c < 128 by decide +kernel) c hc, rfl⟩
  · simp only [List.mem_cons, List.not_mem_nil, or_false] at h
    rcases h with rfl | rfl | rfl | rfl
    · exact ⟨10, by decide, congrArg V.str (show Str.ofString "\n" = tS [10] by decide +kernel)⟩
    · exact ⟨65, by decide, congrArg V.str (show Str.ofString "A" = tS [65] by decide +kernel)⟩
    · exact ⟨46, by decide, congrArg V.str (show Str.ofString "." = tS [46] by decide +kernel)⟩
    · exact ⟨95, by decide, congrArg V.str (show Str.ofString "_" = tS [95] by decide +kernel)⟩
theorem low_app {l m : List Nat} (h : ∀ c ∈ l, c < 128) (h' : ∀ c ∈ m, c < 128) : ∀ c ∈ l ++ m, c < 128 := fun c hc => (List.mem_append.mp hc).elim (h c) (h' c)
theorem low_sub {l m : List Nat} (h : ∀ c ∈ l, c < 128) (s : m.Sublist l) : ∀ c ∈ m, c < 128 := fun c hc => h c (s.subset hc)
theorem low_one {c : Nat} (h : c < 128) : ∀ x ∈ [c], x < 128 := fun x hx => by
  rcases List.mem_singleton.mp hx with rfl
  exact h
theorem one_eq (l : List Nat) : (V.str (tS (l.take 1)) = V.str (Str.ofString "-")) ↔ l.head? = some 45 := by
  have e : Str.ofString "-" = tS [45] := by decide +kernel
  rw [e]
  constructor
  · intro h
    have h := tS_inj (V.str.inj h)
    cases l with
    | nil => cases h
    | cons c r =>
      have h : [c] = [45] := h
      cases h
      rfl
  · intro h
    cases l with
    | nil => cases h
    | cons c r =>
      cases h
      rfl
theorem head_strip (l : List Nat) : headP (stripM l) = (if l.head? = some 45 then (headP l).drop 1 else headP l) ∧ belowP (stripM l) = belowP l ∧ (headP l).head? = (if l.head? = some 45 then some 45 else (headP l).head?) := by
  cases l with
  | nil => exact ⟨rfl, rfl, rfl⟩
  | cons c r =>
    by_cases h : c = 45
    · subst h
      have e : headP (45 :: r) = 45 :: headP r := rfl
      refine ⟨?_, ?_, ?_⟩
      · rw [if_pos (show (45 :: r).head? = some 45 from rfl), e]
        rfl
      · unfold belowP tailP
        rw [e]
        show (if 47 ∈ r then r.drop ((headP r).length + 1) else _) = if 47 ∈ 45 :: r then (45 :: r).drop ((45 :: headP r).length + 1) else _
        have i : (47 ∈ 45 :: r) ↔ 47 ∈ r := by simp
        by_cases c : 47 ∈ r
        · rw [if_pos c, if_pos (i.mpr c)]
          rfl
        · rw [if_neg c, if_neg (fun z => c (i.mp z))]
      · rw [e]
        rfl
    · have e : stripM (c :: r) = c :: r := strip_no (fun z => h (Option.some.inj z))
      have n : ¬ (c :: r).head? = some 45 := fun z => h (Option.some.inj z)
      rw [e, if_neg n, if_neg n]
      exact ⟨rfl, rfl, rfl⟩
theorem head_head {l : List Nat} : (headP l).head? = some 45 ↔ l.head? = some 45 := by
  cases l with
  | nil => exact Iff.rfl
  | cons c r =>
    by_cases h : c = 47
    · subst h
      have e : headP (47 :: r) = [] := rfl
      rw [e]
      constructor
      · intro z; cases z
      · intro z; cases z
    · have e : headP (c :: r) = c :: headP r := by
        unfold headP
        rw [List.takeWhile_cons, if_pos (by simpa using h)]
      rw [e]
      exact Iff.rfl
theorem read_no1 {l : List Nat} (h : figs (headP (stripM l)) = false) : readD l = none := by
  unfold readD
  rw [h]
  rfl
theorem read_no2 {l : List Nat} (h : figs (belowP (stripM l)) = false) : readD l = none := by
  unfold readD
  rw [h, Bool.false_and, Bool.and_false]
  rfl
theorem read_no3 {l : List Nat} (h : NumText.digitsVal (belowP (stripM l)) = 0) : readD l = none := by
  unfold readD
  rw [decide_eq_true h, Bool.not_true, Bool.and_false, Bool.and_false]
  rfl
theorem read_no4 {l : List Nat} (h : ¬ pcps (partD l) = l) : readD l = none := by
  unfold readD
  rw [if_neg h]
  split
  · rfl
  · rfl
theorem read_yes {l : List Nat} (f1 : figs (headP (stripM l)) = true) (f2 : figs (belowP (stripM l)) = true) (f3 : NumText.digitsVal (belowP (stripM l)) ≠ 0) (f5 : pcps (partD l) = l) : readD l = some (partD l) := by
  unfold readD
  rw [f1, f2, decide_eq_false f3, if_pos f5]
  rfl
theorem below_low {l : List Nat} (h : ∀ c ∈ l, c < 128) : ∀ c ∈ belowP l, c < 128 := fun c hc => by
  unfold belowP at hc
  split at hc
  · exact h c ((List.drop_sublist _ _).subset hc)
  · rcases List.mem_singleton.mp hc with rfl
    decide
theorem below_len {l : List Nat} {n : Nat} (h : l.length ≤ n) (h1 : 1 ≤ n := by omega) : (belowP l).length ≤ n := by
  unfold belowP
  split
  · exact Nat.le_trans (List.drop_sublist _ _).length_le h
  · exact h1
theorem dig_in (c : Nat) : decide (c ∈ (Str.ofString "0123456789").cps.toList) = decide (48 ≤ c ∧ c ≤ 57) := by
  rw [show (Str.ofString "0123456789").cps.toList = [48, 49, 50, 51, 52, 53, 54, 55, 56, 57] by decide +kernel]
  refine decide_eq_decide.mpr ⟨fun h => ?_, fun h => ?_⟩
  · simp only [List.mem_cons, List.not_mem_nil, or_false] at h
    omega
  · simp only [List.mem_cons, List.not_mem_nil, or_false]
    omega
def digB (w : List Nat) : List Bool := w.map fun c => decide (48 ≤ c ∧ c ≤ 57)
theorem digB_all (w : List Nat) : (digB w).all id = w.all fun c => decide (48 ≤ c ∧ c ≤ 57) := by
  unfold digB
  rw [List.all_map]
  rfl
/-- above, without its sign, by a slice -/
theorem above_cut (l : List Nat) : cutS (tS (headP l)) (some (if decide (V.str (tS ((headP l).take 1)) = V.str (Str.ofString "-")) = true then 1 else 0)) none = tS (headP (stripM l)) := by
  rw [(head_strip l).1]
  by_cases h : l.head? = some 45
  · rw [decide_eq_true ((one_eq _).mpr (head_head.mpr h)), if_pos rfl, if_pos h]
    have hl : 1 ≤ (headP l).length := by
      have := head_head.mpr h
      cases e : headP l with
      | nil => rw [e] at this; cases this
      | cons c r => rw [List.length_cons]; omega
    exact tcut_lo (k := 1) hl
  · rw [decide_eq_false (fun z => h (head_head.mp ((one_eq _).mp z))), if_neg (by decide), if_neg h]
    exact tcut_lo (k := 0) (Nat.zero_le _)
theorem sign_val (l : List Nat) : (if decide (V.str (tS ((headP l).take 1)) = V.str (Str.ofString "-")) = true then (1 : Int) else 0) = if l.head? = some 45 then 1 else 0 := by
  by_cases h : l.head? = some 45
  · rw [decide_eq_true ((one_eq _).mpr (head_head.mpr h)), if_pos rfl, if_pos h]
  · rw [decide_eq_false (fun z => h (head_head.mp ((one_eq _).mp z))), if_neg (by decide), if_neg h]
theorem part_val (l : List Nat) : Rat.divInt (((NumText.digitsVal (headP (stripM l)) : Nat) : Int) * (1 - 2 * (if l.head? = some 45 then 1 else 0))) ((NumText.digitsVal (belowP (stripM l)) : Nat) : Int) = partD l := by
  unfold partD
  by_cases h : l.head? = some 45
  · rw [if_pos h, if_pos h]
    simp only [Rat.divInt_eq_div]
    rw [show ((NumText.digitsVal (headP (stripM l)) : Nat) : Int) * (1 - 2 * 1) = -((NumText.digitsVal (headP (stripM l)) : Nat) : Int) by omega]
    rw [Rat.intCast_neg]
    grind
  · rw [if_neg h, if_neg h, Int.mul_zero, Int.sub_zero, Int.mul_one]
theorem ite_read {c : Prop} {i : Decidable c} {σ : L2.St} {j : Nat} {v w x : V} {F : VK} {H : Hp} (hv : σ[j]? = some (some v)) (h1 : c → v = x) (h2 : ¬ c → w = x) (h : F x H) : if (@decide c i) = true then tVar j σ H F else tC w σ H F := by
  by_cases hc : c
  · rw [if_pos (decide_eq_true hc)]
    exact ⟨v, hv, by rw [h1 hc]; exact h⟩
  · rw [if_neg (by rw [decide_eq_false hc]; decide)]
    show F w H
    rw [h2 hc]
    exact h
/-- a part or nothing -/
def OPt (K : PySem.W.Frag) (H : Hp) (v : V) : Option Rat → Prop
  | some q => PtV K H v q
  | none => v = .non
def dRd : Option Rat → PyData
  | some q => .tuple [dPart q, .none]
  | none => .tuple [.none, .int 0]
/-! ### promises -/
@[irreducible] def spReadX (K : PySem.W.Frag) (mg : Str → Option Value) : Sp := fun vs H Q E => ∃ l : List Nat, vs = [.str (tS l)] ∧ (∀ c ∈ l, c < 128) ∧ l.length ≤ 1000 ∧ (∀ q, readD l = some q → ∀ v H', Same H H' → PtV K H' v q → Q v H') ∧ (readD l = none → ThrF K mg "BadText" "at" (.int 0) H E)
@[irreducible] def spLRead (K : PySem.W.Frag) : Sp := fun vs H Q _ => ∃ l : List Nat, vs = [.str (tS l)] ∧ (∀ c ∈ l, c < 128) ∧ l.length ≤ 1000 ∧ ∀ v H', Same H H' → Dp K H' v (dRd (readD l)) → Q v H'
@[irreducible] def spPartIn (K : PySem.W.Frag) : Sp := fun vs H Q _ => ∃ l : List Nat, vs = [.str (tS l)] ∧ (∀ c ∈ l, c < 128) ∧ l.length ≤ 1000 ∧ ∀ v H', Same H H' → OPt K H' v (readD l) → Q v H'
@[irreducible] def spBentT : Sp := fun vs H Q _ => ∃ (b : Addr) (l : List Nat), vs = [.ref b, .str (tS l)] ∧ Bag H b ∧ (∀ c ∈ l, c < 128) ∧ l.length ≤ 500 ∧ ∀ l' H', (∀ c ∈ l', c < 128) → l'.length ≤ l.length + 1 → Bag H' b → Kp b H H' → Q (.str (tS l')) H'
section
variable {K : PySem.W.Frag} {mg : Str → Option Value} {H : Hp} {Q : VK} {E : XK} {vs : List V} {v : V} {q : Rat} {l : List Nat} {b : Addr}
theorem readx_step (hl : ∀ c ∈ l, c < 128) (hn : l.length ≤ 1000) (h : ∀ q, readD l = some q → ∀ v H', Same H H' → PtV K H' v q → Q v H') (hE : readD l = none → ThrF K mg "BadText" "at" (.int 0) H E) (hvs : vs = [.str (tS l)] := by rfl) : spReadX K mg vs H Q E := by
  unfold spReadX
  exact ⟨l, hvs, hl, hn, h, hE⟩
theorem lread_step (hl : ∀ c ∈ l, c < 128) (hn : l.length ≤ 1000) (h : ∀ v H', Same H H' → Dp K H' v (dRd (readD l)) → Q v H') (hvs : vs = [.str (tS l)] := by rfl) : spLRead K vs H Q E := by
  unfold spLRead
  exact ⟨l, hvs, hl, hn, h⟩
theorem partin_step (hl : ∀ c ∈ l, c < 128) (hn : l.length ≤ 1000) (h : ∀ v H', Same H H' → OPt K H' v (readD l) → Q v H') (hvs : vs = [.str (tS l)] := by rfl) : spPartIn K vs H Q E := by
  unfold spPartIn
  exact ⟨l, hvs, hl, hn, h⟩
theorem bentt_step (hB : Bag H b) (hl : ∀ c ∈ l, c < 128) (hn : l.length ≤ 500) (h : ∀ l' H', (∀ c ∈ l', c < 128) → l'.length ≤ l.length + 1 → Bag H' b → Kp b H H' → Q (.str (tS l')) H') (hvs : vs = [.ref b, .str (tS l)] := by rfl) : spBentT vs H Q E := by
  unfold spBentT
  exact ⟨b, l, hvs, hB, hl, hn, h⟩
end
end Cc
set_option exponentiation.threshold 10000
set_option maxHeartbeats 20000000
namespace Cc
open PySem PySem.Spec PyProof.Rows L2 LamX
local macro_rules | `(tactic| walk_at "sd") => `(tactic| first
  | exact cmul_r ⟨by decide, by decide⟩
  | exact cmul_l ⟨by decide, by decide⟩
  | exact cmul_l ⟨by omega, by omega⟩
  | exact cmul_w (by assumption) (by assumption) (by decide)
  | exact (show CPow 10 18 from ⟨by decide, by decide, by decide⟩)
  | exact (show (0 : Int) < 2147483629 by decide)
  | exact (show CDiv _ _ from ⟨by decide, by decide⟩)
  | exact (show CDiv _ _ from ⟨by assumption, by assumption⟩)
  | assumption)
local macro_rules | `(tactic| walk_at "rd") => `(tactic| first
  | refine ⟨_, rfl, ?_⟩
  | refine ⟨_, _, rfl, rfl, ?_⟩
  | (refine ⟨_, ?_, _, ?_, rfl, rfl, ?_, ?_, ?_⟩; rotate_left 2; (first | exact SqL.of (by assumption) | (show SqT _ _ _ _; assumption) | (show SqL _ _ _ _; assumption)); (first | exact rfl | assumption))
  | (refine ⟨_, ?_, rfl, ?_, ?_⟩; rotate_left 1; (first | exact .inl (SqL.of (by assumption)) | exact .inl (SqL.of upd_same)))
  | (refine And.intro ?_ ?_; (focus (walk_at "sd"))))
def top (i : Nat) : Stmt := PySem.Challenge.pw_calmcuts_k05_part_texts_refused.main.body.getD i (.Pass ⟨0, 0, 0, 0⟩)
abbrev s_part : Stmt := top 8
abbrev ps_part : List Str := ["above", "below"]
theorem sc_part : FnScope ["above", "below", "common"] ps_part (defScope s_part) := ⟨rfl, rfl, rfl, by decide +kernel, rfl, by decide +kernel, by decide +kernel⟩
abbrev s_minus : Stmt := top 9
abbrev ps_minus : List Str := ["one", "other"]
theorem sc_minus : FnScope ["one", "other"] ps_minus (defScope s_minus) := ⟨rfl, rfl, rfl, by decide +kernel, rfl, by decide +kernel, by decide +kernel⟩
abbrev s_part_text : Stmt := top 10
abbrev ps_part_text : List Str := ["one"]
theorem sc_part_text : FnScope ["one", "above", "below"] ps_part_text (defScope s_part_text) := ⟨rfl, rfl, rfl, by decide +kernel, rfl, by decide +kernel, by decide +kernel⟩
abbrev s_read_part : Stmt := top 11
abbrev ps_read_part : List Str := ["text"]
theorem sc_read_part : FnScope ["text", "above", "slash", "below", "found"] ps_read_part (defScope s_read_part) := ⟨rfl, rfl, rfl, by decide +kernel, rfl, by decide +kernel, by decide +kernel⟩
abbrev s__are_figures : Stmt := top 12
abbrev ps__are_figures : List Str := ["text"]
theorem sc__are_figures : FnScope ["text"] ps__are_figures (defScope s__are_figures) := ⟨rfl, rfl, rfl, by decide +kernel, rfl, by decide +kernel, by decide +kernel⟩
abbrev s__law_bag : Stmt := top 14
abbrev ps__law_bag : List Str := ["_law_script"]
theorem sc__law_bag : FnScope ["_law_script"] ps__law_bag (defScope s__law_bag) := ⟨rfl, rfl, rfl, by decide +kernel, rfl, by decide +kernel, by decide +kernel⟩
abbrev s__law_get : Stmt := top 15
abbrev ps__law_get : List Str := ["_law_bag_here", "_law_most"]
theorem sc__law_get : FnScope ["_law_bag_here", "_law_most", "_law_cell", "_law_got", "_law_before"] ps__law_get (defScope s__law_get) := ⟨rfl, rfl, rfl, by decide +kernel, rfl, by decide +kernel, by decide +kernel⟩
abbrev s__law_pick : Stmt := top 16
abbrev ps__law_pick : List Str := ["_law_bag_here", "_law_some"]
theorem sc__law_pick : FnScope ["_law_bag_here", "_law_some"] ps__law_pick (defScope s__law_pick) := ⟨rfl, rfl, rfl, by decide +kernel, rfl, by decide +kernel, by decide +kernel⟩
abbrev s__law_far : Stmt := top 17
abbrev ps__law_far : List Str := ["_law_bag_here", "_law_steps"]
theorem sc__law_far : FnScope ["_law_bag_here", "_law_steps", "_law_found", "_law_step"] ps__law_far (defScope s__law_far) := ⟨rfl, rfl, rfl, by decide +kernel, rfl, by decide +kernel, by decide +kernel⟩
abbrev s__law_same : Stmt := top 18
abbrev ps__law_same : List Str := ["_law_found", "_law_due"]
theorem sc__law_same : FnScope ["_law_found", "_law_due", "_law_key_now", "_law_one", "_law_other"] ps__law_same (defScope s__law_same) := ⟨rfl, rfl, rfl, by decide +kernel, rfl, by decide +kernel, by decide +kernel⟩
abbrev s__law_gcd : Stmt := top 19
abbrev ps__law_gcd : List Str := ["_law_one", "_law_other"]
theorem sc__law_gcd : FnScope ["_law_one", "_law_other"] ps__law_gcd (defScope s__law_gcd) := ⟨rfl, rfl, rfl, by decide +kernel, rfl, by decide +kernel, by decide +kernel⟩
abbrev s__law_part : Stmt := top 20
abbrev ps__law_part : List Str := ["_law_above", "_law_below"]
theorem sc__law_part : FnScope ["_law_above", "_law_below", "_law_by"] ps__law_part (defScope s__law_part) := ⟨rfl, rfl, rfl, by decide +kernel, rfl, by decide +kernel, by decide +kernel⟩
abbrev s__law_number : Stmt := top 21
abbrev ps__law_number : List Str := ["_law_bag_here"]
theorem sc__law_number : FnScope ["_law_bag_here", "_law_kind"] ps__law_number (defScope s__law_number) := ⟨rfl, rfl, rfl, by decide +kernel, rfl, by decide +kernel, by decide +kernel⟩
abbrev s__law_some_part : Stmt := top 22
abbrev ps__law_some_part : List Str := ["_law_bag_here"]
theorem sc__law_some_part : FnScope ["_law_bag_here", "_law_below"] ps__law_some_part (defScope s__law_some_part) := ⟨rfl, rfl, rfl, by decide +kernel, rfl, by decide +kernel, by decide +kernel⟩
abbrev s__law_text : Stmt := top 23
abbrev ps__law_text : List Str := ["_law_part_now"]
theorem sc__law_text : FnScope ["_law_part_now"] ps__law_text (defScope s__law_text) := ⟨rfl, rfl, rfl, by decide +kernel, rfl, by decide +kernel, by decide +kernel⟩
abbrev s__law_bent_text : Stmt := top 24
abbrev ps__law_bent_text : List Str := ["_law_bag_here", "_law_text_here"]
theorem sc__law_bent_text : FnScope ["_law_bag_here", "_law_text_here", "_law_at", "_law_kind", "_law_sign"] ps__law_bent_text (defScope s__law_bent_text) := ⟨rfl, rfl, rfl, by decide +kernel, rfl, by decide +kernel, by decide +kernel⟩
abbrev s__law_part_in : Stmt := top 25
abbrev ps__law_part_in : List Str := ["_law_text_here"]
theorem sc__law_part_in : FnScope ["_law_text_here", "_law_above", "_law_mark", "_law_below", "_law_figures", "_law_word", "_law_found", "_law_sign"] ps__law_part_in (defScope s__law_part_in) := ⟨rfl, rfl, rfl, by decide +kernel, rfl, by decide +kernel, by decide +kernel⟩
abbrev s__law_read : Stmt := top 26
abbrev ps__law_read : List Str := ["_law_text_here"]
theorem sc__law_read : FnScope ["_law_text_here", "_law_told", "_law_at", "e"] ps__law_read (defScope s__law_read) := ⟨rfl, rfl, rfl, by decide +kernel, rfl, by decide +kernel, by decide +kernel⟩
abbrev s_law : Stmt := top 27
abbrev ps_law : List Str := ["_law_script"]
theorem sc_law : FnScope ["_law_script", "_law_bag_here", "_law_turn", "_law_text_here", "_law_step", "_law_due", "_law_odd"] ps_law (defScope s_law) := ⟨rfl, rfl, rfl, by decide +kernel, rfl, by decide +kernel, by decide +kernel⟩
abbrev s_CutError_init : Stmt := inClass (top 2) 0
theorem sc_CutError_init : FnScope ["self"] ["self"] (defScope s_CutError_init) := ⟨rfl, rfl, rfl, by decide +kernel, rfl, by decide +kernel, by decide +kernel⟩
abbrev s_BadText_init : Stmt := inClass (top 4) 0
theorem sc_BadText_init : FnScope ["self", "at"] ["self", "at"] (defScope s_BadText_init) := ⟨rfl, rfl, rfl, by decide +kernel, rfl, by decide +kernel, by decide +kernel⟩
/-- all that the top has left -/
structure Tops (K : PySem.W.Frag) (mg : Str → Option Value) : Prop where
  d_part : DefAt K mg "part" s_part ps_part
  d_minus : DefAt K mg "minus" s_minus ps_minus
  d_part_text : DefAt K mg "part_text" s_part_text ps_part_text
  d_read_part : DefAt K mg "read_part" s_read_part ps_read_part
  d_are_figures : DefAt K mg "_are_figures" s__are_figures ps__are_figures
  d_law_bag : DefAt K mg "_law_bag" s__law_bag ps__law_bag
  d_law_get : DefAt K mg "_law_get" s__law_get ps__law_get
  d_law_pick : DefAt K mg "_law_pick" s__law_pick ps__law_pick
  d_law_far : DefAt K mg "_law_far" s__law_far ps__law_far
  d_law_same : DefAt K mg "_law_same" s__law_same ps__law_same
  d_law_gcd : DefAt K mg "_law_gcd" s__law_gcd ps__law_gcd
  d_law_part : DefAt K mg "_law_part" s__law_part ps__law_part
  d_law_number : DefAt K mg "_law_number" s__law_number ps__law_number
  d_law_some_part : DefAt K mg "_law_some_part" s__law_some_part ps__law_some_part
  d_law_text : DefAt K mg "_law_text" s__law_text ps__law_text
  d_law_bent_text : DefAt K mg "_law_bent_text" s__law_bent_text ps__law_bent_text
  d_law_part_in : DefAt K mg "_law_part_in" s__law_part_in ps__law_part_in
  d_law_read : DefAt K mg "_law_read" s__law_read ps__law_read
  x_BadText : ExcAtF K mg "BadText" "at" "BadText.__init__" s_BadText_init s_CutError_init
  m_abs : mg "abs" = none
  m_all : mg "all" = none
  m_bool : mg "bool" = none
  m_dict : mg "dict" = none
  m_int : mg "int" = none
  m_isinstance : mg "isinstance" = none
  m_len : mg "len" = none
  m_list : mg "list" = none
  m_range : mg "range" = none
  m_str : mg "str" = none
  m_tuple : mg "tuple" = none
  m_zip : mg "zip" = none
  m_MOST_FIGURES : ∃ t, mg "MOST_FIGURES" = some (.int 200 t)
  m_NOUGHT : NoughtAt K mg
  m_gcd : mg "gcd" = some (.builtin "math.gcd")
section
variable {P : Program} {w : World} {K : PySem.W.Frag} {mg : Str → Option Value} {base : Heap}
theorem ok_part (T : Tops K mg)  : DefOk P w K mg base 1 "part" ps_part (spPart K) := by
  refine T.d_part.ok sc_part (fun vs H Q E h => ?_) (fun f cdv A outer s H vs Q E hr h => ?_)
  · obtain ⟨a, c, rfl, _⟩ := h
    rfl
  · obtain ⟨a, c, rfl, hc0, ha, hc, q⟩ := h
    refine ⟨_, (pss_cons (ps_if (pt_cmpR op_eq (pv 1) pe_int (nomark _)) (pss_one ps_never) pss_nil) (pss_cons (ps_set (i := 2) sc_part.nd rfl (.inl rfl) (pe_callBfun cr_gcd (by rfl) T.m_gcd (pa_cons (pv 0) (pa_cons (pv 1) pa_nil)))) (pss_cons (ps_if (pt_cmpR op_lt (pv 1) pe_int (nomark _)) (pss_one (ps_set (i := 2) sc_part.nd rfl (.inl rfl) (pe_un un_neg (pv 2)))) pss_nil) (pss_one (ps_ret (pe_tup (pa_cons (pe_op op_fdivA (pv 0) (pv 2)) (pa_cons (pe_op op_fdivA (pv 1) (pv 2)) pa_nil)))))))), ?_⟩
    have g0 : (0 : Int) < ((Int.gcd a c : Nat) : Int) := by
      have := Int.gcd_pos_of_ne_zero_right a hc0
      omega
    have g1 : Int.gcd a c ≤ c.natAbs := Int.gcd_le_natAbs_right a hc0
    have gw1 : CDivA a ((Int.gcd a c : Nat) : Int) := ⟨by omega, Nat.lt_of_le_of_lt (show _ ≤ c.natAbs by omega) (pow_mono_lt hc (by decide))⟩
    have gw2 : CDivA a (-((Int.gcd a c : Nat) : Int)) := ⟨by omega, Nat.lt_of_le_of_lt (show _ ≤ c.natAbs by omega) (pow_mono_lt hc (by decide))⟩
    refine ⟨_, rfl, rfl, _, rfl, ?_⟩
    refine iteD (fun hd => absurd (V.int.inj hd) hc0) (fun _ => ?_)
    refine ⟨_, rfl, _, rfl, a, c, rfl, ?_⟩
    repeat (walk_at "rd")
    refine iteD (fun hd => ?_) (fun hd => ?_)
    · refine ⟨_, rfl, _, rfl, _, rfl, _, rfl, _, _, rfl, rfl, gw2, _, rfl, _, rfl, _, _, rfl, rfl, gw2, (show 2 ≤ sizeLine by decide), fun p np => ?_⟩
      obtain ⟨e1, e2⟩ := divInt_num_neg (a := a) hd
      exact q _ _ (same_new np) (PtV.new e1 e2)
    · refine ⟨_, rfl, _, rfl, _, _, rfl, rfl, gw1, _, rfl, _, rfl, _, _, rfl, rfl, gw1, (show 2 ≤ sizeLine by decide), fun p np => ?_⟩
      obtain ⟨e1, e2⟩ := divInt_num_eq (a := a) (show 0 < c by omega)
      refine q _ _ (same_new np) (PtV.new ?_ ?_)
      · exact e1.trans (Int.fdiv_eq_ediv_of_nonneg a (by exact Int.le_of_lt g0)).symm
      · exact e2.trans (Int.fdiv_eq_ediv_of_nonneg c (by exact Int.le_of_lt g0)).symm
theorem ok_minus (T : Tops K mg) (D_part : DefOk P w K mg base 1 "part" ps_part (spPart K)) : DefOk P w K mg base 2 "minus" ps_minus (spTwo K (fun _ _ => True) fun x y => x - y) := by
  refine T.d_minus.ok sc_minus (fun vs H Q E h => ?_) (fun f cdv A outer s H vs Q E hr h => ?_)
  · unfold spTwo at h
    obtain ⟨_, _, _, _, rfl, _⟩ := h
    rfl
  · unfold spTwo at h
    obtain ⟨v, u, x, y, rfl, ⟨a, rfl, ha⟩, ⟨b, rfl, hb⟩, sx, sy, _, q⟩ := h
    refine ⟨_, (pss_one (ps_ret (pe_callD D_part hr (by decide) (by rfl) (pa_cons (pe_op op_sub (pe_op op_mulA (pe_ix ix_tup (pv 0) pe_int (fun _ _ => rfl)) (pe_ix ix_tup (pv 1) pe_int (fun _ _ => rfl))) (pe_op op_mulA (pe_ix ix_tup (pv 1) pe_int (fun _ _ => rfl)) (pe_ix ix_tup (pv 0) pe_int (fun _ _ => rfl)))) (pa_cons (pe_op op_mulA (pe_ix ix_tup (pv 0) pe_int (fun _ _ => rfl)) (pe_ix ix_tup (pv 1) pe_int (fun _ _ => rfl))) pa_nil))))), ?_⟩
    obtain ⟨x1, x2⟩ := sz_abs sx
    obtain ⟨y1, y2⟩ := sz_abs sy
    repeat (walk_at "rd")
    refine ⟨_, _, rfl, Int.ne_of_gt (Int.mul_pos (den_pos x) (den_pos y)), pow_mono_lt (natAbs_sub_lt (natAbs_mul_lt x1 y2) (natAbs_mul_lt y1 x2)) (by decide), pow_mono_lt (natAbs_mul_lt x2 y2) (by decide), fun v H' s hv => q v H' s ?_⟩
    rw [dv_sub] at hv
    exact hv
theorem ok_part_text (T : Tops K mg)  : DefOk P w K mg base 1 "part_text" ps_part_text (spPText K) := by
  refine T.d_part_text.ok sc_part_text (fun vs H Q E h => ?_) (fun f cdv A outer s H vs Q E hr h => ?_)
  · unfold spPText at h
    obtain ⟨_, _, rfl, _⟩ := h
    rfl
  · unfold spPText at h
    obtain ⟨v, q, rfl, ⟨a, rfl, ha⟩, hz, k⟩ := h
    refine ⟨_, (pss_cons (ps_asg (pv 0) (pg_tup rfl (pgs_cons (pg_name (i := 1) sc_part_text.nd rfl (.inl rfl)) (pgs_cons (pg_name (i := 2) sc_part_text.nd rfl (.inl rfl)) pgs_nil)))) (pss_one (ps_ret (pe_ifExp (pt_cmpR op_eq (pv 2) pe_int (nomark _)) (pe_joined1 (pe_fmt (pv 1))) (pe_joined (.cons (pe_fmt (pv 1)) (.cons pe_str (.cons (pe_fmt (pv 2)) .nil)))))))), ?_⟩
    have l1 := txt_log hz.1
    have l2 : ((q.den : Int)).natAbs.log2 < 1920 := txt_log (by rw [Int.natAbs_natCast]; exact hz.2)
    have s1 := icps_len (k := 200) (by decide) hz.1
    have s2 := dig_len (k := 200) (by decide) hz.2
    refine ⟨_, rfl, a, _, rfl, ha, rfl, _, _, rfl, _, _, rfl, rfl, ?_⟩
    refine ⟨_, rfl, rfl, _, rfl, iteD (fun c => ?_) (fun c => ?_)⟩
    · have c : q.den = 1 := by have := V.int.inj c; omega
      refine ⟨_, rfl, .inr ⟨_, rfl, l1, ?_⟩⟩
      refine k _ (congrArg V.str ?_)
      unfold pcps
      rw [if_pos c, List.append_nil]
      exact int_txt q.num
    · have c : ¬ q.den = 1 := fun z => c (by rw [z]; rfl)
      have e1 : Str.empty ++ Str.ofString (toString q.num) = tS (icps q.num) := by rw [emp_app, int_txt]
      have e2 : Str.empty ++ Str.ofString (toString q.num) ++ Str.ofString "/" = tS (icps q.num ++ [47]) := by
        rw [e1, show Str.ofString "/" = tS [47] by decide +kernel, tS_app]
      have e3 : Str.empty ++ Str.ofString (toString q.num) ++ Str.ofString "/" ++ Str.ofString (toString (q.den : Int)) = tS (pcps q) := by
        rw [e2, num_txt, tS_app]
        unfold pcps
        rw [if_neg c, List.append_assoc]
        rfl
      refine ⟨_, rfl, .inr ⟨_, rfl, l1, _, rfl, ?_, _, rfl, ?_, _, rfl, .inr ⟨_, rfl, l2, _, rfl, ?_, ?_⟩⟩⟩
      · exact zN (by rw [e1, tS_len]; omega)
      · exact zN (by rw [e2, tS_len, List.length_append]; show _ + 1 ≤ 1000; omega)
      · exact zN (by rw [e3, tS_len]; have := pcps_len hz; omega)
      · exact k _ (congrArg V.str e3)
theorem ok_are_figures (T : Tops K mg)  : DefOk P w K mg base 1 "_are_figures" ps__are_figures spFigs := by
  refine T.d_are_figures.ok sc__are_figures (fun vs H Q E h => ?_) (fun f cdv A outer s H vs Q E hr h => ?_)
  · unfold spFigs at h
    obtain ⟨_, rfl, _⟩ := h
    rfl
  · unfold spFigs at h
    obtain ⟨l, rfl, hl, hn, k⟩ := h
    obtain ⟨t_MF, mg_MOST_FIGURES⟩ := T.m_MOST_FIGURES
    refine ⟨_, (pss_one (ps_ret (pe_and (pe_cmpR op_le (pe_callB call_len_str (by rfl) T.m_len PySem.boot_len (pa_cons (pv 0) pa_nil)) (pe_glob (v := V.int 200) (by rfl) mg_MOST_FIGURES ⟨_, rfl⟩) (nomark _)) (pe_and (pe_bm0 PySem.F.plainAttrs_str PySem.F.slot_str_isascii PySem.F.type_str_isascii mt_isascii (pv 0)) (pe_one (pe_bm0 PySem.F.plainAttrs_str PySem.F.slot_str_isdigit PySem.F.type_str_isdigit mt_isdigit (pv 0))))))), ?_⟩
    refine ⟨_, rfl, _, rfl, zN (by rw [tS_len]; exact hn), _, _, rfl, rfl, ?_⟩
    rw [tS_len]
    have e : figs l = (decide (l ≠ [] ∧ l.length ≤ 200) && l.all fun c => decide (48 ≤ c ∧ c ≤ 57)) := rfl
    by_cases c : l.length ≤ 200
    · refine ⟨true, congrArg V.bl (decide_eq_true (by omega)), ?_⟩
      refine ⟨_, rfl, rfl, _, rfl, rfl, trivial, ?_⟩
      rw [ascii_txt hl]
      refine ⟨true, rfl, ?_⟩
      refine ⟨_, rfl, rfl, _, rfl, rfl, trivial, k _ (congrArg V.bl ?_)⟩
      rw [digit_txt hl, e]
      congr 1
      exact decide_eq_decide.mpr ⟨fun z => ⟨z, c⟩, fun z => z.1⟩
    · refine ⟨false, congrArg V.bl (decide_eq_false (by omega)), k _ (congrArg V.bl ?_)⟩
      rw [e, decide_eq_false (fun z => c z.2)]
      rfl
theorem ok_read_part (T : Tops K mg) (D_part : DefOk P w K mg base 1 "part" ps_part (spPart K)) (D_minus : DefOk P w K mg base 2 "minus" ps_minus (spTwo K (fun _ _ => True) fun x y => x - y)) (D_part_text : DefOk P w K mg base 1 "part_text" ps_part_text (spPText K)) (D_are_figures : DefOk P w K mg base 1 "_are_figures" ps__are_figures spFigs) : DefOk P w K mg base 3 "read_part" ps_read_part (spRead K) := by
  refine T.d_read_part.ok sc_read_part (fun vs H Q E h => ?_) (fun f cdv A outer s H vs Q E hr h => ?_)
  · unfold spRead at h
    obtain ⟨_, _, rfl, _⟩ := h
    rfl
  · unfold spRead at h
    obtain ⟨l, q, rfl, hl, hn, hr0, k⟩ := h
    obtain ⟨na_NOUGHT, mg_NOUGHT, hNG⟩ := T.m_NOUGHT
    refine ⟨_, (pss_cons (ps_asg (pe_partition (pe_bm PySem.F.plainAttrs_str PySem.F.slot_str_removeprefix PySem.F.type_str_removeprefix mt_removeprefix (pv 0) (pa_cons pe_str pa_nil)) pe_str) (pg_tup rfl (pgs_cons (pg_name (i := 1) sc_read_part.nd rfl (.inl rfl)) (pgs_cons (pg_name (i := 2) sc_read_part.nd rfl (.inl rfl)) (pgs_cons (pg_name (i := 3) sc_read_part.nd rfl (.inl rfl)) pgs_nil))))) (C8.pss_cut (ps_if (pt_cmpR op_eq (pv 2) pe_str (nomark _)) (pss_one (ps_set (i := 3) sc_read_part.nd rfl (.inl rfl) pe_str)) pss_nil) (pss_cons (ps_if (PW.pt (pw_or (pt_not (pt_val (pe_callD D_are_figures hr (by decide) (by rfl) (pa_cons (pv 1) pa_nil)))) (pw_or (pt_not (pt_val (pe_callD D_are_figures hr (by decide) (by rfl) (pa_cons (pv 3) pa_nil)))) (pw_or1 (pt_cmpR op_eq (pe_callTy call_int_str (by rfl) T.m_int (by decide +kernel) (pa_cons (pv 3) pa_nil)) pe_int (nomark _)))))) (pss_one ps_never) pss_nil) (pss_cons (ps_set (i := 4) sc_read_part.nd rfl (.inl rfl) (pe_callD D_part hr (by decide) (by rfl) (pa_cons (pe_callTy call_int_str (by rfl) T.m_int (by decide +kernel) (pa_cons (pv 1) pa_nil)) (pa_cons (pe_callTy call_int_str (by rfl) T.m_int (by decide +kernel) (pa_cons (pv 3) pa_nil)) pa_nil)))) (C8.pss_cut (ps_if (pt_val (pe_bm PySem.F.plainAttrs_str PySem.F.slot_str_startswith PySem.F.type_str_startswith mt_startswith (pv 0) (pa_cons pe_str pa_nil))) (pss_one (ps_set (i := 4) sc_read_part.nd rfl (.inl rfl) (pe_callD D_minus hr (by decide) (by rfl) (pa_cons (pe_glob (v := V.ref na_NOUGHT) (by rfl) mg_NOUGHT rfl) (pa_cons (pv 4) pa_nil))))) pss_nil) (pss_cons (ps_if (pt_cmpR op_ne (pe_callD D_part_text hr (by decide) (by rfl) (pa_cons (pv 4) pa_nil)) (pv 0) (nomark _)) (pss_one ps_never) pss_nil) (pss_one (ps_ret (pv 4))))))))), ?_⟩
    obtain ⟨f1, f2, f3, f4, f5⟩ := read_inv hr0
    have lows : ∀ c ∈ stripM l, c < 128 := fun c hc => hl c (strip_sub c hc)
    have lowa : ∀ c ∈ headP (stripM l), c < 128 := fun c hc => lows c ((List.takeWhile_sublist _).subset hc)
    have lowb : ∀ c ∈ belowP (stripM l), c < 128 := fun c hc => by
      have := (figs_inv f2).2.2 c hc
      omega
    have la := (figs_inv f1).2.1
    have lb := (figs_inv f2).2.1
    refine ⟨_, rfl, rfl, _, _, rfl, rfl, zN (by rw [tS_len]; exact hn), ⟨_, rfl⟩, ?_⟩
    rw [rem_txt]
    refine ⟨_, _, rfl, rfl, by decide +kernel, zN (by rw [tS_len]; have := strip_len l; omega), fun p np => ?_⟩
    rw [part_txt]
    have sp := same_new (o := .tup [.str (tS (headP (stripM l))), .str (tS (markP (stripM l))), .str (tS (tailP (stripM l)))]) np
    refine ⟨p, _, rfl, SqT.of upd_same, rfl, _, _, rfl, _, _, rfl, _, _, rfl, rfl, ?_⟩
    generalize upd H p (.tup [.str (tS (headP (stripM l))), .str (tS (markP (stripM l))), .str (tS (tailP (stripM l)))]) = H1 at sp ⊢
    refine ⟨fun σ' H' => H' = H1 ∧ ∃ v2 : Option V, σ' = [some (.str (tS l)), some (.str (tS (headP (stripM l)))), v2, some (.str (tS (belowP (stripM l)))), none], ?_, ?_⟩
    · refine ⟨_, rfl, rfl, _, rfl, ?_⟩
      unfold markP belowP
      by_cases c : 47 ∈ stripM l
      · rw [if_pos c, if_pos c]
        refine iteDF (show ¬ V.str (tS [47]) = V.str (Str.ofString "") by decide +kernel) ⟨rfl, _, rfl⟩
      · rw [if_neg c, if_neg c]
        refine iteDT (show V.str (tS []) = V.str (Str.ofString "") by decide +kernel) ⟨rfl, some (.str (tS [])), ?_⟩
        show _ = _
        rw [show tS [49] = Str.ofString "1" by decide +kernel]
        rfl
    rintro σ' H' ⟨rfl, v2, rfl⟩
    refine ⟨_, rfl, figs_step lowa (by omega) ⟨_, rfl, ?_⟩⟩
    rw [f1]
    refine ⟨_, rfl, figs_step lowb (by omega) ⟨_, rfl, ?_⟩⟩
    rw [f2]
    have nb := int_of_txt f2
    have na := int_of_txt f1
    refine ⟨_, rfl, _, _, rfl, nb, by rw [tS_len]; omega, rfl, _, rfl, iteDF (fun z => f3 (by have := V.int.inj z; omega)) ?_⟩
    have v1 := figs_lt f1
    have v2' := figs_lt f2
    have big : ∀ {n : Nat}, n < 10 ^ 200 → ((n : Int)).natAbs < 2 ^ 8000 := fun {n} h => by
      rw [Int.natAbs_natCast]
      exact Nat.lt_of_lt_of_le h (by decide +kernel)
    refine ⟨_, rfl, _, _, rfl, na, by rw [tS_len]; omega, _, rfl, _, _, rfl, nb, by rw [tS_len]; omega, _, _, rfl, by omega, big v1, big v2', fun u H2 s2 hu => ?_⟩
    have fo := fig_div v1 v2' f3
    have ed : partD l = if l.head? = some 45 then 0 - Rat.divInt (NumText.digitsVal (headP (stripM l)) : Nat) (NumText.digitsVal (belowP (stripM l)) : Nat) else Rat.divInt (NumText.digitsVal (headP (stripM l)) : Nat) (NumText.digitsVal (belowP (stripM l)) : Nat) := rfl
    generalize Rat.divInt ((NumText.digitsVal (headP (stripM l)) : Nat) : Int) ((NumText.digitsVal (belowP (stripM l)) : Nat) : Int) = x at hu fo ed
    refine ⟨fun σ' H' => Same H2 H' ∧ ∃ u' : V, σ' = [some (.str (tS l)), some (.str (tS (headP (stripM l)))), v2, some (.str (tS (belowP (stripM l)))), some u'] ∧ PtV K H' u' (partD l), ?_, ?_⟩
    · refine ⟨_, rfl, rfl, _, _, rfl, rfl, _, rfl, ?_⟩
      rw [starts_txt]
      refine iteD (fun c => ?_) (fun c => ?_)
      · rw [if_pos c] at ed
        have sz := fig_sz fo
        have z0 : Sz 700 (0 : Rat) := ⟨Nat.pow_pos (by decide), Nat.one_lt_two_pow (by decide)⟩
        refine ⟨_, rfl, two_step (hNG H2) hu z0 sz (by decide) (by decide) trivial fun u2 H3 s3 hu2 => ⟨s3, u2, rfl, ?_⟩⟩
        rw [ed]
        exact hu2
      · rw [if_neg c] at ed
        exact ⟨Same.refl _, u, rfl, by rw [ed]; exact hu⟩
    rintro σ' H3 ⟨s3, u', rfl, hu'⟩
    have fo' : FigOk (partD l) := by
      rw [ed]
      split
      · exact fig_neg fo
      · exact fo
    refine ⟨_, rfl, ptext_step hu' fo' ⟨_, rfl, rfl, _, rfl, ?_⟩⟩
    rw [f4, f5]
    refine iteNS rfl ?_
    exact ⟨_, rfl, k _ _ ((sp.trans s2).trans s3) (by rw [← f4]; exact hu')⟩
theorem ok_law_bag (T : Tops K mg)  : DefOk P w K mg base 1 "_law_bag" ps__law_bag (spBag K) := by
  refine T.d_law_bag.ok sc__law_bag (fun vs H Q E h => ?_) (fun f cdv A outer s H vs Q E hr h => ?_)
  · obtain ⟨a, ns, rfl, _⟩ := h
    rfl
  · obtain ⟨a, ns, rfl, hS, hlen, q⟩ := h
    refine ⟨_, (pss_one (ps_ret (pe_lst (pa_cons (pe_callTy call_list_of (by rfl) T.m_list (by decide +kernel) (pa_cons (pe_slice sl_list (pv 0) po_none (po_some pe_int)) pa_nil)) (pa_cons pe_int (pa_cons pe_int (pa_cons (pe_op op_add pe_int (pe_callB call_len_seq (by rfl) T.m_len PySem.boot_len (pa_cons (pe_slice sl_list (pv 0) po_none (po_some pe_int)) pa_nil))) (pa_cons pe_int pa_nil)))))))), ?_⟩
    have ec : cutV (ns.map V.int) none (some 63) = ns.map V.int := cut63 (by rw [List.length_map]; exact hlen)
    refine ⟨_, rfl, _, rfl, a, _, rfl, hS, fun p np => ⟨p, _, rfl, .inl (SqL.of upd_same), fun l nl => ?_⟩⟩
    rw [ec] at nl ⊢
    have s1 : Same H (upd H p (.lst (ns.map V.int))) := same_new np
    have s2 := s1.trans (same_new (o := .lst (ns.map V.int)) nl)
    refine ⟨_, rfl, _, rfl, a, _, rfl, s2.seq hS, fun p2 np2 => ⟨p2, _, rfl, .inl (SqL.of upd_same), ?_⟩⟩
    refine ⟨_, _, rfl, rfl, (show 5 ≤ sizeLine by decide), fun b nb => q b _ ?_ ?_ ?_⟩
    · exact (s2.trans (same_new np2)).free nb
    · exact (s2.trans (same_new np2)).trans (same_new nb)
    · have hl0 : (upd (upd H p (.lst (ns.map V.int))) l (.lst (ns.map V.int))) l = some (.lst (ns.map V.int)) := upd_same
      have s3 := (same_new (o := .lst (cutV (ns.map V.int) none (some 63))) np2).trans (same_new (o := HO.lst [V.ref l, V.int 0, V.int 0, V.int (9103 + ((cutV (ns.map V.int) none (some 63)).length : Nat)), V.int 0]) nb)
      refine ⟨l, ns, 0, 0, _, 0, upd_same, s3 _ _ hl0, ?_, hlen, Int.le_refl 0, ?_, ?_⟩
      · exact ne_of_none (same_new np2 _ _ hl0) nb
      all_goals
        rw [ec, List.length_map]
        omega
theorem ok_law_get (T : Tops K mg)  : DefOk P w K mg base 1 "_law_get" ps__law_get spGet := by
  refine T.d_law_get.ok sc__law_get (fun vs H Q E h => ?_) (fun f cdv A outer s H vs Q E hr h => ?_)
  · obtain ⟨a, c, rfl, _⟩ := h
    rfl
  · obtain ⟨b, m, rfl, hB, hm0, hm1, q⟩ := h
    refine ⟨_, (C8.pss_cut (ps_if (PW.pt (pw_and (pt_cmpR op_lt (pe_ix ix_list (pv 0) pe_int (fun _ _ => rfl)) (pv 1) (nomark _)) (pw_and1 (pt_cmpR op_lt (pe_ix ix_list (pv 0) pe_int (fun _ _ => rfl)) (pe_callB call_len_seq (by rfl) T.m_len PySem.boot_len (pa_cons (pe_ix ix_list (pv 0) pe_int (fun _ _ => rfl)) pa_nil)) (nomark _))))) (pss_cons (ps_set (i := 2) sc__law_get.nd rfl (.inl rfl) (pe_ix ix_list (pe_ix ix_list (pv 0) pe_int (fun _ _ => rfl)) (pe_ix ix_list (pv 0) pe_int (fun _ _ => rfl)) (fun _ _ => rfl))) (pss_cons (ps_asg (pe_op op_add (pe_ix ix_list (pv 0) pe_int (fun _ _ => rfl)) pe_int) (pg_sub (pv 0) pe_int set_list)) (pss_cons (ps_asg (pe_ifExp (pt_cmpR op_ge (pv 2) (pe_op op_pow pe_int pe_int) (nomark _)) (pe_op op_sub (pv 2) (pe_op op_pow pe_int pe_int)) pe_int) (pg_sub (pv 0) pe_int set_list)) (pss_one (ps_asg (pe_op op_mod (pe_op op_add (pe_op op_add (pe_op op_mulA (pe_ix ix_list (pv 0) pe_int (fun _ _ => rfl)) pe_int) (pe_op op_mulA (pv 2) pe_int)) (pe_op op_mulA pe_int (pe_ix ix_list (pv 0) pe_int (fun _ _ => rfl)))) pe_int) (pg_sub (pv 0) pe_int set_list)))))) pss_nil) (pss_cons (ps_if (pt_cmpR op_ge (pe_ix ix_list (pv 0) pe_int (fun _ _ => rfl)) (pv 1) (nomark _)) (pss_cons (ps_set (i := 3) sc__law_get.nd rfl (.inl rfl) (pe_op op_mod (pe_ix ix_list (pv 0) pe_int (fun _ _ => rfl)) (pv 1))) (pss_cons (ps_asg (pe_op op_fdiv (pe_ix ix_list (pv 0) pe_int (fun _ _ => rfl)) (pv 1)) (pg_sub (pv 0) pe_int set_list)) (pss_one (ps_ret (pv 3))))) pss_nil) (pss_cons (ps_asg (pe_op op_add (pe_ix ix_list (pv 0) pe_int (fun _ _ => rfl)) pe_int) (pg_sub (pv 0) pe_int set_list)) (pss_cons (ps_set (i := 4) sc__law_get.nd rfl (.inl rfl) (pe_ix ix_list (pv 0) pe_int (fun _ _ => rfl))) (pss_cons (ps_asg (pe_op op_mod (pe_op op_add (pe_op op_add (pe_op op_add (pe_op op_mulA (pv 4) (pv 4)) (pe_op op_mulA pe_int (pv 4))) (pe_op op_mulA pe_int (pe_ix ix_list (pv 0) pe_int (fun _ _ => rfl)))) pe_int) pe_int) (pg_sub (pv 0) pe_int set_list)) (pss_one (ps_ret (pe_op op_mod (pe_op op_add (pe_op op_fdiv (pe_ix ix_list (pv 0) pe_int (fun _ _ => rfl)) pe_int) (pe_op op_mulA (pe_op op_fdiv (pv 4) pe_int) pe_int)) (pv 1))))))))), ?_⟩
    obtain ⟨c, ns, p, r, x, z, hb, hc, hcb, hl, hp, hx0, hx1⟩ := id hB
    refine ⟨fun σ' H' => ∃ v2, σ' = [some (.ref b), some (.int m), v2, none, none] ∧ Bag H' b ∧ KpG b H H', ?_, ?_⟩
    · repeat (walk_at "rd")
      refine iteD (fun hd => ?_) (fun hd => ?_)
      · repeat (walk_at "rd")
        refine iteD (fun hd2 => ?_) (fun hd2 => ?_)
        · rw [List.length_map] at hd2
          have hp2 : p.toNat < ns.length := by omega
          have ecell : atI (ns.map V.int) p = some (.int ns[p.toNat]) := by
            have e : p = ((p.toNat : Nat) : Int) := by omega
            have h := atI_nat (xs := ns.map V.int) (j := p.toNat) (v := .int ns[p.toNat]) (by rw [List.getElem?_map, List.getElem?_eq_getElem hp2]; rfl)
            rw [← e] at h
            exact h
          repeat (walk_at "rd")
          refine setL_step (ys := [.ref c, .int (p + 1), .int r, .int x, .int z]) hb (by rfl) (by rfl) fun H1 hb1 k1 => ?_
          repeat (walk_at "rd")
          refine iteD (fun hd3 => ?_) (fun hd3 => ?_)
          all_goals
            repeat (walk_at "rd")
            refine setL_step (ys := [.ref c, .int (p + 1), .int _, .int x, .int z]) hb1 (by rfl) (by rfl) fun H2 hb2 k2 => ?_
            repeat (walk_at "rd")
            refine setL_step (ys := [.ref c, .int (p + 1), .int _, .int _, .int z]) hb2 (by rfl) (by rfl) fun H3 hb3 k3 => ?_
            exact ⟨_, rfl, ⟨c, ns, p + 1, _, _, z, hb3, k3 _ _ (k2 _ _ (k1 _ _ hc hcb) hcb) hcb, hcb, hl, by omega, Int.emod_nonneg _ (by decide), Int.emod_lt_of_pos _ (by decide)⟩, k1.trans (k2.trans k3), fun c' ⟨r', e⟩ => by rw [hb] at e; cases e; exact ⟨_, hb3⟩⟩
        · exact ⟨_, rfl, hB, Kp.refl _ _, fun _ h => h⟩
      · repeat (walk_at "rd")
        exact ⟨Kp.refl _ _, fun _ h => h⟩
    · rintro σ' H' ⟨v2, rfl, hB', kp⟩
      obtain ⟨c, ns, p, r, x, z, hb, hc, hcb, hl, hp, hx0, hx1⟩ := hB'
      repeat (walk_at "rd")
      refine iteD (fun hd => ?_) (fun hd => ?_)
      · repeat (walk_at "rd")
        refine setL_step (ys := [.ref c, .int p, .int _, .int x, .int z]) hb (by rfl) (by rfl) fun H1 hb1 k1 => ?_
        refine ⟨_, rfl, q _ H1 (Int.emod_nonneg _ (by omega)) (Int.emod_lt_of_pos _ hm0) ⟨c, ns, p, _, x, z, hb1, k1 _ _ hc hcb, hcb, hl, hp, hx0, hx1⟩ ⟨kp.trans k1, fun c' h => by obtain ⟨r', e⟩ := kp.hd c' h; rw [hb] at e; cases e; exact ⟨_, hb1⟩⟩⟩
      · refine ⟨_, rfl, ?_⟩
        repeat (walk_at "rd")
        refine setL_step (ys := [.ref c, .int p, .int r, .int x, .int (z + 1)]) hb (by rfl) (by rfl) fun H1 hb1 k1 => ?_
        repeat (walk_at "rd")
        refine setL_step (ys := [.ref c, .int p, .int r, .int _, .int (z + 1)]) hb1 (by rfl) (by rfl) fun H2 hb2 k2 => ?_
        repeat (walk_at "rd")
        refine q _ H2 (Int.emod_nonneg _ (by omega)) (Int.emod_lt_of_pos _ hm0) ⟨c, ns, p, r, _, _, hb2, k2 _ _ (k1 _ _ hc hcb) hcb, hcb, hl, hp, Int.emod_nonneg _ (by decide), Int.emod_lt_of_pos _ (by decide)⟩ ⟨kp.trans (k1.trans k2), fun c' h => by obtain ⟨r', e⟩ := kp.hd c' h; rw [hb] at e; cases e; exact ⟨_, hb2⟩⟩
theorem ok_law_pick (T : Tops K mg) (D_law_get : DefOk P w K mg base 1 "_law_get" ps__law_get spGet) : DefOk P w K mg base 2 "_law_pick" ps__law_pick spPick := by
  refine T.d_law_pick.ok sc__law_pick (fun vs H Q E h => ?_) (fun f cdv A outer s H vs Q E hr h => ?_)
  · unfold spPick at h
    obtain ⟨_, _, _, rfl, _⟩ := h
    rfl
  · unfold spPick at h
    obtain ⟨c, L, xs, rfl, hC, hL, hne, hx0, hx1, q⟩ := h
    refine ⟨_, (pss_one (ps_ret (pe_ix ix_list (pv 1) (pe_callD D_law_get hr (by decide) (by rfl) (pa_cons (pv 0) (pa_cons (pe_callB call_len_seq (by rfl) T.m_len PySem.boot_len (pa_cons (pv 1) pa_nil)) pa_nil))) (fun _ _ => rfl)))), ?_⟩
    refine ⟨_, rfl, _, rfl, _, rfl, L, xs, rfl, .inl (SqL.of hL), c, _, rfl, hC, by omega, by omega, fun r H' h0 h1 hC' k => ?_⟩
    have hi : r.toNat < xs.length := by omega
    have e : r = ((r.toNat : Nat) : Int) := by omega
    have ha : atI xs r = some xs[r.toNat] := by
      have h := atI_nat (xs := xs) (j := r.toNat) (List.getElem?_eq_getElem hi)
      rw [← e] at h
      exact h
    exact ⟨L, xs, r, _, rfl, rfl, SqL.of (k _ _ hL hne), ha, q _ H' (List.getElem_mem hi) hC' k⟩
theorem ok_law_far (T : Tops K mg) (D_law_get : DefOk P w K mg base 1 "_law_get" ps__law_get spGet) : DefOk P w K mg base 2 "_law_far" ps__law_far spFar := by
  refine T.d_law_far.ok sc__law_far (fun vs H Q E h => ?_) (fun f cdv A outer s H vs Q E hr h => ?_)
  · obtain ⟨a, c, rfl, _⟩ := h
    rfl
  · obtain ⟨b, k, rfl, hB, hk, q⟩ := h
    refine ⟨_, (pss_cons (ps_set (i := 2) sc__law_far.nd rfl (.inl rfl) pe_int) (pss_cons (ps_for PassesOwn.never rfl (pi_range1 rfl T.m_range (pa_cons (pv 1) pa_nil)) (pg_name (i := 3) sc__law_far.nd rfl (.inl rfl)) (pss_one (ps_set (i := 2) sc__law_far.nd rfl (.inl rfl) (pe_op op_add (pe_op op_mulA (pv 2) pe_int) (pe_callD D_law_get hr (by decide) (by rfl) (pa_cons (pv 0) (pa_cons pe_int pa_nil))))))) (pss_one (ps_ret (pv 2))))), ?_⟩
    refine ⟨_, rfl, (k : Int), rfl, by omega, by omega, for_range (lo := 0) (n := k) (fun i σ H' => ∃ (r : Int) (v3 : Option V), σ = [some (.ref b), some (.int k), some (.int r), v3] ∧ 0 ≤ r ∧ r < 1000 ^ i ∧ Bag H' b ∧ Kp b H H') ⟨0, none, rfl, by decide, by decide, hB, Kp.refl _ _⟩ ?_ ?_⟩
    · rintro i σ H1 hi ⟨r, v3, rfl, h0, h1, hB1, k1⟩
      repeat (walk_at "rd")
      refine ⟨b, 1000, rfl, hB1, by decide, by decide, fun r' H2 h0' h1' hB2 k2 => ?_⟩
      refine ⟨_, _, rfl, rfl, _, _, rfl, ?_, ?_, hB2, k1.trans k2⟩
      · show 0 ≤ r * 1000 + r'
        omega
      · show r * 1000 + r' < 1000 ^ (i + 1)
        rw [Int.pow_succ]
        generalize (1000 : Int) ^ i = p at *
        omega
    · rintro σ H1 ⟨r, v3, rfl, h0, h1, hB1, k1⟩
      exact ⟨_, rfl, q r H1 h0 h1 hB1 k1⟩
theorem ok_law_same (T : Tops K mg)  : ∀ n, DefOk P w K mg base n "_law_same" ps__law_same (spSame K n)
  | 0 => defOk_none T.d_law_same fun vs H Q E z => by
    unfold spSame at z
    obtain ⟨_, _, d, _, _, _, h, _⟩ := z
    exact Bool.noConfusion h
  | n + 1 => by
    have D_law_same := ok_law_same T n
    refine T.d_law_same.ok sc__law_same (fun vs H Q E h => ?_) (fun f cdv A outer s H vs Q E hr h => ?_)
    · unfold spSame at h
      obtain ⟨_, _, _, rfl, _⟩ := h
      rfl
    · unfold spSame at h
      obtain ⟨v, u, d, rfl, hv, hu, hd, q⟩ := h
      refine ⟨_, (pss_cons (ps_if (pt_val (pe_callB call_isiI (by rfl) T.m_isinstance (by decide +kernel) (pa_cons (pv 1) (pa_cons (pe_bltn (v := V.ty "dict") (u := Value.type "dict") (by rfl) T.m_dict (by decide +kernel) rfl) pa_nil)))) (pss_cons ps_never (pss_one ps_never)) pss_nil) (pss_cons (ps_if (pt_val (pe_callB call_isiTI (by rfl) T.m_isinstance (by decide +kernel) (pa_cons (pv 1) (pa_cons (pe_tup (pa_cons (pe_bltn (v := V.ty "list") (u := Value.type "list") (by rfl) T.m_list (by decide +kernel) rfl) (pa_cons (pe_bltn (v := V.ty "tuple") (u := Value.type "tuple") (by rfl) T.m_tuple (by decide +kernel) rfl) pa_nil))) pa_nil)))) (pss_cons (ps_if (PW.pt (pw_or (pt_cmpR op_ne (pe_callB call_isiI (by rfl) T.m_isinstance (by decide +kernel) (pa_cons (pv 0) (pa_cons (pe_bltn (v := V.ty "tuple") (u := Value.type "tuple") (by rfl) T.m_tuple (by decide +kernel) rfl) pa_nil))) (pe_callB call_isiI (by rfl) T.m_isinstance (by decide +kernel) (pa_cons (pv 1) (pa_cons (pe_bltn (v := V.ty "tuple") (u := Value.type "tuple") (by rfl) T.m_tuple (by decide +kernel) rfl) pa_nil))) (nomark _)) (pw_or1 (pt_cmpR op_ne (pe_callB call_isiI (by rfl) T.m_isinstance (by decide +kernel) (pa_cons (pv 0) (pa_cons (pe_bltn (v := V.ty "list") (u := Value.type "list") (by rfl) T.m_list (by decide +kernel) rfl) pa_nil))) (pe_callB call_isiI (by rfl) T.m_isinstance (by decide +kernel) (pa_cons (pv 1) (pa_cons (pe_bltn (v := V.ty "list") (u := Value.type "list") (by rfl) T.m_list (by decide +kernel) rfl) pa_nil))) (nomark _))))) (pss_one (ps_ret pe_bl)) pss_nil) (pss_one (ps_ret (pe_and (pe_cmpR op_eq (pe_callB call_len_seq (by rfl) T.m_len PySem.boot_len (pa_cons (pv 0) pa_nil)) (pe_callB call_len_seq (by rfl) T.m_len PySem.boot_len (pa_cons (pv 1) pa_nil)) (nomark _)) (pe_one (pe_callB (cr_all rfl) (by rfl) T.m_all (by decide +kernel) (pa_cons (pe_lc (own := [("_law_one", 3), ("_law_other", 4)]) (g := gTup K 2 (gCons (gName 3) (gCons (gName 4) gNil))) (by rfl) sc__law_same.nd (RZ.pi_zipA (by rfl) T.m_zip (pa_cons (pv 0) (pa_cons (pv 1) pa_nil))) (blkOk_by (own := [("_law_one", 3), ("_law_other", 4)]) (N := ["_law_found", "_law_due", "_law_key_now", "_law_one", "_law_other"]) (sc := defScope s__law_same) (by decide +kernel)) (fun _ _ _ _ _ => (pg_tup rfl (pgs_cons (pg_name (i := 3) sc__law_same.nd rfl (.inl rfl)) (pgs_cons (pg_name (i := 4) sc__law_same.nd rfl (.inl rfl)) pgs_nil)))) (fun _ _ _ _ _ => pts_nil) (fun _ _ _ _ _ => (pe_callD D_law_same hr (Nat.le_refl _) (by rfl) (pa_cons (pv 3) (pa_cons (pv 4) pa_nil))))) pa_nil))))))) pss_nil) (pss_cons (ps_if (PW.pt (pw_or (pt_cmpR op_ne (pe_callB call_isiI (by rfl) T.m_isinstance (by decide +kernel) (pa_cons (pv 1) (pa_cons (pe_bltn (v := V.ty "bool") (u := Value.type "bool") (by rfl) T.m_bool (by decide +kernel) rfl) pa_nil))) (pe_callB call_isiI (by rfl) T.m_isinstance (by decide +kernel) (pa_cons (pv 0) (pa_cons (pe_bltn (v := V.ty "bool") (u := Value.type "bool") (by rfl) T.m_bool (by decide +kernel) rfl) pa_nil))) (nomark _)) (pw_or1 (pt_cmpR op_ne (pe_callB call_isiI (by rfl) T.m_isinstance (by decide +kernel) (pa_cons (pv 1) (pa_cons (pe_bltn (v := V.ty "str") (u := Value.type "str") (by rfl) T.m_str (by decide +kernel) rfl) pa_nil))) (pe_callB call_isiI (by rfl) T.m_isinstance (by decide +kernel) (pa_cons (pv 0) (pa_cons (pe_bltn (v := V.ty "str") (u := Value.type "str") (by rfl) T.m_str (by decide +kernel) rfl) pa_nil))) (nomark _))))) (pss_one (ps_ret pe_bl)) pss_nil) (pss_cons (ps_if (pt_cmpR op_ne (pe_callB call_isiI (by rfl) T.m_isinstance (by decide +kernel) (pa_cons (pv 1) (pa_cons (pe_bltn (v := V.ty "int") (u := Value.type "int") (by rfl) T.m_int (by decide +kernel) rfl) pa_nil))) (pe_callB call_isiI (by rfl) T.m_isinstance (by decide +kernel) (pa_cons (pv 0) (pa_cons (pe_bltn (v := V.ty "int") (u := Value.type "int") (by rfl) T.m_int (by decide +kernel) rfl) pa_nil))) (nomark _)) (pss_one (ps_ret pe_bl)) pss_nil) (pss_one (ps_ret (pe_and (pe_cmpR op_eq (pe_cmpR op_isN (pv 1) pe_non (nomark _)) (pe_cmpR op_isN (pv 0) pe_non (nomark _)) (nomark _)) (pe_one (pe_cmpR (op_eqD hr.units) (pv 0) (pv 1) (nomark _)))))))))), ?_⟩
      have nodict : kitB (tyN d) "dict" = some false := by
        cases d with
        | dict _ => exact Bool.noConfusion hd
        | none => exact (show kitB "NoneType" "dict" = some false by decide +kernel)
        | bool _ => exact (show kitB "bool" "dict" = some false by decide +kernel)
        | int _ => exact (show kitB "int" "dict" = some false by decide +kernel)
        | str _ => exact (show kitB "str" "dict" = some false by decide +kernel)
        | list _ => exact (show kitB "list" "dict" = some false by decide +kernel)
        | tuple _ => exact (show kitB "tuple" "dict" = some false by decide +kernel)
      refine ⟨_, rfl, isi_step _ "dict" false hu rfl nodict ⟨_, rfl, ?_⟩⟩
      have go : ∀ (t : String) (b c : Bool), tyN d = t → kitB t "list" = some b → kitB t "tuple" = some c → ∀ p, H p = none → ∀ (R : VK), R (.bl (b || c)) (upd H p (.tup [.ty "list", .ty "tuple"])) → rIsiTI K [u, .ref p] (upd H p (.tup [.ty "list", .ty "tuple"])) R :=
        fun t b c ht hb hc p np R q => isiT_step (Dp.mono (same_new np) _ _ hu) ht upd_same hb hc q
      refine ⟨_, rfl, (show 2 ≤ sizeLine by decide), fun p np => ?_⟩
      have s1 : Same H (upd H p (.tup [.ty "list", .ty "tuple"])) := same_new np
      have hv1 := Dp.mono s1 _ _ hv
      have hu1 := Dp.mono s1 _ _ hu
      cases d with
      | none =>
        refine go "NoneType" false false rfl (by decide +kernel) (by decide +kernel) p np _ ⟨_, rfl, ?_⟩
        refine ⟨_, rfl, isi_step "NoneType" "bool" false hu1 rfl (by decide +kernel) ⟨_, rfl, isi_step "NoneType" "bool" false hv1 rfl (by decide +kernel) ⟨rfl, _, rfl, iteNS rfl ?_⟩⟩⟩
        refine ⟨_, rfl, isi_step "NoneType" "str" false hu1 rfl (by decide +kernel) ⟨_, rfl, isi_step "NoneType" "str" false hv1 rfl (by decide +kernel) ⟨rfl, _, rfl, iteNS rfl ?_⟩⟩⟩
        refine ⟨_, rfl, isi_step "NoneType" "int" false hu1 rfl (by decide +kernel) ⟨_, rfl, isi_step "NoneType" "int" false hv1 rfl (by decide +kernel) ⟨rfl, _, rfl, iteNS rfl ?_⟩⟩⟩
        refine ⟨_, rfl, rfl, _, rfl, rfl, rfl, true, congrArg V.bl (decide_eq_true (by cases hv; cases hu; rfl)), ?_⟩
        refine ⟨_, rfl, _, rfl, _, _, hv1, hu1, rfl, rfl, q _ _ s1 (congrArg V.bl (show _ = true from rfl))⟩
      | bool b =>
        refine go "bool" false false rfl (by decide +kernel) (by decide +kernel) p np _ ⟨_, rfl, ?_⟩
        refine ⟨_, rfl, isi_step "bool" "bool" true hu1 rfl (by decide +kernel) ⟨_, rfl, isi_step "bool" "bool" true hv1 rfl (by decide +kernel) ⟨rfl, _, rfl, iteNS rfl ?_⟩⟩⟩
        refine ⟨_, rfl, isi_step "bool" "str" false hu1 rfl (by decide +kernel) ⟨_, rfl, isi_step "bool" "str" false hv1 rfl (by decide +kernel) ⟨rfl, _, rfl, iteNS rfl ?_⟩⟩⟩
        refine ⟨_, rfl, isi_step "bool" "int" true hu1 rfl (by decide +kernel) ⟨_, rfl, isi_step "bool" "int" true hv1 rfl (by decide +kernel) ⟨rfl, _, rfl, iteNS rfl ?_⟩⟩⟩
        refine ⟨_, rfl, rfl, _, rfl, rfl, rfl, true, congrArg V.bl (decide_eq_true (by cases hv; cases hu; rfl)), ?_⟩
        refine ⟨_, rfl, _, rfl, _, _, hv1, hu1, rfl, rfl, q _ _ s1 (congrArg V.bl (show _ = true from by cases b <;> rfl))⟩
      | int i =>
        refine go "int" false false rfl (by decide +kernel) (by decide +kernel) p np _ ⟨_, rfl, ?_⟩
        refine ⟨_, rfl, isi_step "int" "bool" false hu1 rfl (by decide +kernel) ⟨_, rfl, isi_step "int" "bool" false hv1 rfl (by decide +kernel) ⟨rfl, _, rfl, iteNS rfl ?_⟩⟩⟩
        refine ⟨_, rfl, isi_step "int" "str" false hu1 rfl (by decide +kernel) ⟨_, rfl, isi_step "int" "str" false hv1 rfl (by decide +kernel) ⟨rfl, _, rfl, iteNS rfl ?_⟩⟩⟩
        refine ⟨_, rfl, isi_step "int" "int" true hu1 rfl (by decide +kernel) ⟨_, rfl, isi_step "int" "int" true hv1 rfl (by decide +kernel) ⟨rfl, _, rfl, iteNS rfl ?_⟩⟩⟩
        refine ⟨_, rfl, rfl, _, rfl, rfl, rfl, true, congrArg V.bl (decide_eq_true (by cases hv; cases hu; rfl)), ?_⟩
        refine ⟨_, rfl, _, rfl, _, _, hv1, hu1, rfl, rfl, q _ _ s1 (congrArg V.bl (show _ = true from beq_self_eq_true i))⟩
      | str x =>
        refine go "str" false false rfl (by decide +kernel) (by decide +kernel) p np _ ⟨_, rfl, ?_⟩
        refine ⟨_, rfl, isi_step "str" "bool" false hu1 rfl (by decide +kernel) ⟨_, rfl, isi_step "str" "bool" false hv1 rfl (by decide +kernel) ⟨rfl, _, rfl, iteNS rfl ?_⟩⟩⟩
        refine ⟨_, rfl, isi_step "str" "str" true hu1 rfl (by decide +kernel) ⟨_, rfl, isi_step "str" "str" true hv1 rfl (by decide +kernel) ⟨rfl, _, rfl, iteNS rfl ?_⟩⟩⟩
        refine ⟨_, rfl, isi_step "str" "int" false hu1 rfl (by decide +kernel) ⟨_, rfl, isi_step "str" "int" false hv1 rfl (by decide +kernel) ⟨rfl, _, rfl, iteNS rfl ?_⟩⟩⟩
        refine ⟨_, rfl, rfl, _, rfl, rfl, rfl, true, congrArg V.bl (decide_eq_true (by cases hv; cases hu; rfl)), ?_⟩
        refine ⟨_, rfl, _, rfl, _, _, hv1, hu1, hd, hd, q _ _ s1 (congrArg V.bl (show _ = true from beq_self_eq_true x))⟩
      | list ds =>
        have hd2 : ds.length ≤ 1000 ∧ ∀ e ∈ ds, dle n e = true := by
          have h := hd
          simp only [dle, Bool.and_eq_true, decide_eq_true_eq, List.all_eq_true] at h
          exact h
        refine go "list" true false rfl (by decide +kernel) (by decide +kernel) p np _ ⟨_, rfl, ?_⟩
        refine ⟨_, rfl, isi_step "list" "tuple" false hv1 rfl (by decide +kernel) ⟨_, rfl, isi_step "list" "tuple" false hu1 rfl (by decide +kernel) ⟨rfl, _, rfl, iteNS rfl ?_⟩⟩⟩
        refine ⟨_, rfl, isi_step "list" "list" true hv1 rfl (by decide +kernel) ⟨_, rfl, isi_step "list" "list" true hu1 rfl (by decide +kernel) ⟨rfl, _, rfl, iteNS rfl ?_⟩⟩⟩
        cases hv1 with
        | @lst a xs _ ha hxs =>
        cases hu1 with
        | @lst b ys _ hb hys =>
        have lx := dpAll_len hxs
        have ly := dpAll_len hys
        refine ⟨_, rfl, a, xs, rfl, .inl ha, _, rfl, b, ys, rfl, .inl hb, rfl, true, congrArg V.bl (decide_eq_true (by rw [lx, ly])), ?_⟩
        refine ⟨_, rfl, _, rfl, a, b, xs, ys, rfl, .inl ⟨ha, hb, fun D nD => ?_⟩⟩
        refine ⟨fun i m H' => i + m = ds.length ∧ Same (upd H p (.tup [.ty "list", .ty "tuple"])) H' ∧ H' D = some (.lst ((List.replicate i true).map V.bl)), ⟨ds.length, by omega, same_new nD, upd_same⟩, ?_⟩
        rintro i m H' ⟨him, sH, hD⟩
        have ha' := seqL_same sH ha
        have hb' := seqL_same sH hb
        by_cases hi : i < ds.length
        · refine .inr ⟨⟨xs, ys, xs[i], ys[i], ha', hb', List.getElem?_eq_getElem (by omega), List.getElem?_eq_getElem (by omega)⟩, fun H2 => (i + 1) + (m - 1) = ds.length ∧ Same (upd H p (.tup [.ty "list", .ty "tuple"])) H2 ∧ H2 D = some (.lst ((List.replicate (i + 1) true).map V.bl)), fun H2 z => ⟨m - 1, by omega, z⟩, ?_⟩
          rintro z H2 ⟨t, x, y, rfl, nt, rfl, hx, hy⟩
          have hx := hx xs ha'
          have hy := hy ys hb'
          obtain ⟨e, he, hxe⟩ := dpAll_get hxs hx
          obtain ⟨e', he', hye⟩ := dpAll_get hys hy
          rw [he] at he'
          cases he'
          have s2 : Same (upd H p (.tup [.ty "list", .ty "tuple"])) (upd H' t (.tup [x, y])) := sH.trans (same_new nt)
          have ntD : D ≠ t := ne_of_none hD nt
          refine ⟨t, [x, y], rfl, SqT.of upd_same, rfl, x, [y], rfl, y, [], rfl, rfl, rfl, ?_⟩
          refine ⟨_, rfl, _, rfl, same_step (Dp.mono s2 _ _ hxe) (Dp.mono s2 _ _ hye) (hd2.2 e (List.mem_of_getElem? he)) fun H3 s3 => ?_⟩
          have hD3 : H3 D = some (.lst ((List.replicate i true).map V.bl)) := s3 _ _ (by rw [upd_ne ntD]; exact hD)
          refine ⟨_, hD3, ?_, by omega, ?_, ?_⟩
          · rw [List.length_map, List.length_replicate]
            exact small1000 (by omega)
          · intro b o hbo
            have hbD : b ≠ D := ne_of_none hbo nD
            rw [upd_ne hbD]
            exact s3 _ _ (s2 _ _ hbo)
          · rw [upd_same, List.replicate_succ', List.map_append]
            rfl
        · refine .inl ⟨⟨xs, ys, ha', hb', .inl (by omega)⟩, ?_⟩
          have ei : i = ds.length := by omega
          refine ⟨D, List.replicate i true, rfl, SqL.of hD, q _ _ (s1.trans sH) ?_⟩
          rw [show (List.replicate i true).all id = true from List.all_eq_true.mpr fun b hb => List.eq_of_mem_replicate hb]
      | tuple ds =>
        have hd2 : ds.length ≤ 1000 ∧ ∀ e ∈ ds, dle n e = true := by
          have h := hd
          simp only [dle, Bool.and_eq_true, decide_eq_true_eq, List.all_eq_true] at h
          exact h
        refine go "tuple" false true rfl (by decide +kernel) (by decide +kernel) p np _ ⟨_, rfl, ?_⟩
        refine ⟨_, rfl, isi_step "tuple" "tuple" true hv1 rfl (by decide +kernel) ⟨_, rfl, isi_step "tuple" "tuple" true hu1 rfl (by decide +kernel) ⟨rfl, _, rfl, iteNS rfl ?_⟩⟩⟩
        refine ⟨_, rfl, isi_step "tuple" "list" false hv1 rfl (by decide +kernel) ⟨_, rfl, isi_step "tuple" "list" false hu1 rfl (by decide +kernel) ⟨rfl, _, rfl, iteNS rfl ?_⟩⟩⟩
        cases hv1 with
        | @tup a xs _ ha hxs =>
        cases hu1 with
        | @tup b ys _ hb hys =>
        have lx := dpAll_len hxs
        have ly := dpAll_len hys
        refine ⟨_, rfl, a, xs, rfl, .inr ha, _, rfl, b, ys, rfl, .inr hb, rfl, true, congrArg V.bl (decide_eq_true (by rw [lx, ly])), ?_⟩
        refine ⟨_, rfl, _, rfl, a, b, xs, ys, rfl, .inr ⟨ha, hb, fun D nD => ?_⟩⟩
        refine ⟨fun i m H' => i + m = ds.length ∧ Same (upd H p (.tup [.ty "list", .ty "tuple"])) H' ∧ H' D = some (.lst ((List.replicate i true).map V.bl)), ⟨ds.length, by omega, same_new nD, upd_same⟩, ?_⟩
        rintro i m H' ⟨him, sH, hD⟩
        have ha' := seqT_same sH ha
        have hb' := seqT_same sH hb
        by_cases hi : i < ds.length
        · refine .inr ⟨⟨xs, ys, xs[i], ys[i], ha', hb', List.getElem?_eq_getElem (by omega), List.getElem?_eq_getElem (by omega)⟩, fun H2 => (i + 1) + (m - 1) = ds.length ∧ Same (upd H p (.tup [.ty "list", .ty "tuple"])) H2 ∧ H2 D = some (.lst ((List.replicate (i + 1) true).map V.bl)), fun H2 z => ⟨m - 1, by omega, z⟩, ?_⟩
          rintro z H2 ⟨t, x, y, rfl, nt, rfl, hx, hy⟩
          have hx := hx xs ha'
          have hy := hy ys hb'
          obtain ⟨e, he, hxe⟩ := dpAll_get hxs hx
          obtain ⟨e', he', hye⟩ := dpAll_get hys hy
          rw [he] at he'
          cases he'
          have s2 : Same (upd H p (.tup [.ty "list", .ty "tuple"])) (upd H' t (.tup [x, y])) := sH.trans (same_new nt)
          have ntD : D ≠ t := ne_of_none hD nt
          refine ⟨t, [x, y], rfl, SqT.of upd_same, rfl, x, [y], rfl, y, [], rfl, rfl, rfl, ?_⟩
          refine ⟨_, rfl, _, rfl, same_step (Dp.mono s2 _ _ hxe) (Dp.mono s2 _ _ hye) (hd2.2 e (List.mem_of_getElem? he)) fun H3 s3 => ?_⟩
          have hD3 : H3 D = some (.lst ((List.replicate i true).map V.bl)) := s3 _ _ (by rw [upd_ne ntD]; exact hD)
          refine ⟨_, hD3, ?_, by omega, ?_, ?_⟩
          · rw [List.length_map, List.length_replicate]
            exact small1000 (by omega)
          · intro b o hbo
            have hbD : b ≠ D := ne_of_none hbo nD
            rw [upd_ne hbD]
            exact s3 _ _ (s2 _ _ hbo)
          · rw [upd_same, List.replicate_succ', List.map_append]
            rfl
        · refine .inl ⟨⟨xs, ys, ha', hb', .inl (by omega)⟩, ?_⟩
          have ei : i = ds.length := by omega
          refine ⟨D, List.replicate i true, rfl, SqL.of hD, q _ _ (s1.trans sH) ?_⟩
          rw [show (List.replicate i true).all id = true from List.all_eq_true.mpr fun b hb => List.eq_of_mem_replicate hb]
      | dict kvs => exact Bool.noConfusion hd
theorem ok_law_gcd (T : Tops K mg)  : DefOk P w K mg base 1 "_law_gcd" ps__law_gcd spGcd := by
  refine T.d_law_gcd.ok sc__law_gcd (fun vs H Q E h => ?_) (fun f cdv A outer s H vs Q E hr h => ?_)
  · obtain ⟨a, c, rfl, _⟩ := h
    rfl
  · obtain ⟨a, c, rfl, ha, hc, q⟩ := h
    refine ⟨_, (pss_cons (ps_while PassesOwn.never (pt_cmpR op_gt (pv 1) pe_int (nomark _)) (pss_one (ps_par (i := 0) (j := 1) (by rfl) sc__law_gcd.nd rfl rfl (by decide) rfl rfl (pa_cons (pv 1) (pa_cons (pe_op op_mod (pv 0) (pv 1)) pa_nil)) (by rfl)))) (pss_one (ps_ret (pv 0)))), ?_⟩
    refine ⟨fun m σ H' => H' = H ∧ ∃ x y : Int, σ = [some (.int x), some (.int y)] ∧ 0 ≤ x ∧ 0 ≤ y ∧ Int.gcd x y = Int.gcd a c ∧ m = y.toNat, ⟨_, rfl, a, c, rfl, ha, hc, rfl, rfl⟩, ?_⟩
    rintro m σ H' ⟨rfl, x, y, rfl, hx, hy, hg, hm⟩
    refine ⟨_, rfl, _, _, rfl, rfl, _, rfl, ?_⟩
    refine ite2 (fun hd => ?_) (fun hd => ?_)
    · have hy0 : 0 < y := of_decide_eq_true hd
      refine ⟨fun σ' H'' => H'' = H' ∧ ∃ x' y' : Int, σ' = [some (.int x'), some (.int y')] ∧ 0 ≤ x' ∧ 0 ≤ y' ∧ Int.gcd x' y' = Int.gcd a c ∧ y'.toNat < m, fun σ' H'' h => ?_, ?_⟩
      · obtain ⟨rfl, x', y', rfl, h1, h2, h3, h4⟩ := h
        exact ⟨_, h4, rfl, x', y', rfl, h1, h2, h3, rfl⟩
      · refine ⟨_, rfl, _, rfl, _, rfl, _, _, rfl, rfl, hy0, _, _, rfl, rfl, y, x % y, rfl, hy, Int.emod_nonneg x (by omega), ?_, ?_⟩
        · rw [← hg, gcd_step]
        · have := Int.emod_lt_of_pos x hy0
          have := Int.emod_nonneg x (show y ≠ 0 by omega)
          omega
    · have hy0 : y = 0 := by
        have : ¬ 0 < y := fun z => hd (decide_eq_true z)
        omega
      subst hy0
      refine ⟨_, rfl, ?_⟩
      have e : ((Int.gcd a c : Nat) : Int) = x := by
        rw [← hg, Int.gcd_zero_right]
        omega
      rw [e] at q
      exact q
theorem ok_law_part (T : Tops K mg) (D_law_gcd : DefOk P w K mg base 1 "_law_gcd" ps__law_gcd spGcd) : DefOk P w K mg base 2 "_law_part" ps__law_part (spPart K) := by
  refine T.d_law_part.ok sc__law_part (fun vs H Q E h => ?_) (fun f cdv A outer s H vs Q E hr h => ?_)
  · obtain ⟨a, c, rfl, _⟩ := h
    rfl
  · obtain ⟨a, c, rfl, hc0, ha, hc, q⟩ := h
    refine ⟨_, (C8.pss_cut (ps_if (pt_cmpR op_lt (pv 1) pe_int (nomark _)) (pss_one (ps_par (i := 0) (j := 1) (by rfl) sc__law_part.nd rfl rfl (by decide) rfl rfl (pa_cons (pe_op op_sub pe_int (pv 0)) (pa_cons (pe_op op_sub pe_int (pv 1)) pa_nil)) (by rfl))) pss_nil) (pss_cons (ps_set (i := 2) sc__law_part.nd rfl (.inl rfl) (pe_callD D_law_gcd hr (by decide) (by rfl) (pa_cons (pe_callB call_abs (by rfl) T.m_abs (by decide +kernel) (pa_cons (pv 0) pa_nil)) (pa_cons (pv 1) pa_nil)))) (pss_one (ps_ret (pe_tup (pa_cons (pe_op op_fdivA (pv 0) (pv 2)) (pa_cons (pe_op op_fdivA (pv 1) (pv 2)) pa_nil))))))), ?_⟩
    refine ⟨fun σ' H' => H' = H ∧ ∃ a' c' : Int, σ' = [some (.int a'), some (.int c'), none] ∧ 0 < c' ∧ Rat.divInt a' c' = Rat.divInt a c ∧ a'.natAbs = a.natAbs ∧ c'.natAbs = c.natAbs, ?_, ?_⟩
    · repeat (walk_at "rd")
      refine iteD (fun hd => ?_) (fun hd => ?_)
      · refine ⟨_, rfl, _, _, rfl, rfl, _, rfl, _, _, rfl, rfl, _, _, rfl, rfl, 0 - a, 0 - c, rfl, by omega, ?_, by omega, by omega⟩
        rw [Int.zero_sub, Int.zero_sub, Rat.neg_divInt_neg]
      · exact ⟨rfl, a, c, rfl, by omega, rfl, rfl, rfl⟩
    · rintro σ' H' ⟨rfl, a', c', rfl, hc', he, ea, ec⟩
      refine ⟨_, rfl, _, rfl, _, rfl, _, c', rfl, ?_, by omega, ?_⟩
      · split <;> omega
      have eg : Int.gcd (if a' < 0 then -a' else a') c' = Int.gcd a' c' := by
        split
        · rw [Int.neg_gcd]
        · rfl
      rw [eg]
      have g0 : (0 : Int) < ((Int.gcd a' c' : Nat) : Int) := by
        have := Int.gcd_pos_of_ne_zero_right a' (show c' ≠ 0 by omega)
        omega
      have g1 : ((Int.gcd a' c' : Nat) : Int) ≤ c' := Int.gcd_le_right a' hc'
      have gw : CDivA a' ((Int.gcd a' c' : Nat) : Int) := ⟨by omega, Nat.lt_of_le_of_lt (show _ ≤ c.natAbs by omega) (pow_mono_lt hc (by decide))⟩
      obtain ⟨e1, e2⟩ := divInt_num_eq (a := a') hc'
      refine ⟨_, rfl, _, rfl, _, _, rfl, rfl, gw, _, rfl, _, rfl, _, _, rfl, rfl, gw, (show 2 ≤ sizeLine by decide), fun p np => ?_⟩
      refine q _ _ (same_new np) (PtV.new ?_ ?_)
      · rw [← he, e1, Int.fdiv_eq_ediv_of_nonneg a' (by omega)]
      · rw [← he, e2, Int.fdiv_eq_ediv_of_nonneg c' (by omega)]
theorem ok_law_number (T : Tops K mg) (D_law_get : DefOk P w K mg base 1 "_law_get" ps__law_get spGet) (D_law_far : DefOk P w K mg base 2 "_law_far" ps__law_far spFar) : DefOk P w K mg base 3 "_law_number" ps__law_number spNumber := by
  refine T.d_law_number.ok sc__law_number (fun vs H Q E h => ?_) (fun f cdv A outer s H vs Q E hr h => ?_)
  · obtain ⟨a, rfl, _⟩ := h
    rfl
  · obtain ⟨b, rfl, hB, q⟩ := h
    refine ⟨_, (pss_cons (ps_set (i := 1) sc__law_number.nd rfl (.inl rfl) (pe_callD D_law_get hr (by decide) (by rfl) (pa_cons (pv 0) (pa_cons pe_int pa_nil)))) (pss_cons (ps_if (pt_cmpR op_lt (pv 1) pe_int (nomark _)) (pss_one (ps_ret (pe_op op_sub (pe_callD D_law_get hr (by decide) (by rfl) (pa_cons (pv 0) (pa_cons pe_int pa_nil))) pe_int))) pss_nil) (pss_cons (ps_if (pt_cmpR op_eq (pv 1) pe_int (nomark _)) (pss_one (ps_ret (pe_op op_sub (pe_callD D_law_get hr (by decide) (by rfl) (pa_cons (pv 0) (pa_cons pe_int pa_nil))) pe_int))) pss_nil) (pss_one (ps_ret (pe_op op_mulA (pe_op op_add (pe_callD D_law_far hr (by decide) (by rfl) (pa_cons (pv 0) (pa_cons (pe_ix ix_list (pe_lst (pa_cons pe_int (pa_cons pe_int pa_nil))) (pe_op op_sub (pv 1) pe_int) (fun _ _ => rfl)) pa_nil))) pe_int) (pe_op op_sub pe_int (pe_op op_mulA pe_int (pe_callD D_law_get hr (by decide) (by rfl) (pa_cons (pv 0) (pa_cons pe_int pa_nil))))))))))), ?_⟩
    have small : ∀ r : Int, -1000 ≤ r → r ≤ 2000 → r.natAbs < 2 ^ 200 := fun r h1 h2 => Nat.lt_of_lt_of_le (show r.natAbs < 2 ^ 11 by omega) (Nat.pow_le_pow_right (by decide) (by decide))
    refine ⟨_, rfl, b, 5, rfl, hB, by decide, by decide, fun r H1 h0 h1 hB1 k1 => ?_⟩
    repeat (walk_at "rd")
    refine iteD (fun hd => ?_) (fun hd => ?_)
    · refine ⟨_, rfl, b, 9, rfl, hB1, by decide, by decide, fun r2 H2 h2 h3 hB2 k2 => ?_⟩
      refine ⟨_, _, rfl, rfl, q _ H2 (small _ (by omega) (by omega)) hB2 (k1.trans k2)⟩
    · refine ⟨_, rfl, rfl, _, rfl, ?_⟩
      refine iteD (fun hd2 => ?_) (fun hd2 => ?_)
      · refine ⟨_, rfl, b, 2001, rfl, hB1, by decide, by decide, fun r2 H2 h2 h3 hB2 k2 => ?_⟩
        refine ⟨_, _, rfl, rfl, q _ H2 (small _ (by omega) (by omega)) hB2 (k1.trans k2)⟩
      · have hr3 : r = 3 ∨ r = 4 := by
          have : ¬ r = 2 := fun z => hd2 (by rw [z])
          omega
        refine ⟨_, rfl, (show 2 ≤ sizeLine by decide), fun p np => ?_⟩
        have hBp := hB1.same (same_new (o := .lst [.int 3, .int 20]) np)
        refine ⟨_, rfl, _, _, rfl, rfl, ?_⟩
        rcases hr3 with rfl | rfl
        all_goals
          refine ⟨p, _, _, _, rfl, rfl, SqL.of upd_same, rfl, b, _, rfl, hBp, (by decide), fun r2 H2 h2 h3 hB2 k2 => ?_⟩
          refine ⟨_, _, rfl, rfl, _, rfl, b, 2, rfl, hB2, by decide, by decide, fun r3 H3 h4 h5 hB3 k3 => ?_⟩
          refine ⟨_, _, rfl, rfl, cmul_l ⟨by decide, by decide⟩, _, _, rfl, rfl, _, _, rfl, rfl, cmul_r ⟨by omega, by omega⟩, ?_⟩
          refine q _ H3 ?_ hB3 (k1.trans ((Kp.of (same_new np)).trans (k2.trans k3)))
          exact far_size h2 h3 (by decide) (by omega)
theorem ok_law_some_part (T : Tops K mg) (D_law_get : DefOk P w K mg base 1 "_law_get" ps__law_get spGet) (D_law_part : DefOk P w K mg base 2 "_law_part" ps__law_part (spPart K)) (D_law_number : DefOk P w K mg base 3 "_law_number" ps__law_number spNumber) : DefOk P w K mg base 4 "_law_some_part" ps__law_some_part (spSomePart K) := by
  refine T.d_law_some_part.ok sc__law_some_part (fun vs H Q E h => ?_) (fun f cdv A outer s H vs Q E hr h => ?_)
  · obtain ⟨a, rfl, _⟩ := h
    rfl
  · obtain ⟨b, rfl, hB, q⟩ := h
    refine ⟨_, (pss_cons (ps_set (i := 1) sc__law_some_part.nd rfl (.inl rfl) (pe_op op_add (pe_callB call_abs (by rfl) T.m_abs (by decide +kernel) (pa_cons (pe_callD D_law_number hr (by decide) (by rfl) (pa_cons (pv 0) pa_nil)) pa_nil)) pe_int)) (pss_one (ps_ret (pe_callD D_law_part hr (by decide) (by rfl) (pa_cons (pe_callD D_law_number hr (by decide) (by rfl) (pa_cons (pv 0) pa_nil)) (pa_cons (pe_ifExp (pt_cmpR op_gt (pe_callD D_law_get hr (by decide) (by rfl) (pa_cons (pv 0) (pa_cons pe_int pa_nil))) pe_int (nomark _)) (pv 1) pe_int) pa_nil)))))), ?_⟩
    refine ⟨_, rfl, b, rfl, hB, fun r H1 hr1 hB1 k1 => ?_⟩
    refine ⟨_, rfl, _, _, rfl, rfl, ?_⟩
    refine ⟨_, rfl, b, rfl, hB1, fun r2 H2 hr2 hB2 k2 => ?_⟩
    refine ⟨_, rfl, b, 3, rfl, hB2, by decide, by decide, fun r3 H3 h4 h5 hB3 k3 => ?_⟩
    have k := k1.trans (k2.trans k3.k0)
    have p201 : (2 : Nat) ^ 201 = 2 ^ 200 * 2 := by rw [← Nat.pow_succ]
    have p0 : 0 < (2 : Nat) ^ 200 := Nat.pow_pos (by decide)
    have b1 : (if r < 0 then -r else r) + 1 ≠ 0 ∧ ((if r < 0 then -r else r) + 1).natAbs < 2 ^ 201 := by
      rw [p201]
      generalize (2 : Nat) ^ 200 = N at *
      split <;> omega
    have b2 : r2.natAbs < 2 ^ 201 := pow_mono_lt hr2 (by decide)
    have b3 : (1 : Int) ≠ 0 ∧ (1 : Int).natAbs < 2 ^ 201 := ⟨by decide, by
      rw [p201]
      generalize (2 : Nat) ^ 200 = N at *
      omega⟩
    repeat (walk_at "rd")
    refine iteD (fun hd => ?_) (fun hd => ?_)
    · refine ⟨_, rfl, _, _, rfl, b1.1, pow_mono_lt b2 (by decide), pow_mono_lt b1.2 (by decide), fun v H4 s4 hv => ?_⟩
      exact q v _ H4 hv (size_divInt b1.1 b2 b1.2) (hB3.same s4) (k.trans (Kp.of s4))
    · refine ⟨_, _, rfl, b3.1, pow_mono_lt b2 (by decide), pow_mono_lt b3.2 (by decide), fun v H4 s4 hv => ?_⟩
      exact q v _ H4 hv (size_divInt b3.1 b2 b3.2) (hB3.same s4) (k.trans (Kp.of s4))
theorem ok_law_text (T : Tops K mg)  : DefOk P w K mg base 1 "_law_text" ps__law_text (spPText K) := by
  refine T.d_law_text.ok sc__law_text (fun vs H Q E h => ?_) (fun f cdv A outer s H vs Q E hr h => ?_)
  · unfold spPText at h
    obtain ⟨_, _, rfl, _⟩ := h
    rfl
  · unfold spPText at h
    obtain ⟨v, q, rfl, ⟨a, rfl, ha⟩, hz, k⟩ := h
    refine ⟨_, (pss_one (ps_ret (pe_ifExp (pt_cmpR op_eq (pe_ix ix_tup (pv 0) pe_int (fun _ _ => rfl)) pe_int (nomark _)) (pe_callTy call_str_int (by rfl) T.m_str (by decide +kernel) (pa_cons (pe_ix ix_tup (pv 0) pe_int (fun _ _ => rfl)) pa_nil)) (pe_op op_add_str (pe_op op_add_str (pe_callTy call_str_int (by rfl) T.m_str (by decide +kernel) (pa_cons (pe_ix ix_tup (pv 0) pe_int (fun _ _ => rfl)) pa_nil)) pe_str) (pe_callTy call_str_int (by rfl) T.m_str (by decide +kernel) (pa_cons (pe_ix ix_tup (pv 0) pe_int (fun _ _ => rfl)) pa_nil)))))), ?_⟩
    have l1 := txt_log hz.1
    have l2 : ((q.den : Int)).natAbs.log2 < 1920 := txt_log (by rw [Int.natAbs_natCast]; exact hz.2)
    have s1 := icps_len (k := 200) (by decide) hz.1
    have s2 := dig_len (k := 200) (by decide) hz.2
    refine ⟨_, rfl, a, _, _, _, rfl, rfl, ha, rfl, rfl, _, rfl, iteD (fun c => ?_) (fun c => ?_)⟩
    · have c : q.den = 1 := by have := V.int.inj c; omega
      refine ⟨_, rfl, a, _, _, _, rfl, rfl, ha, rfl, _, rfl, l1, ?_⟩
      refine k _ (congrArg V.str ?_)
      unfold pcps
      rw [if_pos c, List.append_nil]
      exact int_txt q.num
    · have c : ¬ q.den = 1 := fun z => c (by rw [z]; rfl)
      have e1 : Str.ofString (toString q.num) = tS (icps q.num) := int_txt _
      have e2 : Str.ofString (toString q.num) ++ Str.ofString "/" = tS (icps q.num ++ [47]) := by
        rw [e1, show Str.ofString "/" = tS [47] by decide +kernel, tS_app]
      have e3 : Str.ofString (toString q.num) ++ Str.ofString "/" ++ Str.ofString (toString (q.den : Int)) = tS (pcps q) := by
        rw [e2, num_txt, tS_app]
        unfold pcps
        rw [if_neg c, List.append_assoc]
        rfl
      refine ⟨_, rfl, a, _, _, _, rfl, rfl, ha, rfl, _, rfl, l1, _, _, rfl, rfl, zN (by rw [e1, tS_len, show (Str.ofString "/").length = 1 by decide +kernel]; omega), ?_⟩
      refine ⟨_, rfl, a, _, _, _, rfl, rfl, ha, rfl, _, rfl, l2, _, _, rfl, rfl, zN (by rw [e2, num_txt, tS_len, tS_len, List.length_append]; show _ + 1 + _ ≤ 1000; omega), ?_⟩
      exact k _ (congrArg V.str e3)
theorem ok_law_bent_text (T : Tops K mg) (D_law_get : DefOk P w K mg base 1 "_law_get" ps__law_get spGet) (D_law_pick : DefOk P w K mg base 2 "_law_pick" ps__law_pick spPick) : DefOk P w K mg base 3 "_law_bent_text" ps__law_bent_text spBentT := by
  refine T.d_law_bent_text.ok sc__law_bent_text (fun vs H Q E h => ?_) (fun f cdv A outer s H vs Q E hr h => ?_)
  · unfold spBentT at h
    obtain ⟨_, _, rfl, _⟩ := h
    rfl
  · unfold spBentT at h
    obtain ⟨b, l, rfl, hB, hl, hn, k⟩ := h
    refine ⟨_, (pss_cons (ps_set (i := 2) sc__law_bent_text.nd rfl (.inl rfl) (pe_callD D_law_get hr (by decide) (by rfl) (pa_cons (pv 0) (pa_cons (pe_op op_add (pe_callB call_len_str (by rfl) T.m_len PySem.boot_len (pa_cons (pv 1) pa_nil)) pe_int) pa_nil)))) (pss_cons (ps_set (i := 3) sc__law_bent_text.nd rfl (.inl rfl) (pe_callD D_law_get hr (by decide) (by rfl) (pa_cons (pv 0) (pa_cons pe_int pa_nil)))) (pss_cons (ps_set (i := 4) sc__law_bent_text.nd rfl (.inl rfl) (pe_callD D_law_pick hr (by decide) (by rfl) (pa_cons (pv 0) (pa_cons (pe_op op_cat (pe_callTy (call_listS rfl) (by rfl) T.m_list (by decide +kernel) (pa_cons pe_str pa_nil)) (pe_lst (pa_cons pe_str (pa_cons pe_str (pa_cons pe_str (pa_cons pe_str pa_nil)))))) pa_nil)))) (pss_cons (ps_if (pt_cmpR op_eq (pv 3) pe_int (nomark _)) (pss_one (ps_ret (pe_op op_add_str (pe_op op_add_str (pe_slice sl_str (pv 1) po_none (po_some (pv 2))) (pv 4)) (pe_slice sl_str (pv 1) (po_some (pv 2)) po_none)))) pss_nil) (pss_cons (ps_if (pt_cmpR op_eq (pv 3) pe_int (nomark _)) (pss_one (ps_ret (pe_op op_add_str (pe_op op_add_str (pe_slice sl_str (pv 1) po_none (po_some (pv 2))) (pv 4)) (pe_slice sl_str (pv 1) (po_some (pe_op op_add (pv 2) pe_int)) po_none)))) pss_nil) (pss_cons (ps_if (pt_cmpR op_eq (pv 3) pe_int (nomark _)) (pss_one (ps_ret (pe_op op_add_str (pe_slice sl_str (pv 1) po_none (po_some (pv 2))) (pe_slice sl_str (pv 1) (po_some (pe_op op_add (pv 2) pe_int)) po_none)))) pss_nil) (pss_one (ps_ret (pe_op op_add_str (pe_op op_add_str (pe_slice sl_str (pv 1) po_none (po_some (pv 2))) (pe_slice sl_str (pv 1) (po_some (pv 2)) (po_some (pe_op op_add (pv 2) pe_int)))) (pe_slice sl_str (pv 1) (po_some (pv 2)) po_none)))))))))), ?_⟩
    refine ⟨_, rfl, _, rfl, _, rfl, zN (by rw [tS_len]; omega), _, _, rfl, rfl, b, _, rfl, hB, ?_, ?_, fun r H1 r0 r1 hB1 k1 => ?_⟩
    · rw [tS_len]; omega
    · rw [tS_len]; omega
    rw [tS_len] at r1
    obtain ⟨a, rfl⟩ : ∃ a : Nat, r = (a : Int) := ⟨r.toNat, by omega⟩
    refine ⟨_, rfl, b, 4, rfl, hB1, by decide, by decide, fun g H2 g0 g1 hB2 k2 => ?_⟩
    refine ⟨_, rfl, _, rfl, by decide +kernel, fun p np => ⟨(show 4 ≤ sizeLine by decide), fun p2 np2 => ?_⟩⟩
    have s1 : Same H2 (upd H2 p (.lst ((Str.ofString " 0123456789-/:+,anest").cps.toList.map fun c => V.str ⟨#[c]⟩))) := same_new np
    have s2 := same_new (o := .lst [V.str "\n", V.str "A", V.str ".", V.str "_"]) np2
    have e1 := s2 _ _ (upd_same (H := H2) (a := p) (o := .lst ((Str.ofString " 0123456789-/:+,anest").cps.toList.map fun c => V.str ⟨#[c]⟩)))
    have e2 := upd_same (H := upd H2 p (.lst ((Str.ofString " 0123456789-/:+,anest").cps.toList.map fun c => V.str ⟨#[c]⟩))) (a := p2) (o := .lst [V.str "\n", V.str "A", V.str ".", V.str "_"])
    have s12 := s1.trans s2
    generalize upd (upd H2 p (.lst ((Str.ofString " 0123456789-/:+,anest").cps.toList.map fun c => V.str ⟨#[c]⟩))) p2 (.lst [V.str "\n", V.str "A", V.str ".", V.str "_"]) = H3 at e1 e2 s12 ⊢
    refine ⟨p, p2, _, _, rfl, rfl, e1, e2, (show _ ≤ sizeLine by decide +kernel), fun L nL => ?_⟩
    have s3 := same_new (o := .lst ((Str.ofString " 0123456789-/:+,anest").cps.toList.map (fun c => V.str ⟨#[c]⟩) ++ [V.str "\n", V.str "A", V.str ".", V.str "_"])) nL
    have hB3 := hB2.same (s12.trans s3)
    have hLb : L ≠ b := fun z => by
      obtain ⟨ys, hy⟩ := (hB2.same s12).lst
      rw [z, hy] at nL
      cases nL
    refine pick_step hB3 upd_same hLb (by decide +kernel) (by decide +kernel) fun v H4 hv hB4 k4 => ?_
    obtain ⟨c, hc, rfl⟩ := signs_low hv
    have kk : Kp b H H4 := (k1.k0.trans k2.k0).trans ((Kp.of (s12.trans s3)).trans k4)
    obtain ⟨m1, c1, sb1, n1⟩ := tcut_to l a
    obtain ⟨m2, c2, sb2, n2⟩ := tcut_from l a
    obtain ⟨m3, c3, sb3, n3⟩ := tcut_from l (a + 1)
    obtain ⟨m4, c4, sb4, n4⟩ := tcut_mid l a
    have c3' : cutS (tS l) (some ((a : Int) + 1)) none = tS m3 := c3
    have lz : (tS l).length ≤ sizeLine := zN (by rw [tS_len]; omega)
    have lc : ∀ x ∈ [c], x < 128 := low_one hc
    have l1 := low_sub hl sb1
    have l2 := low_sub hl sb2
    have l3 := low_sub hl sb3
    have l4 := low_sub hl sb4
    have zz : ∀ {x y : List Nat}, x.length + y.length ≤ 2000 → (tS x).length + (tS y).length ≤ sizeLine := fun {x y} h => by
      rw [tS_len, tS_len, sizeLine_eq]
      omega
    have h1 := sb1.length_le
    refine ⟨_, rfl, rfl, _, rfl, iteD (fun _ => ?_) (fun _ => ?_)⟩
    · refine ⟨_, rfl, _, rfl, _, rfl, _, rfl, lz, ?_⟩
      rw [c1]
      refine ⟨_, rfl, _, _, rfl, rfl, zz (by rw [List.length_singleton]; omega), ?_⟩
      rw [tS_app]
      refine ⟨_, rfl, _, rfl, _, rfl, _, rfl, lz, ?_⟩
      rw [c2]
      refine ⟨_, _, rfl, rfl, zz (by rw [List.length_append, List.length_singleton]; omega), ?_⟩
      rw [tS_app]
      refine k _ _ (low_app (low_app l1 lc) l2) ?_ hB4 kk
      rw [List.length_append, List.length_append, List.length_singleton]
      omega
    refine ⟨_, rfl, rfl, _, rfl, iteD (fun _ => ?_) (fun _ => ?_)⟩
    · refine ⟨_, rfl, _, rfl, _, rfl, _, rfl, lz, ?_⟩
      rw [c1]
      refine ⟨_, rfl, _, _, rfl, rfl, zz (by rw [List.length_singleton]; omega), ?_⟩
      rw [tS_app]
      refine ⟨_, rfl, _, rfl, _, _, rfl, rfl, _, rfl, _, rfl, lz, ?_⟩
      rw [c3']
      refine ⟨_, _, rfl, rfl, zz (by rw [List.length_append, List.length_singleton]; omega), ?_⟩
      rw [tS_app]
      refine k _ _ (low_app (low_app l1 lc) l3) ?_ hB4 kk
      rw [List.length_append, List.length_append, List.length_singleton]
      omega
    refine ⟨_, rfl, rfl, _, rfl, iteD (fun _ => ?_) (fun _ => ?_)⟩
    · refine ⟨_, rfl, _, rfl, _, rfl, _, rfl, lz, ?_⟩
      rw [c1]
      refine ⟨_, rfl, _, rfl, _, _, rfl, rfl, _, rfl, _, rfl, lz, ?_⟩
      rw [c3']
      refine ⟨_, _, rfl, rfl, zz (by omega), ?_⟩
      rw [tS_app]
      refine k _ _ (low_app l1 l3) ?_ hB4 kk
      rw [List.length_append]
      omega
    · refine ⟨_, rfl, _, rfl, _, rfl, _, rfl, lz, ?_⟩
      rw [c1]
      refine ⟨_, rfl, _, rfl, _, rfl, _, rfl, _, _, rfl, rfl, _, rfl, _, rfl, lz, ?_⟩
      rw [c4]
      refine ⟨_, _, rfl, rfl, zz (by omega), ?_⟩
      rw [tS_app]
      refine ⟨_, rfl, _, rfl, _, rfl, _, rfl, lz, ?_⟩
      rw [c2]
      refine ⟨_, _, rfl, rfl, zz (by rw [List.length_append]; omega), ?_⟩
      rw [tS_app]
      refine k _ _ (low_app (low_app l1 l4) l2) ?_ hB4 kk
      rw [List.length_append, List.length_append]
      omega
theorem ok_law_part_in (T : Tops K mg) (D_law_part : DefOk P w K mg base 2 "_law_part" ps__law_part (spPart K)) (D_law_text : DefOk P w K mg base 1 "_law_text" ps__law_text (spPText K)) : DefOk P w K mg base 3 "_law_part_in" ps__law_part_in (spPartIn K) := by
  refine T.d_law_part_in.ok sc__law_part_in (fun vs H Q E h => ?_) (fun f cdv A outer s H vs Q E hr h => ?_)
  · unfold spPartIn at h
    obtain ⟨_, rfl, _⟩ := h
    rfl
  · unfold spPartIn at h
    obtain ⟨l, rfl, hl, hn, k⟩ := h
    refine ⟨_, (pss_cons (ps_asg (pe_partition (pv 0) pe_str) (pg_tup rfl (pgs_cons (pg_name (i := 1) sc__law_part_in.nd rfl (.inl rfl)) (pgs_cons (pg_name (i := 2) sc__law_part_in.nd rfl (.inl rfl)) (pgs_cons (pg_name (i := 3) sc__law_part_in.nd rfl (.inl rfl)) pgs_nil))))) (pss_cons (ps_set (i := 4) sc__law_part_in.nd rfl (.inl rfl) (pe_lst (pa_cons (pe_slice sl_str (pv 1) (po_some (pe_callTy call_int1 (by rfl) T.m_int (by decide +kernel) (pa_cons (pe_cmpR op_eq (pe_slice sl_str (pv 1) po_none (po_some pe_int)) pe_str (nomark _)) pa_nil))) po_none) (pa_cons (pe_ifExp (pt_cmpR op_eq (pv 2) pe_str (nomark _)) (pv 3) pe_str) pa_nil)))) (pss_cons (ps_for PassesOwn.never rfl (pi_list (pv 4)) (pg_name (i := 5) sc__law_part_in.nd rfl (.inl rfl)) (pss_one (ps_if (PW.pt (pw_or (pt_not (pt_chain op_le op_le pe_int (pe_callB call_len_str (by rfl) T.m_len PySem.boot_len (pa_cons (pv 5) pa_nil)) pe_int)) (pw_or1 (pt_not (pt_val (pe_callB (cr_all rfl) (by rfl) T.m_all (by decide +kernel) (pa_cons (pe_lc (own := [("_law_sign", 7)]) (g := gName 7) (by rfl) sc__law_part_in.nd (pi_str (pv 5)) (blkOk_by (own := [("_law_sign", 7)]) (N := ["_law_text_here", "_law_above", "_law_mark", "_law_below", "_law_figures", "_law_word", "_law_found", "_law_sign"]) (sc := defScope s__law_part_in) (by decide +kernel)) (fun _ _ _ _ _ => (pg_name (i := 7) sc__law_part_in.nd rfl (.inl rfl))) (fun _ _ _ _ _ => pts_nil) (fun _ _ _ _ _ => (pe_cmpR (kk_op (K := K) (r := (fun _ => rInG)) rfl op_inG) (pv 7) pe_str (by rfl)))) pa_nil))))))) (pss_one (ps_ret pe_non)) pss_nil))) (pss_cons (ps_if (pt_cmpR op_eq (pe_callTy call_int_str (by rfl) T.m_int (by decide +kernel) (pa_cons (pe_ix ix_list (pv 4) pe_int (fun _ _ => rfl)) pa_nil)) pe_int (nomark _)) (pss_one (ps_ret pe_non)) pss_nil) (pss_cons (ps_set (i := 6) sc__law_part_in.nd rfl (.inl rfl) (pe_callD D_law_part hr (by decide) (by rfl) (pa_cons (pe_op op_mulA (pe_callTy call_int_str (by rfl) T.m_int (by decide +kernel) (pa_cons (pe_ix ix_list (pv 4) pe_int (fun _ _ => rfl)) pa_nil)) (pe_op op_sub pe_int (pe_op op_mulA pe_int (pe_callTy call_int1 (by rfl) T.m_int (by decide +kernel) (pa_cons (pe_cmpR op_eq (pe_slice sl_str (pv 1) po_none (po_some pe_int)) pe_str (nomark _)) pa_nil))))) (pa_cons (pe_callTy call_int_str (by rfl) T.m_int (by decide +kernel) (pa_cons (pe_ix ix_list (pv 4) pe_int (fun _ _ => rfl)) pa_nil)) pa_nil)))) (pss_one (ps_ret (pe_ifExp (pt_cmpR op_eq (pe_callD D_law_text hr (by decide) (by rfl) (pa_cons (pv 6) pa_nil)) (pv 0) (nomark _)) (pv 6) pe_non)))))))), ?_⟩
    refine ⟨_, rfl, ⟨_, rfl⟩, _, _, rfl, rfl, by decide +kernel, zN (by rw [tS_len]; exact hn), fun p np => ?_⟩
    rw [part_txt]
    have sp := same_new (o := .tup [.str (tS (headP l)), .str (tS (markP l)), .str (tS (tailP l))]) np
    refine ⟨p, _, rfl, SqT.of upd_same, rfl, _, _, rfl, _, _, rfl, _, _, rfl, rfl, ?_⟩
    generalize upd H p (.tup [.str (tS (headP l)), .str (tS (markP l)), .str (tS (tailP l))]) = H1 at sp ⊢
    have lh : (headP l).length ≤ 1000 := Nat.le_trans (List.takeWhile_sublist _).length_le hn
    have lz : (tS (headP l)).length ≤ sizeLine := zN (by rw [tS_len]; exact lh)
    refine ⟨_, rfl, _, rfl, _, rfl, _, rfl, lz, ?_⟩
    rw [tcut_one]
    refine ⟨rfl, .inr ⟨_, rfl, _, rfl, _, rfl, lz, ?_⟩⟩
    rw [above_cut]
    refine ⟨_, rfl, rfl, _, rfl, ?_⟩
    have mk1 : V.str (tS (markP l)) = V.str (Str.ofString "/") ↔ 47 ∈ l := by
      rw [show Str.ofString "/" = tS [47] by decide +kernel]
      unfold markP
      by_cases c : 47 ∈ l
      · rw [if_pos c]
        exact ⟨fun _ => c, fun _ => rfl⟩
      · rw [if_neg c]
        exact ⟨fun z => absurd (tS_inj (V.str.inj z)) (by decide), fun z => absurd z c⟩
    have eb := (head_strip l).2.1
    refine ite_read (x := .str (tS (belowP (stripM l)))) rfl (fun c => ?_) (fun c => ?_) ?_
    · rw [eb]
      unfold belowP
      rw [if_pos (mk1.mp c)]
    · rw [eb]
      unfold belowP
      rw [if_neg (fun z => c (mk1.mpr z))]
      exact congrArg V.str (show Str.ofString "1" = tS [49] by decide +kernel)
    have lows : ∀ c ∈ stripM l, c < 128 := fun c hc => hl c (strip_sub c hc)
    have ls := strip_len l
    have la : (headP (stripM l)).length ≤ 1000 := Nat.le_trans (List.takeWhile_sublist _).length_le (by omega)
    have lb : (belowP (stripM l)).length ≤ 1000 := below_len (by omega)
    have pv : partD l = partD l := rfl
    refine ⟨(show 2 ≤ sizeLine by decide), fun L nL => ?_⟩
    have sL := same_new (o := .lst [V.str (tS (headP (stripM l))), V.str (tS (belowP (stripM l)))]) nL
    have hL := upd_same (H := H1) (a := L) (o := .lst [V.str (tS (headP (stripM l))), V.str (tS (belowP (stripM l)))])
    have s1 := sp.trans sL
    generalize upd H1 L (.lst [V.str (tS (headP (stripM l))), V.str (tS (belowP (stripM l)))]) = H2 at sL hL s1 ⊢
    refine ⟨_, rfl, L, rfl, ⟨_, SqL.of hL⟩, ?_⟩
    have no : ∀ H', Same H2 H' → readD l = none → Q .non H' := fun H' s' e => k _ _ (s1.trans s') (by rw [e]; rfl)
    refine for_list (xs := [headP (stripM l), belowP (stripM l)].map fun w => V.str (tS w)) (fun i σ H' => Same H2 H' ∧ (∃ v5 : Option V, σ = [some (.str (tS l)), some (.str (tS (headP l))), some (.str (tS (markP l))), some (.str (tS (tailP l))), some (.ref L), v5, none, none]) ∧ ∀ w ∈ [headP (stripM l), belowP (stripM l)].take i, figs w = true) ⟨Same.refl _, ⟨none, rfl⟩, (fun w hw => absurd hw (List.not_mem_nil))⟩ (fun i σ H' _ z => SqL.of (z.1 _ _ hL)) ?_ ?_
    · rintro i x σ H3 hx ⟨s3, ⟨v5, rfl⟩, hall⟩
      obtain ⟨w, hw, rfl⟩ : ∃ w, [headP (stripM l), belowP (stripM l)][i]? = some w ∧ V.str (tS w) = x := by
        rw [List.getElem?_map] at hx
        cases e : [headP (stripM l), belowP (stripM l)][i]? with
        | none => rw [e] at hx; cases hx
        | some w => rw [e] at hx; exact ⟨w, rfl, Option.some.inj hx⟩
      have hwm := List.mem_of_getElem? hw
      have lw : w.length ≤ 1000 := by
        simp only [List.mem_cons, List.not_mem_nil, or_false] at hwm
        rcases hwm with rfl | rfl
        · exact la
        · exact lb
      have bad : figs w = false → readD l = none := fun e => by
        simp only [List.mem_cons, List.not_mem_nil, or_false] at hwm
        rcases hwm with rfl | rfl
        · exact read_no1 e
        · exact read_no2 e
      have ef : figs w = (decide (w ≠ [] ∧ w.length ≤ 200) && w.all fun c => decide (48 ≤ c ∧ c ≤ 57)) := rfl
      refine ⟨_, rfl, _, rfl, zN (by rw [tS_len]; exact lw), _, _, rfl, rfl, _, rfl, ?_⟩
      rw [tS_len]
      refine iteD (fun c1 => ?_) (fun c1 => ?_)
      · refine ⟨_, _, rfl, rfl, _, rfl, ?_⟩
        by_cases c2 : (w.length : Int) ≤ 200
        · refine iteNS c2 ?_
          refine ⟨_, rfl, _, rfl, fun D nD => ?_⟩
          refine lc_it (walk_str (z := tS w)) (fun i H' => Same H3 H' ∧ H' D = some (.lst (((digB w).take i).map V.bl))) ⟨same_new nD, upd_same⟩ (fun _ _ _ _ => trivial) ?_ ?_
          · rintro j x H4 H5 hj ⟨s4, hD⟩ ⟨rfl, c, hc, rfl⟩
            have hc : w[j]? = some c := by
              rw [← hc, ← Array.getElem?_toList]
              rfl
            have hjl : j < w.length := (List.getElem?_eq_some_iff.mp hc).1
            refine ⟨rfl, _, rfl, c, _, rfl, rfl, ?_⟩
            rw [dig_in]
            refine ⟨_, hD, small1000 (by rw [List.length_map, List.length_take]; omega), same_write nD s4, ?_⟩
            rw [upd_same, List.take_add_one]
            unfold digB
            rw [List.getElem?_map, hc, List.map_append]
            rfl
          rintro H4 ⟨s4, hD⟩
          have hz : (tS w).cps.size = w.length := tS_len w
          rw [hz, List.take_of_length_le (by unfold digB; rw [List.length_map]; exact Nat.le_refl _)] at hD
          refine ⟨D, _, rfl, SqL.of hD, ?_⟩
          rw [digB_all]
          cases e : w.all fun c => decide (48 ≤ c ∧ c ≤ 57) with
          | false => exact ⟨_, rfl, no _ (s3.trans s4) (bad (by rw [ef, e, Bool.and_false]))⟩
          | true =>
            refine ⟨_, rfl, s3.trans s4, ⟨_, rfl⟩, fun w' hw' => ?_⟩
            rw [List.take_add_one, hw] at hw'
            rcases List.mem_append.mp hw' with hw' | hw'
            · exact hall w' hw'
            · rcases List.mem_singleton.mp hw' with rfl
              rw [ef, e, Bool.and_true]
              exact decide_eq_true ⟨fun z => by rw [z] at c1; exact absurd c1 (by decide), by omega⟩
        · refine iteNT c2 ?_
          exact no _ s3 (bad (by rw [ef, decide_eq_false (fun z => c2 (by omega))]; rfl))
      · refine ⟨_, rfl, ?_⟩
        exact no _ s3 (bad (by rw [ef, decide_eq_false (fun z => z.1 (List.length_eq_zero_iff.mp (by omega)))]; rfl))
    rintro σ H3 ⟨s3, ⟨v5, rfl⟩, hall⟩
    have f1 : figs (headP (stripM l)) = true := hall _ (by simp)
    have f2 : figs (belowP (stripM l)) = true := hall _ (by simp)
    have nb := int_of_txt f2
    have na := int_of_txt f1
    have la := (figs_inv f1).2.1
    have lb := (figs_inv f2).2.1
    have hL3 := s3 _ _ hL
    refine ⟨_, rfl, L, _, 1, _, rfl, rfl, SqL.of hL3, rfl, _, _, rfl, nb, by rw [tS_len]; omega, rfl, _, rfl, iteD (fun f3 => ?_) (fun f3 => ?_)⟩
    · exact no _ s3 (read_no3 (by have := V.int.inj f3; omega))
    replace f3 : NumText.digitsVal (belowP (stripM l)) ≠ 0 := fun z => f3 (by rw [z]; rfl)
    have v1 := figs_lt f1
    have v2 := figs_lt f2
    refine ⟨_, rfl, L, _, 0, _, rfl, rfl, SqL.of hL3, rfl, _, _, rfl, na, by rw [tS_len]; omega, ?_⟩
    have sg : 1 - 2 * (if l.head? = some 45 then (1 : Int) else 0) = 1 ∨ 1 - 2 * (if l.head? = some 45 then (1 : Int) else 0) = -1 := by
      split
      · exact .inr rfl
      · exact .inl rfl
    refine ⟨_, rfl, _, rfl, _, rfl, lz, ?_⟩
    rw [tcut_one]
    refine ⟨rfl, .inr ⟨_, rfl, ?_⟩⟩
    rw [sign_val]
    refine ⟨_, _, rfl, rfl, cmul_l ⟨by decide, by decide⟩, _, _, rfl, rfl, _, _, rfl, rfl, cmul_r ⟨by omega, by omega⟩, ?_⟩
    refine ⟨_, rfl, L, _, 1, _, rfl, rfl, SqL.of hL3, rfl, _, _, rfl, nb, by rw [tS_len]; omega, ?_⟩
    have big : ∀ {n : Nat}, n < 10 ^ 200 → n < 2 ^ 8000 := fun {n} h => Nat.lt_of_lt_of_le h (by decide +kernel)
    have ea : (((NumText.digitsVal (headP (stripM l)) : Nat) : Int) * (1 - 2 * (if l.head? = some 45 then (1 : Int) else 0))).natAbs = NumText.digitsVal (headP (stripM l)) := by
      rcases sg with e | e
      · rw [e]; omega
      · rw [e]; omega
    refine ⟨_, _, rfl, by omega, by rw [ea]; exact big v1, by rw [Int.natAbs_natCast]; exact big v2, fun u H4 s4 hu => ?_⟩
    rw [part_val] at hu
    have fo : FigOk (partD l) := by
      have fo := fig_div v1 v2 f3
      unfold partD
      dsimp only
      split
      · exact fig_neg fo
      · exact fo
    refine ⟨_, rfl, ptext_step hu fo ⟨_, rfl, rfl, _, rfl, ?_⟩⟩
    refine iteD (fun c => ?_) (fun c => ?_)
    · refine ⟨_, rfl, k _ _ ((s1.trans s3).trans s4) ?_⟩
      rw [read_yes f1 f2 f3 (tS_inj (V.str.inj c))]
      exact hu
    · exact no _ (s3.trans s4) (read_no4 fun z => c (congrArg (fun m => V.str (tS m)) z))
theorem okx_read_part (T : Tops K mg) (Z_BadText : ExcOkF P w K mg base "BadText" "at") (D_part : DefOk P w K mg base 1 "part" ps_part (spPart K)) (D_minus : DefOk P w K mg base 2 "minus" ps_minus (spTwo K (fun _ _ => True) fun x y => x - y)) (D_part_text : DefOk P w K mg base 1 "part_text" ps_part_text (spPText K)) (D_are_figures : DefOk P w K mg base 1 "_are_figures" ps__are_figures spFigs) : DefOkX P w K mg base 4 "read_part" ps_read_part (spReadX K mg) := by
  refine T.d_read_part.okX sc_read_part (fun vs H Q E h => ?_) (fun f cdv A outer s H vs Q E hr h => ?_)
  · unfold spReadX at h
    obtain ⟨_, rfl, _⟩ := h
    rfl
  · unfold spReadX at h
    obtain ⟨l, rfl, hl, hn, k, hE⟩ := h
    obtain ⟨na_NOUGHT, mg_NOUGHT, hNG⟩ := T.m_NOUGHT
    refine ⟨_, (pss_cons (ps_asg (pe_partition (pe_bm PySem.F.plainAttrs_str PySem.F.slot_str_removeprefix PySem.F.type_str_removeprefix mt_removeprefix (pv 0) (pa_cons pe_str pa_nil)) pe_str) (pg_tup rfl (pgs_cons (pg_name (i := 1) sc_read_part.nd rfl (.inl rfl)) (pgs_cons (pg_name (i := 2) sc_read_part.nd rfl (.inl rfl)) (pgs_cons (pg_name (i := 3) sc_read_part.nd rfl (.inl rfl)) pgs_nil))))) (C8.pss_cut (ps_if (pt_cmpR op_eq (pv 2) pe_str (nomark _)) (pss_one (ps_set (i := 3) sc_read_part.nd rfl (.inl rfl) pe_str)) pss_nil) (pss_cons (ps_if (PW.pt (pw_or (pt_not (pt_val (pe_callD D_are_figures hr (by decide) (by rfl) (pa_cons (pv 1) pa_nil)))) (pw_or (pt_not (pt_val (pe_callD D_are_figures hr (by decide) (by rfl) (pa_cons (pv 3) pa_nil)))) (pw_or1 (pt_cmpR op_eq (pe_callTy call_int_str (by rfl) T.m_int (by decide +kernel) (pa_cons (pv 3) pa_nil)) pe_int (nomark _)))))) (pss_one (ps_raise rfl (takes_of rfl rfl rfl rfl) (pmk_f Z_BadText (hr.mono (by decide)) (by rfl) (pa_cons pe_int pa_nil)))) pss_nil) (pss_cons (ps_set (i := 4) sc_read_part.nd rfl (.inl rfl) (pe_callD D_part hr (by decide) (by rfl) (pa_cons (pe_callTy call_int_str (by rfl) T.m_int (by decide +kernel) (pa_cons (pv 1) pa_nil)) (pa_cons (pe_callTy call_int_str (by rfl) T.m_int (by decide +kernel) (pa_cons (pv 3) pa_nil)) pa_nil)))) (C8.pss_cut (ps_if (pt_val (pe_bm PySem.F.plainAttrs_str PySem.F.slot_str_startswith PySem.F.type_str_startswith mt_startswith (pv 0) (pa_cons pe_str pa_nil))) (pss_one (ps_set (i := 4) sc_read_part.nd rfl (.inl rfl) (pe_callD D_minus hr (by decide) (by rfl) (pa_cons (pe_glob (v := V.ref na_NOUGHT) (by rfl) mg_NOUGHT rfl) (pa_cons (pv 4) pa_nil))))) pss_nil) (pss_cons (ps_if (pt_cmpR op_ne (pe_callD D_part_text hr (by decide) (by rfl) (pa_cons (pv 4) pa_nil)) (pv 0) (nomark _)) (pss_one (ps_raise rfl (takes_of rfl rfl rfl rfl) (pmk_f Z_BadText (hr.mono (by decide)) (by rfl) (pa_cons pe_int pa_nil)))) pss_nil) (pss_one (ps_ret (pv 4))))))))), ?_⟩
    have lows : ∀ c ∈ stripM l, c < 128 := fun c hc => hl c (strip_sub c hc)
    have ls := strip_len l
    have lowa : ∀ c ∈ headP (stripM l), c < 128 := fun c hc => lows c ((List.takeWhile_sublist _).subset hc)
    have la : (headP (stripM l)).length ≤ 1000 := Nat.le_trans (List.takeWhile_sublist _).length_le (by omega)
    have lowb : ∀ c ∈ belowP (stripM l), c < 128 := below_low lows
    have lb : (belowP (stripM l)).length ≤ 1000 := below_len (by omega)
    refine ⟨_, rfl, rfl, _, _, rfl, rfl, zN (by rw [tS_len]; exact hn), ⟨_, rfl⟩, ?_⟩
    rw [rem_txt]
    refine ⟨_, _, rfl, rfl, by decide +kernel, zN (by rw [tS_len]; omega), fun p np => ?_⟩
    rw [part_txt]
    have sp := same_new (o := .tup [.str (tS (headP (stripM l))), .str (tS (markP (stripM l))), .str (tS (tailP (stripM l)))]) np
    refine ⟨p, _, rfl, SqT.of upd_same, rfl, _, _, rfl, _, _, rfl, _, _, rfl, rfl, ?_⟩
    generalize upd H p (.tup [.str (tS (headP (stripM l))), .str (tS (markP (stripM l))), .str (tS (tailP (stripM l)))]) = H1 at sp ⊢
    refine ⟨fun σ' H' => H' = H1 ∧ ∃ v2 : Option V, σ' = [some (.str (tS l)), some (.str (tS (headP (stripM l)))), v2, some (.str (tS (belowP (stripM l)))), none], ?_, ?_⟩
    · refine ⟨_, rfl, rfl, _, rfl, ?_⟩
      unfold markP belowP
      by_cases c : 47 ∈ stripM l
      · rw [if_pos c, if_pos c]
        refine iteDF (show ¬ V.str (tS [47]) = V.str (Str.ofString "") by decide +kernel) ⟨rfl, _, rfl⟩
      · rw [if_neg c, if_neg c]
        refine iteDT (show V.str (tS []) = V.str (Str.ofString "") by decide +kernel) ⟨rfl, some (.str (tS [])), ?_⟩
        show _ = _
        rw [show tS [49] = Str.ofString "1" by decide +kernel]
        rfl
    rintro σ' H' ⟨rfl, v2, rfl⟩
    refine ⟨_, rfl, figs_step lowa la ⟨_, rfl, ?_⟩⟩
    cases f1 : figs (headP (stripM l)) with
    | false => exact ⟨_, rfl, (hE (read_no1 f1)).later sp⟩
    | true => ?_
    refine ⟨_, rfl, figs_step lowb lb ⟨_, rfl, ?_⟩⟩
    cases f2 : figs (belowP (stripM l)) with
    | false => exact ⟨_, rfl, (hE (read_no2 f2)).later sp⟩
    | true => ?_
    have la := (figs_inv f1).2.1
    have lb := (figs_inv f2).2.1
    have nb := int_of_txt f2
    have na := int_of_txt f1
    refine ⟨_, rfl, _, _, rfl, nb, by rw [tS_len]; omega, rfl, _, rfl, iteD (fun f3 => ?_) (fun f3 => ?_)⟩
    · exact ⟨_, rfl, (hE (read_no3 (by have := V.int.inj f3; omega))).later sp⟩
    replace f3 : NumText.digitsVal (belowP (stripM l)) ≠ 0 := fun z => f3 (by rw [z]; rfl)
    have v1 := figs_lt f1
    have v2' := figs_lt f2
    have big : ∀ {n : Nat}, n < 10 ^ 200 → ((n : Int)).natAbs < 2 ^ 8000 := fun {n} h => by
      rw [Int.natAbs_natCast]
      exact Nat.lt_of_lt_of_le h (by decide +kernel)
    refine ⟨_, rfl, _, _, rfl, na, by rw [tS_len]; omega, _, rfl, _, _, rfl, nb, by rw [tS_len]; omega, _, _, rfl, by omega, big v1, big v2', fun u H2 s2 hu => ?_⟩
    have fo := fig_div v1 v2' f3
    have ed : partD l = if l.head? = some 45 then 0 - Rat.divInt (NumText.digitsVal (headP (stripM l)) : Nat) (NumText.digitsVal (belowP (stripM l)) : Nat) else Rat.divInt (NumText.digitsVal (headP (stripM l)) : Nat) (NumText.digitsVal (belowP (stripM l)) : Nat) := rfl
    generalize Rat.divInt ((NumText.digitsVal (headP (stripM l)) : Nat) : Int) ((NumText.digitsVal (belowP (stripM l)) : Nat) : Int) = x at hu fo ed
    refine ⟨fun σ' H' => Same H2 H' ∧ ∃ u' : V, σ' = [some (.str (tS l)), some (.str (tS (headP (stripM l)))), v2, some (.str (tS (belowP (stripM l)))), some u'] ∧ PtV K H' u' (partD l), ?_, ?_⟩
    · refine ⟨_, rfl, rfl, _, _, rfl, rfl, _, rfl, ?_⟩
      rw [starts_txt]
      refine iteD (fun c => ?_) (fun c => ?_)
      · rw [if_pos c] at ed
        have sz := fig_sz fo
        have z0 : Sz 700 (0 : Rat) := ⟨Nat.pow_pos (by decide), Nat.one_lt_two_pow (by decide)⟩
        refine ⟨_, rfl, two_step (hNG H2) hu z0 sz (by decide) (by decide) trivial fun u2 H3 s3 hu2 => ⟨s3, u2, rfl, ?_⟩⟩
        rw [ed]
        exact hu2
      · rw [if_neg c] at ed
        exact ⟨Same.refl _, u, rfl, by rw [ed]; exact hu⟩
    rintro σ' H3 ⟨s3, u', rfl, hu'⟩
    have fo' : FigOk (partD l) := by
      rw [ed]
      split
      · exact fig_neg fo
      · exact fo
    refine ⟨_, rfl, ptext_step hu' fo' ⟨_, rfl, rfl, _, rfl, ?_⟩⟩
    by_cases f5 : pcps (partD l) = l
    · rw [f5]
      refine iteNS rfl ?_
      exact ⟨_, rfl, k _ (read_yes f1 f2 f3 f5) _ _ ((sp.trans s2).trans s3) hu'⟩
    · refine iteNT (fun z => f5 (tS_inj (V.str.inj z))) ?_
      exact ⟨_, rfl, (hE (read_no4 f5)).later ((sp.trans s2).trans s3)⟩
theorem ok_law_read (T : Tops K mg) (DX_read_part : DefOkX P w K mg base 4 "read_part" ps_read_part (spReadX K mg)) : DefOk P w K mg base 5 "_law_read" ps__law_read (spLRead K) := by
  obtain ⟨c1, e1⟩ : ∃ c, mg "BadText" = some c := by
    obtain ⟨C, fI, fd, CC, fB, fdB, Z, _⟩ := T.x_BadText
    exact ⟨_, Z.mgC⟩
  refine T.d_law_read.ok sc__law_read (fun vs H Q E h => ?_) (fun f cdv A outer s H vs Q E hr h => ?_)
  · unfold spLRead at h
    obtain ⟨_, rfl, _⟩ := h
    rfl
  · unfold spLRead at h
    obtain ⟨l, rfl, hl, hn, k⟩ := h
    refine ⟨_, pss_cons (ps_asg (pe_tup (pa_cons pe_non (pa_cons pe_non pa_nil))) (pg_tup rfl (pgs_cons (pg_name (i := 1) sc__law_read.nd rfl (.inl rfl)) (pgs_cons (pg_name (i := 2) sc__law_read.nd rfl (.inl rfl)) pgs_nil))))
      (pss_cons (ps_try_named (i := 3) rfl rfl sc__law_read.nd rfl rfl L2.takes0
        (fun W pn xe tk _ => pss_one (ps_set (i := 1) sc__law_read.nd rfl (.inl rfl) (pe_callW DX_read_part hr (by decide) tk (by rfl) (pa_cons (pv 0) pa_nil))))
        (.cons ⟨rfl, by decide, .inl e1⟩ (fun e oe cls d pn hz hf => pss_one (ps_set (i := 2) sc__law_read.nd rfl (.inl rfl) (pe_fldx hz hf (pv 3)))) .nil))
        (pss_one (ps_ret (pe_tup (pa_cons (pv 1) (pa_cons (pv 2) pa_nil)))))), ?_⟩
    refine ⟨(show 2 ≤ sizeLine by decide), fun p0 np0 => ⟨p0, _, rfl, SqT.of upd_same, rfl, _, _, rfl, _, _, rfl, rfl, ?_⟩⟩
    have s0 := same_new (o := .tup [V.non, V.non]) np0
    refine ⟨_, rfl, readx_step hl hn (fun q e v H1 s1 hv => ?_) (fun e cls d H1 ⟨C, dd, hc, hm, xf, no1, no2, tx, tk, hd, ed⟩ s1 => ?_)⟩
    · refine ⟨_, rfl, _, rfl, (show 2 ≤ sizeLine by decide), fun p np => ?_⟩
      have s2 := same_new (o := .tup [v, V.non]) np
      refine k _ _ ((s0.trans s1).trans s2) ?_
      rw [e]
      exact .tup (SqT.of upd_same) (.cons (hv.same s2).dp (.cons .non .nil))
    · subst hc
      rw [e1] at hm
      cases hm
      refine ⟨true, tx, fun _ x nx => ?_, fun z => nomatch z⟩
      refine ⟨_, rfl, rfl, C, dd, _, .int 0, rfl, xf, no2, hd, ed, rfl, _, rfl, _, rfl, (show 2 ≤ sizeLine by decide), fun p np => ?_⟩
      refine k _ _ ((s0.trans s1).trans (same_new np)) ?_
      rw [e]
      exact .tup (SqT.of upd_same) (.cons .non (.cons (.int 0) .nil))
end
end Cc
set_option exponentiation.threshold 10000
set_option maxHeartbeats 20000000
namespace Cc
open PySem PySem.Spec PyProof.Rows L2 LamX
local macro_rules | `(tactic| walk_at "sd") => `(tactic| first
  | exact cmul_r ⟨by decide, by decide⟩
  | exact cmul_l ⟨by decide, by decide⟩
  | exact cmul_l ⟨by omega, by omega⟩
  | exact cmul_w (by assumption) (by assumption) (by decide)
  | exact (show CPow 10 18 from ⟨by decide, by decide, by decide⟩)
  | exact (show (0 : Int) < 2147483629 by decide)
  | exact (show CDiv _ _ from ⟨by decide, by decide⟩)
  | exact (show CDiv _ _ from ⟨by assumption, by assumption⟩)
  | assumption)
local macro_rules | `(tactic| walk_at "rd") => `(tactic| first
  | refine ⟨_, rfl, ?_⟩
  | refine ⟨_, _, rfl, rfl, ?_⟩
  | (refine ⟨_, ?_, _, ?_, rfl, rfl, ?_, ?_, ?_⟩; rotate_left 2; (first | exact SqL.of (by assumption) | (show SqT _ _ _ _; assumption) | (show SqL _ _ _ _; assumption)); (first | exact rfl | assumption))
  | (refine ⟨_, ?_, rfl, ?_, ?_⟩; rotate_left 1; (first | exact .inl (SqL.of (by assumption)) | exact .inl (SqL.of upd_same)))
  | (refine And.intro ?_ ?_; (focus (walk_at "sd"))))
section
variable {P : Program} {w : World} {K : PySem.W.Frag} {mg : Str → Option Value} {base : Heap}
theorem fig_201 {q : Rat} (h : Sz 201 q) : FigOk q := ⟨Nat.lt_of_lt_of_le h.1 (by decide +kernel), Nat.lt_of_lt_of_le h.2 (by decide +kernel)⟩
def oddOk (x : Str) : Bool := x.cps.toList.all (fun c => decide (c < 128)) && (decide (x.length ≤ 1000) && (readD x.cps.toList).isNone)
theorem odd_ok {x : Str} (h : oddOk x = true) : ∃ l, x = tS l ∧ (∀ c ∈ l, c < 128) ∧ l.length ≤ 1000 ∧ readD l = none := by
  unfold oddOk at h
  rw [Bool.and_eq_true, Bool.and_eq_true] at h
  refine ⟨x.cps.toList, (tS_of x).symm, fun c hc => of_decide_eq_true (List.all_eq_true.mp h.1 c hc), of_decide_eq_true h.2.1, Option.isNone_iff_eq_none.mp h.2.2⟩
def nineS : Str := ⟨(List.replicate (201 : Int).toNat (Str.ofString "9").cps).foldl (· ++ ·) #[]⟩
def odds : List Str := [Str.ofString "", Str.ofString "-", Str.ofString "/", Str.ofString "1/", Str.ofString "/2", Str.ofString "2/4", Str.ofString "1/1", Str.ofString "-0", Str.ofString "00", Str.ofString "01", Str.ofString "+1", Str.ofString "1/0", Str.ofString "1/-2", Str.ofString "--1", Str.ofString "1 ", Str.ofString " 1", Str.ofString "1/02", Str.ofString "0/1",
  Str.ofString "0/3", Str.ofString "1/2/3", nineS, Str.ofString "1/" ++ nineS, Str.ofString "1\n", Str.ofString "a"]
theorem odds_ok : odds.all oddOk = true := by decide +kernel
theorem dle_rd (o : Option Rat) : dle 6 (dRd o) = true := by
  cases o with
  | none => rfl
  | some q => rfl
theorem opt_dp {K : PySem.W.Frag} {H : Hp} {v : V} {q : Rat} (h : OPt K H v (some q)) : PtV K H v q := h
theorem ok_law {f : Addr} {fd : FuncData} (T : Tops K mg) (F : Fun K "law" "law" s_law f fd) (D_law_bag : DefOk P w K mg base 1 "_law_bag" ps__law_bag (spBag K)) (D_law_get : DefOk P w K mg base 1 "_law_get" ps__law_get spGet) (D_law_same : DefOk P w K mg base 6 "_law_same" ps__law_same (spSame K 6)) (D_law_some_part : DefOk P w K mg base 4 "_law_some_part" ps__law_some_part (spSomePart K)) (D_law_text : DefOk P w K mg base 1 "_law_text" ps__law_text (spPText K)) (D_law_bent_text : DefOk P w K mg base 3 "_law_bent_text" ps__law_bent_text spBentT) (D_law_part_in : DefOk P w K mg base 3 "_law_part_in" ps__law_part_in (spPartIn K)) (D_law_read : DefOk P w K mg base 5 "_law_read" ps__law_read (spLRead K)) : FnOk P w K mg base CX0 7 f fd ps_law (spLaw K) := by
  refine F.ok sc_law (fun vs H Q E h => ?_) (fun cdv A outer s H vs Q E hr h => ?_)
  · obtain ⟨_, _, rfl, _⟩ := h
    rfl
  · obtain ⟨a, ns, rfl, hS, hlen, q⟩ := h
    refine ⟨_, (pss_cons (ps_set (i := 1) sc_law.nd rfl (.inl rfl) (pe_callD D_law_bag hr (by decide) (by rfl) (pa_cons (pv 0) pa_nil))) (pss_cons (ps_for PassesOwn.never rfl (pi_range1 rfl T.m_range (pa_cons pe_int pa_nil)) (pg_name (i := 2) sc_law.nd rfl (.inl rfl)) (pss_cons (ps_set (i := 3) sc_law.nd rfl (.inl rfl) (pe_callD D_law_text hr (by decide) (by rfl) (pa_cons (pe_callD D_law_some_part hr (by decide) (by rfl) (pa_cons (pv 1) pa_nil)) pa_nil))) (pss_cons (ps_for PassesOwn.never rfl (pi_range1 rfl T.m_range (pa_cons (pe_callD D_law_get hr (by decide) (by rfl) (pa_cons (pv 1) (pa_cons pe_int pa_nil))) pa_nil)) (pg_name (i := 4) sc_law.nd rfl (.inl rfl)) (pss_one (ps_set (i := 3) sc_law.nd rfl (.inl rfl) (pe_callD D_law_bent_text hr (by decide) (by rfl) (pa_cons (pv 1) (pa_cons (pv 3) pa_nil)))))) (pss_cons (ps_set (i := 5) sc_law.nd rfl (.inl rfl) (pe_callD D_law_part_in hr (by decide) (by rfl) (pa_cons (pv 3) pa_nil))) (pss_one (ps_if (pt_not (pt_val (pe_callD D_law_same hr (by decide) (by rfl) (pa_cons (pe_callD D_law_read hr (by decide) (by rfl) (pa_cons (pv 3) pa_nil)) (pa_cons (pe_tupN (pa_cons (pv 5) (pa_cons (pe_ifExp (pt_cmpR op_isN (pv 5) pe_non (nomark _)) pe_int pe_non) pa_nil))) pa_nil))))) (pss_one (ps_ret pe_bl)) pss_nil)))))) (pss_cons (ps_set (i := 6) sc_law.nd rfl (.inl rfl) (pe_lstN (pa_cons pe_str (pa_cons pe_str (pa_cons pe_str (pa_cons pe_str (pa_cons pe_str (pa_cons pe_str (pa_cons pe_str (pa_cons pe_str (pa_cons pe_str (pa_cons pe_str (pa_cons pe_str (pa_cons pe_str (pa_cons pe_str (pa_cons pe_str (pa_cons pe_str (pa_cons pe_str (pa_cons pe_str (pa_cons pe_str pa_nil)))))))))))))))))))) (pss_cons (ps_set (i := 6) sc_law.nd rfl (.inl rfl) (pe_op op_catN (pv 6) (pe_lstN (pa_cons pe_str (pa_cons pe_str (pa_cons (pe_op op_repS pe_str pe_int) (pa_cons (pe_op op_add_str pe_str (pe_op op_repS pe_str pe_int)) (pa_cons pe_str (pa_cons pe_str pa_nil))))))))) (pss_one (ps_ret (pe_callB (cr_all rfl) (by rfl) T.m_all (by decide +kernel) (pa_cons (pe_lc (own := [("_law_text_here", 3)]) (g := gName 3) (by rfl) sc_law.nd (pi_list (pv 6)) (blkOk_by (own := [("_law_text_here", 3)]) (N := ["_law_script", "_law_bag_here", "_law_turn", "_law_text_here", "_law_step", "_law_due", "_law_odd"]) (sc := defScope s_law) (by decide +kernel)) (fun _ _ _ _ _ => (pg_name (i := 3) sc_law.nd rfl (.inl rfl))) (fun _ _ _ _ _ => pts_nil) (fun _ _ _ _ _ => (pe_callD D_law_same hr (by decide) (by rfl) (pa_cons (pe_callD D_law_read hr (by decide) (by rfl) (pa_cons (pv 3) pa_nil)) (pa_cons (pe_tupN (pa_cons pe_non (pa_cons pe_int pa_nil))) pa_nil))))) pa_nil)))))))), ?_⟩
    refine ⟨_, rfl, a, ns, rfl, hS, hlen, fun b H1 nb s1 hB => ?_⟩
    refine ⟨10, rfl, by decide, by decide, for_range (lo := 0) (n := 10) (fun i σ H' => ∃ (v2 v3 v4 v5 v6 : Option V), σ = [some (.ref a), some (.ref b), v2, v3, v4, v5, v6] ∧ Bag H' b) ⟨none, none, none, none, none, rfl, hB⟩ ?_ ?_⟩
    · clear hB
      rintro i σ H2 hi ⟨v2, v3, v4, v5, v6, rfl, hB⟩
      refine ⟨_, rfl, b, rfl, hB, fun v q0 H3 hv hz hB3 k3 => ptext_step hv (fig_201 hz) ?_⟩
      have l0 := pcps_len (fig_201 hz)
      have w0 := pcps_low q0
      refine ⟨_, rfl, b, 3, rfl, hB3, by decide, by decide, fun r H4 r0 r1 hB4 k4 => ⟨r, rfl, by omega, by omega, for_range (lo := 0) (n := r.toNat) (fun j σ H' => ∃ (v4 : Option V) (l : List Nat), σ = [some (.ref a), some (.ref b), some (.int (0 + i)), some (.str (tS l)), v4, v5, v6] ∧ (∀ c ∈ l, c < 128) ∧ l.length ≤ 402 + j ∧ Bag H' b) ⟨v4, pcps q0, rfl, w0, l0, hB4⟩ ?_ ?_⟩⟩
      · clear hB4
        rintro j σ H5 hj ⟨v4, l, rfl, hl, hn, hB⟩
        refine ⟨_, rfl, _, rfl, bentt_step hB hl (by omega) fun l' H6 hl' hn' hB6 k6 => ?_⟩
        exact ⟨_, l', rfl, hl', by omega, hB6⟩
      clear hB4
      rintro σ H5 ⟨v4, l, rfl, hl, hn, hB⟩
      have hn : l.length ≤ 1000 := by omega
      refine ⟨_, rfl, partin_step hl hn fun v H6 s6 hv => ?_⟩
      refine ⟨_, rfl, lread_step hl hn fun u H7 s7 hu => ?_⟩
      have hB7 := hB.same (s6.trans s7)
      have hd := dle_rd (readD l)
      cases e : readD l with
      | none =>
        rw [e] at hv hu hd
        obtain rfl : v = .non := hv
        refine ⟨_, rfl, _, rfl, rfl, _, rfl, ?_⟩
        refine ⟨z2, fun p G n sG hG => ?_⟩
        refine same_step (Dp.mono sG _ _ hu) (.tup (SqT.of hG) (.cons .non (.cons (.int 0) .nil))) hd fun H8 s8 => ⟨_, rfl, iteF ?_⟩
        exact ⟨_, _, _, _, _, rfl, hB7.same (sG.trans s8)⟩
      | some q1 =>
        rw [e] at hv hu hd
        have hq := opt_dp hv
        obtain ⟨z, rfl, hz⟩ := id hq
        refine ⟨_, rfl, _, rfl, rfl, _, rfl, ?_⟩
        refine ⟨z2, fun p G n sG hG => ?_⟩
        have hz' : PtV K G (.ref z) q1 := hq.same (s7.trans sG)
        refine same_step (Dp.mono sG _ _ hu) (.tup (SqT.of hG) (.cons hz'.dp (.cons .non .nil))) hd fun H8 s8 => ⟨_, rfl, iteF ?_⟩
        exact ⟨_, _, _, _, _, rfl, hB7.same (sG.trans s8)⟩
    · rintro σ H2 ⟨v2, v3, v4, v5, v6, rfl, hB⟩
      clear hB
      refine ⟨(show 18 ≤ sizeLine by decide), fun L1 G1 n1 r1 h1 => ?_⟩
      refine ⟨_, rfl, _, _, rfl, rfl, by decide, by decide, by decide +kernel, by decide +kernel, by decide +kernel, ?_⟩
      refine ⟨_, _, rfl, rfl, by decide, by decide, by decide +kernel, by decide +kernel, by decide +kernel, ?_⟩
      refine ⟨_, _, rfl, rfl, by decide +kernel, ?_⟩
      refine ⟨(show 6 ≤ sizeLine by decide), fun L2 G2 n2 r2 h2 => ?_⟩
      refine ⟨L1, L2, _, _, rfl, rfl, r2 _ _ h1, h2, (show _ ≤ sizeLine by decide +kernel), fun L3 G3 n3 r3 h3 => ?_⟩
      have h3 : G3 L3 = some (.lst (odds.map V.str)) := h3
      clear h1 h2
      refine ⟨_, rfl, L3, rfl, ⟨_, SqL.of h3⟩, fun D nD => ?_⟩
      refine lc_list (xs := odds.map V.str) (fun i H' => Same G3 H' ∧ H' D = some (.lst ((List.replicate i true).map V.bl))) ⟨same_new nD, upd_same⟩ (fun i H' _ z => SqL.of (z.1 _ _ h3)) ?_ ?_
      · rintro i x H' hx ⟨sH, hD⟩
        have hi : i < 24 := (List.getElem?_eq_some_iff.mp hx).1
        obtain ⟨y, hy, rfl⟩ := List.mem_map.mp (List.mem_of_getElem? hx)
        obtain ⟨l, rfl, hl, hn, hr⟩ := odd_ok (List.all_eq_true.mp odds_ok y hy)
        refine ⟨rfl, _, rfl, lread_step hl hn fun u H6 s6 hu => ?_⟩
        rw [hr] at hu
        refine ⟨z2, fun p G n sG hG => ?_⟩
        refine same_step (Dp.mono sG _ _ hu) (.tup (SqT.of hG) (.cons .non (.cons (.int 0) .nil))) rfl fun H8 s8 => ?_
        have sa := s6.trans (sG.trans s8)
        refine ⟨_, sa _ _ hD, small1000 (by rw [List.length_map, List.length_replicate]; omega), same_write nD (sH.trans sa), ?_⟩
        rw [upd_same, List.replicate_succ', List.map_append]
        rfl
      rintro H6 ⟨s6, hD⟩
      refine ⟨D, _, rfl, SqL.of hD, ?_⟩
      show Q (.bl true) H6
      exact q _
end
end Cc
set_option exponentiation.threshold 10000
set_option maxHeartbeats 20000000
namespace Cc
open PySem PySem.Spec PyProof.Rows L2 LamX
theorem law_of {l : PySem.W.OpenLaw} {w : World} {K : PySem.W.Frag} {mg : Str → Option Value} {fa : Addr} (hfa : mg "law" = some (.ref fa)) (T : Tops K mg)
    {h : Heap} (X : K.In h) (G : h.Ns mainGlobals mg) {f : Addr} {oc : Value} {od an : Option Addr} {osl : Array (Option Value)} {kV doc pm cdv ct : Value}
    (a : PySem.W.nsIn K mainGlobals "law" = some (some (.ref f))) (lk : K.lookup f = some ⟨oc, od, .func (PySem.W.fnOf "law" "law" (defArgs s_law) (defBody s_law) (defScope s_law) .none kV doc pm an cdv ct), osl⟩) (c : PySem.W.codeIn K cdv "law" = true) (k : PySem.W.keepIn K (.ref f) = true) :
    ∃ fd : FuncData, (∀ (s : Shared) (v : Value), BindsTo s fd ⟨[v], []⟩ [("_law_script", v)]) ∧ ∀ base : Heap, K.In base → base.Ns mainGlobals mg → FnOk l.prog w K mg base CX0 7 fa fd ["_law_script"] (spLaw K) := by
  have e := hfa.symm.trans (PySem.W.mg_of X G a)
  cases e
  refine ⟨PySem.W.fnOf "law" "law" (defArgs s_law) (defBody s_law) (defScope s_law) .none kV doc pm an cdv ct, fun s v => .of_eq rfl, fun base _ _ => ?_⟩
  have Z_BadText : ExcOkF l.prog w K mg base "BadText" "at" := ExcAtF.ok T.x_BadText sc_BadText_init sc_CutError_init rfl rfl (fun _ _ _ _ _ _ _ => ⟨rfl, _, rfl⟩) (by decide) (by decide)
  have D_part := ok_part (P := l.prog) (w := w) (base := base) T
  have D_minus := ok_minus (P := l.prog) (w := w) (base := base) T D_part
  have D_part_text := ok_part_text (P := l.prog) (w := w) (base := base) T
  have D_are_figures := ok_are_figures (P := l.prog) (w := w) (base := base) T
  have D_read_part := ok_read_part (P := l.prog) (w := w) (base := base) T D_part D_minus D_part_text D_are_figures
  have D_law_bag := ok_law_bag (P := l.prog) (w := w) (base := base) T
  have D_law_get := ok_law_get (P := l.prog) (w := w) (base := base) T
  have D_law_pick := ok_law_pick (P := l.prog) (w := w) (base := base) T D_law_get
  have D_law_far := ok_law_far (P := l.prog) (w := w) (base := base) T D_law_get
  have D_law_same := (ok_law_same (P := l.prog) (w := w) (base := base) T) 6
  have D_law_gcd := ok_law_gcd (P := l.prog) (w := w) (base := base) T
  have D_law_part := ok_law_part (P := l.prog) (w := w) (base := base) T D_law_gcd
  have D_law_number := ok_law_number (P := l.prog) (w := w) (base := base) T D_law_get D_law_far
  have D_law_some_part := ok_law_some_part (P := l.prog) (w := w) (base := base) T D_law_get D_law_part D_law_number
  have D_law_text := ok_law_text (P := l.prog) (w := w) (base := base) T
  have D_law_bent_text := ok_law_bent_text (P := l.prog) (w := w) (base := base) T D_law_get D_law_pick
  have D_law_part_in := ok_law_part_in (P := l.prog) (w := w) (base := base) T D_law_part D_law_text
  have DX_read_part := okx_read_part (P := l.prog) (w := w) (base := base) T Z_BadText D_part D_minus D_part_text D_are_figures
  have D_law_read := ok_law_read (P := l.prog) (w := w) (base := base) T DX_read_part
  exact ok_law T (fun_mk lk c k) D_law_bag D_law_get D_law_same D_law_some_part D_law_text D_law_bent_text D_law_part_in D_law_read
end Cc
open PySem PySem.W PyProof.Rows
set_option maxRecDepth 100000 in
set_option maxHeartbeats 0 in
theorem PySem.Challenge.cw_calmcuts_k05_part_texts_refused_holds : PySem.Challenge.rw_calmcuts_k05_part_texts_refused.Holds := by
  w_on; o_law; k_head; (case hw => w_witness2)
  k_fill
  refine L2.walk_of (l := PySem.Challenge.rw_calmcuts_k05_part_texts_refused) (n := 63) (k := 7) (x := "_law_script") (CX := fun _ => L2.CX0) (sp := fun w => Cc.spLaw _) rfl (by decide) rfl ⟨rfl, by decide, by decide⟩ (fun w h Y => PySem.W.kIn_of Y) ?F (fun _ _ a ns hl _ hS => ⟨a, ns, rfl, hS, hl, fun _ => rfl⟩) (fun _ _ _ _ _ h => h)
  case F =>
    intro w mg fa h KX G hmg
    refine' Cc.law_of hmg ?T KX G ?a ?l ?c ?k
    (case a => k_is); (case l => k_is); (case c => k_is); (case k => k_is)
    (case T =>
      refine' ⟨?d_part, ?d_minus, ?d_part_text, ?d_read_part, ?d_are_figures, ?d_law_bag, ?d_law_get, ?d_law_pick, ?d_law_far, ?d_law_same, ?d_law_gcd, ?d_law_part, ?d_law_number, ?d_law_some_part, ?d_law_text, ?d_law_bent_text, ?d_law_part_in, ?d_law_read, ?x_BadText, PySem.W.mg_none_of KX G ?m_abs, PySem.W.mg_none_of KX G ?m_all, PySem.W.mg_none_of KX G ?m_bool, PySem.W.mg_none_of KX G ?m_dict, PySem.W.mg_none_of KX G ?m_int, PySem.W.mg_none_of KX G ?m_isinstance, PySem.W.mg_none_of KX G ?m_len, PySem.W.mg_none_of KX G ?m_list, PySem.W.mg_none_of KX G ?m_range, PySem.W.mg_none_of KX G ?m_str, PySem.W.mg_none_of KX G ?m_tuple, PySem.W.mg_none_of KX G ?m_zip, ?m_MOST_FIGURES, ?m_NOUGHT, PySem.W.mg_of KX G ?m_gcd⟩
      (case d_part => refine' Cc.defAt_mk KX G ?a ?l ?c ?k (fun _ _ _ _ _ _ us hl => match us, hl with | [_, _], _ => rfl); (case a => k_is); (case l => k_is); (case c => k_is); (case k => k_is))
      (case d_minus => refine' Cc.defAt_mk KX G ?a ?l ?c ?k (fun _ _ _ _ _ _ us hl => match us, hl with | [_, _], _ => rfl); (case a => k_is); (case l => k_is); (case c => k_is); (case k => k_is))
      (case d_part_text => refine' Cc.defAt_mk KX G ?a ?l ?c ?k (fun _ _ _ _ _ _ us hl => match us, hl with | [_], _ => rfl); (case a => k_is); (case l => k_is); (case c => k_is); (case k => k_is))
      (case d_read_part => refine' Cc.defAt_mk KX G ?a ?l ?c ?k (fun _ _ _ _ _ _ us hl => match us, hl with | [_], _ => rfl); (case a => k_is); (case l => k_is); (case c => k_is); (case k => k_is))
      (case d_are_figures => refine' Cc.defAt_mk KX G ?a ?l ?c ?k (fun _ _ _ _ _ _ us hl => match us, hl with | [_], _ => rfl); (case a => k_is); (case l => k_is); (case c => k_is); (case k => k_is))
      (case d_law_bag => refine' Cc.defAt_mk KX G ?a ?l ?c ?k (fun _ _ _ _ _ _ us hl => match us, hl with | [_], _ => rfl); (case a => k_is); (case l => k_is); (case c => k_is); (case k => k_is))
      (case d_law_get => refine' Cc.defAt_mk KX G ?a ?l ?c ?k (fun _ _ _ _ _ _ us hl => match us, hl with | [_, _], _ => rfl); (case a => k_is); (case l => k_is); (case c => k_is); (case k => k_is))
      (case d_law_pick => refine' Cc.defAt_mk KX G ?a ?l ?c ?k (fun _ _ _ _ _ _ us hl => match us, hl with | [_, _], _ => rfl); (case a => k_is); (case l => k_is); (case c => k_is); (case k => k_is))
      (case d_law_far => refine' Cc.defAt_mk KX G ?a ?l ?c ?k (fun _ _ _ _ _ _ us hl => match us, hl with | [_, _], _ => rfl); (case a => k_is); (case l => k_is); (case c => k_is); (case k => k_is))
      (case d_law_same => refine' Cc.defAt_mk KX G ?a ?l ?c ?k (fun _ _ _ _ _ _ us hl => match us, hl with | [_, _], _ => rfl); (case a => k_is); (case l => k_is); (case c => k_is); (case k => k_is))
      (case d_law_gcd => refine' Cc.defAt_mk KX G ?a ?l ?c ?k (fun _ _ _ _ _ _ us hl => match us, hl with | [_, _], _ => rfl); (case a => k_is); (case l => k_is); (case c => k_is); (case k => k_is))
      (case d_law_part => refine' Cc.defAt_mk KX G ?a ?l ?c ?k (fun _ _ _ _ _ _ us hl => match us, hl with | [_, _], _ => rfl); (case a => k_is); (case l => k_is); (case c => k_is); (case k => k_is))
      (case d_law_number => refine' Cc.defAt_mk KX G ?a ?l ?c ?k (fun _ _ _ _ _ _ us hl => match us, hl with | [_], _ => rfl); (case a => k_is); (case l => k_is); (case c => k_is); (case k => k_is))
      (case d_law_some_part => refine' Cc.defAt_mk KX G ?a ?l ?c ?k (fun _ _ _ _ _ _ us hl => match us, hl with | [_], _ => rfl); (case a => k_is); (case l => k_is); (case c => k_is); (case k => k_is))
      (case d_law_text => refine' Cc.defAt_mk KX G ?a ?l ?c ?k (fun _ _ _ _ _ _ us hl => match us, hl with | [_], _ => rfl); (case a => k_is); (case l => k_is); (case c => k_is); (case k => k_is))
      (case d_law_bent_text => refine' Cc.defAt_mk KX G ?a ?l ?c ?k (fun _ _ _ _ _ _ us hl => match us, hl with | [_, _], _ => rfl); (case a => k_is); (case l => k_is); (case c => k_is); (case k => k_is))
      (case d_law_part_in => refine' Cc.defAt_mk KX G ?a ?l ?c ?k (fun _ _ _ _ _ _ us hl => match us, hl with | [_], _ => rfl); (case a => k_is); (case l => k_is); (case c => k_is); (case k => k_is))
      (case d_law_read => refine' Cc.defAt_mk KX G ?a ?l ?c ?k (fun _ _ _ _ _ _ us hl => match us, hl with | [_], _ => rfl); (case a => k_is); (case l => k_is); (case c => k_is); (case k => k_is))
      (case x_BadText => refine' Cc.excAtF_mk KX G ?a ?l ?b ?sa ?ex ?ty ?kc ?g1 ?g2 ?hd ?c5 ?c6 ?c7 ?c8 ?n1 ?n3 ?no1 ?no2 ?iC ?tI ?lI ?cI ?kI ?eC ?t ?tx ?r1 ?r2 ?va ?lB ?cB ?kB ?hb ?hb0; (case a => k_is); (case l => k_is); (case b => decide +kernel); (case sa => k_is); (case ex => k_is); (case ty => k_is); (case kc => k_is); (case g1 => k_is); (case g2 => k_is); (case hd => k_is); (case c5 => k_is); (case c6 => k_is); (case c7 => k_is); (case c8 => k_is); (case n1 => k_is); (case n3 => k_is); (case no1 => k_is); (case no2 => k_is); (case iC => k_is); (case tI => k_is); (case lI => k_is); (case cI => k_is); (case kI => k_is); (case eC => k_is); (case t => kernel_rfl); (case tx => kernel_rfl); (case r1 => kernel_rfl); (case r2 => k_is); (case va => k_is); (case lB => k_is); (case cB => k_is); (case kB => k_is); (case hb => exact fun _ _ _ _ _ _ us hl => match us, hl with | [_, _], _ => rfl); (case hb0 => exact fun _ _ _ _ _ _ us hl => match us, hl with | [_], _ => rfl))
      (case m_abs => k_is)
      (case m_all => k_is)
      (case m_bool => k_is)
      (case m_dict => k_is)
      (case m_int => k_is)
      (case m_isinstance => k_is)
      (case m_len => k_is)
      (case m_list => k_is)
      (case m_range => k_is)
      (case m_str => k_is)
      (case m_tuple => k_is)
      (case m_zip => k_is)
      (case m_MOST_FIGURES => refine' Cc.glob_int KX G ?a; (case a => k_is))
      (case m_NOUGHT => refine' Cc.nought_mk KX G ?a ?l; (case a => k_is); (case l => k_is))
      (case m_gcd => k_is))
