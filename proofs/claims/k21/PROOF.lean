import PyProof.Rows.All
import Wide.All
import OpenK.AllK
import Wide.FinOn
import HandS.Base
import HandS.Call
import HandS.List
import HandS.Comp
import HandS.Iter
import HandS.Text
import HandS.Words
import HandS.Codes
import PyProof.NoPylong
import PyProof.Fits
import Flt.Len
import KE.KMathG
import HandS.Gcd
import HandS.IsInst
import HandS.Zip
import HandS.Style
import HandS.Defaults
import HandS.MakeKwOnly
import PyProof.SumAny
import KE.DataMinMax
import HandS.TupAny
import HandS.RevRange
import HandS.TupMul
import HandS.Conv
import HandS.Sort
import HandS.More
import PySem.Challenge.RW_calmcuts_k21_greedy_sizes
set_option Elab.async false
set_option linter.all false
set_option maxRecDepth 100000
namespace Cc
/-! ### parts as rationals -/
/-- sizes: |num| and den below 2^n -/
def Sz (n : Nat) (q : Rat) : Prop := q.num.natAbs < 2 ^ n ∧ q.den < 2 ^ n
theorem den_pos (q : Rat) : (0 : Int) < (q.den : Int) := by
  have := q.den_nz
  omega
theorem divInt_own (q : Rat) : Rat.divInt q.num q.den = q := by
  rw [Rat.divInt_ofNat]
  exact Rat.mkRat_self q
theorem dv_add (x y : Rat) : Rat.divInt (x.num * y.den + y.num * x.den) (x.den * y.den) = x + y := by
  have h := Rat.divInt_add_divInt x.num y.num (Int.ne_of_gt (den_pos x)) (Int.ne_of_gt (den_pos y))
  rw [divInt_own, divInt_own] at h
  exact h.symm
theorem dv_mul (x y : Rat) : Rat.divInt (x.num * y.num) (x.den * y.den) = x * y := by
  have h := Rat.divInt_mul_divInt x.num y.num (d₁ := x.den) (d₂ := y.den)
  rw [divInt_own, divInt_own] at h
  exact h.symm
theorem dv_sub (x y : Rat) : Rat.divInt (x.num * y.den - y.num * x.den) (x.den * y.den) = x - y := by
  have h := Rat.divInt_add_divInt x.num (-y.num) (Int.ne_of_gt (den_pos x)) (Int.ne_of_gt (den_pos y))
  rw [divInt_own, ← Rat.neg_divInt, divInt_own] at h
  rw [Rat.sub_eq_add_neg, h, Int.neg_mul, Int.sub_eq_add_neg]
theorem dv_div (x y : Rat) : Rat.divInt (x.num * y.den) (x.den * y.num) = x / y := by
  rw [Rat.div_def]
  have h := Rat.divInt_mul_divInt x.num y.den (d₁ := x.den) (d₂ := y.num)
  rw [divInt_own] at h
  rw [← h]
  congr 1
  rw [← Rat.inv_divInt, divInt_own]
theorem num_zero_iff (q : Rat) : q.num = 0 ↔ q = 0 := by
  constructor
  · intro h
    have := divInt_own q
    rw [h, Rat.zero_divInt] at this
    exact this.symm
  · rintro rfl
    rfl
theorem rat_ext {x y : Rat} (h1 : x.num = y.num) (h2 : x.den = y.den) : x = y := by
  rw [← divInt_own x, ← divInt_own y, h1, h2]
/-- x is a/c in lowest terms: what part(a, c) computes -/
theorem divInt_num_eq {a c : Int} (h : 0 < c) : (Rat.divInt a c).num = a / ((Int.gcd a c : Nat) : Int) ∧ ((Rat.divInt a c).den : Int) = c / ((Int.gcd a c : Nat) : Int) := by
  have hc : c = ((c.toNat : Nat) : Int) := by omega
  have h0 : c.toNat ≠ 0 := by omega
  rw [hc, Rat.divInt_ofNat]
  have e1 := Rat.num_mkRat a c.toNat
  have e2 := Rat.den_mkRat a c.toNat
  rw [if_neg h0] at e1 e2
  have eg : Int.gcd a ((c.toNat : Nat) : Int) = c.toNat.gcd a.natAbs := by
    rw [Int.gcd_eq_natAbs_gcd_natAbs, Int.natAbs_natCast, Nat.gcd_comm]
  rw [e1, e2, eg]
  exact ⟨rfl, by rw [Int.natCast_ediv]⟩
theorem divInt_num_neg {a c : Int} (h : c < 0) : (Rat.divInt a c).num = a.fdiv (-((Int.gcd a c : Nat) : Int)) ∧ ((Rat.divInt a c).den : Int) = c.fdiv (-((Int.gcd a c : Nat) : Int)) := by
  have g := divInt_num_eq (a := -a) (c := -c) (by omega)
  rw [Rat.neg_divInt_neg, Int.neg_gcd, Int.gcd_neg] at g
  have nf : ∀ x : Int, x.fdiv (-((Int.gcd a c : Nat) : Int)) = (-x) / ((Int.gcd a c : Nat) : Int) := fun x => by
    have h1 := Int.neg_fdiv_neg (-x) ((Int.gcd a c : Nat) : Int)
    rw [Int.neg_neg] at h1
    rw [h1, Int.fdiv_eq_ediv_of_nonneg _ (Int.natCast_nonneg _)]
  rw [nf, nf]
  exact g
theorem size_divInt {a c : Int} {n : Nat} (h : c ≠ 0) (ha : a.natAbs < 2 ^ n) (hc : c.natAbs < 2 ^ n) : Sz n (Rat.divInt a c) := by
  have key : ∀ {a c : Int}, 0 < c → a.natAbs < 2 ^ n → c.natAbs < 2 ^ n → Sz n (Rat.divInt a c) := by
    intro a c h ha hc
    obtain ⟨e1, e2⟩ := divInt_num_eq (a := a) h
    constructor
    · rw [e1]
      have hd : ((Int.gcd a c : Nat) : Int) ∣ a := Int.gcd_dvd_left ..
      rw [Int.natAbs_ediv_of_dvd hd, Int.natAbs_natCast]
      exact Nat.lt_of_le_of_lt (Nat.div_le_self _ _) ha
    · have e3 : (Rat.divInt a c).den = c.natAbs / Int.gcd a c := by
        have hd : ((Int.gcd a c : Nat) : Int) ∣ c := Int.gcd_dvd_right ..
        have e4 := congrArg Int.natAbs e2
        rw [Int.natAbs_natCast, Int.natAbs_ediv_of_dvd hd, Int.natAbs_natCast] at e4
        exact e4
      rw [e3]
      exact Nat.lt_of_le_of_lt (Nat.div_le_self _ _) hc
  rcases Int.lt_trichotomy c 0 with h1 | h1 | h1
  · rw [← Rat.neg_divInt_neg]
    exact key (by omega) (by omega) (by omega)
  · exact absurd h1 h
  · exact key h1 ha hc
theorem natAbs_add_lt {a b : Int} {m n : Nat} (ha : a.natAbs < 2 ^ m) (hb : b.natAbs < 2 ^ n) : (a + b).natAbs < 2 ^ (max m n + 1) := by
  have h1 : 2 ^ m ≤ 2 ^ max m n := Nat.pow_le_pow_right (by decide) (Nat.le_max_left ..)
  have h2 : 2 ^ n ≤ 2 ^ max m n := Nat.pow_le_pow_right (by decide) (Nat.le_max_right ..)
  rw [Nat.pow_succ]
  omega
theorem natAbs_sub_lt {a b : Int} {m n : Nat} (ha : a.natAbs < 2 ^ m) (hb : b.natAbs < 2 ^ n) : (a - b).natAbs < 2 ^ (max m n + 1) := by
  rw [Int.sub_eq_add_neg]
  exact natAbs_add_lt ha (by rw [Int.natAbs_neg]; exact hb)
theorem natAbs_mul_lt {a b : Int} {m n : Nat} (ha : a.natAbs < 2 ^ m) (hb : b.natAbs < 2 ^ n) : (a * b).natAbs < 2 ^ (m + n) := by
  rw [Int.natAbs_mul, Nat.pow_add]
  exact Nat.mul_lt_mul'' ha hb
theorem pow_mono_lt {a m n : Nat} (h : a < 2 ^ m) (hm : m ≤ n) : a < 2 ^ n := Nat.lt_of_lt_of_le h (Nat.pow_le_pow_right (by decide) hm)
theorem Sz.mono {m n : Nat} {q : Rat} (h : Sz m q) (hm : m ≤ n) : Sz n q := ⟨pow_mono_lt h.1 hm, pow_mono_lt h.2 hm⟩
theorem Sz.pos {n : Nat} {q : Rat} (h : Sz n q) : 0 < n := by
  have h1 := h.2
  have h2 := q.den_nz
  rcases Nat.eq_zero_or_pos n with h3 | h3
  · subst h3
    omega
  · exact h3
theorem sz_add {m n k : Nat} {x y : Rat} (hx : Sz m x) (hy : Sz n y) (h : m + n + 1 ≤ k) : Sz k (x + y) := by
  refine Sz.mono (m := m + n + 1) ?_ h
  rw [← dv_add]
  refine size_divInt ?_ ?_ ?_
  · have h1 := den_pos x
    have h2 := den_pos y
    exact Int.ne_of_gt (Int.mul_pos h1 h2)
  · have h1 := natAbs_add_lt (natAbs_mul_lt hx.1 (b := (y.den : Int)) (n := n) (by rw [Int.natAbs_natCast]; exact hy.2)) (natAbs_mul_lt hy.1 (b := (x.den : Int)) (n := m) (by rw [Int.natAbs_natCast]; exact hx.2))
    exact pow_mono_lt h1 (by omega)
  · exact pow_mono_lt (natAbs_mul_lt (a := (x.den : Int)) (b := (y.den : Int)) (m := m) (n := n) (by rw [Int.natAbs_natCast]; exact hx.2) (by rw [Int.natAbs_natCast]; exact hy.2)) (by omega)
theorem sz_neg {m : Nat} {x : Rat} (hx : Sz m x) : Sz m (-x) := by
  constructor
  · rw [Rat.neg_num, Int.natAbs_neg]
    exact hx.1
  · rw [Rat.neg_den]
    exact hx.2
theorem sz_sub {m n k : Nat} {x y : Rat} (hx : Sz m x) (hy : Sz n y) (h : m + n + 1 ≤ k) : Sz k (x - y) := by
  rw [Rat.sub_eq_add_neg]
  exact sz_add hx (sz_neg hy) h
theorem sz_mul {m n k : Nat} {x y : Rat} (hx : Sz m x) (hy : Sz n y) (h : m + n ≤ k) : Sz k (x * y) := by
  refine Sz.mono (m := m + n) ?_ h
  rw [← dv_mul]
  refine size_divInt ?_ ?_ ?_
  · exact Int.ne_of_gt (Int.mul_pos (den_pos x) (den_pos y))
  · exact natAbs_mul_lt hx.1 hy.1
  · exact natAbs_mul_lt (a := (x.den : Int)) (b := (y.den : Int)) (m := m) (n := n) (by rw [Int.natAbs_natCast]; exact hx.2) (by rw [Int.natAbs_natCast]; exact hy.2)
theorem sz_div {m n k : Nat} {x y : Rat} (hx : Sz m x) (hy : Sz n y) (h0 : y ≠ 0) (h : m + n ≤ k) : Sz k (x / y) := by
  refine Sz.mono (m := m + n) ?_ h
  rw [← dv_div]
  refine size_divInt ?_ ?_ ?_
  · have h1 : y.num ≠ 0 := fun z => h0 ((num_zero_iff y).mp z)
    exact Int.mul_ne_zero (Int.ne_of_gt (den_pos x)) h1
  · exact natAbs_mul_lt (b := (y.den : Int)) hx.1 (by rw [Int.natAbs_natCast]; exact hy.2)
  · exact natAbs_mul_lt (a := (x.den : Int)) (by rw [Int.natAbs_natCast]; exact hx.2) hy.1
theorem dv_cancel (x : Rat) {d : Int} (h : d ≠ 0) : Rat.divInt (x.num * d) (d * x.den) = x := by
  have e := Rat.divInt_mul_divInt x.num d (d₁ := x.den) (d₂ := d)
  rw [divInt_own, Rat.divInt_self' h, Rat.mul_one] at e
  rw [Int.mul_comm d, ← e]
theorem far_size {r e : Int} {k : Nat} (h0 : 0 ≤ r) (h1 : r < 1000 ^ k) (hk : k ≤ 20) (he : e = 0 ∨ e = 1) : ((r + 1) * (1 - 2 * e)).natAbs < 2 ^ 200 := by
  have h2 : (1000 : Int) ^ k ≤ 1000 ^ 20 := by
    have h := Nat.pow_le_pow_right (n := 1000) (by decide) hk
    have e : ∀ n : Nat, (1000 : Int) ^ n = ((1000 ^ n : Nat) : Int) := fun n => (Int.natCast_pow 1000 n).symm
    rw [e, e]
    exact Int.ofNat_le.mpr h
  have h3 : (1000 : Int) ^ 20 < 2 ^ 200 := by decide
  have h4 : (2 : Int) ^ 200 = ((2 ^ 200 : Nat) : Int) := by decide
  have h5 : r + 1 < ((2 ^ 200 : Nat) : Int) := by omega
  generalize (2 ^ 200 : Nat) = N at *
  rcases he with rfl | rfl
  · rw [show (1 - 2 * 0 : Int) = 1 by decide, Int.mul_one]
    omega
  · rw [show (1 - 2 * 1 : Int) = -1 by decide, Int.mul_neg, Int.mul_one]
    omega
theorem gcd_step (x y : Int) : Int.gcd y (x % y) = Int.gcd x y := by
  have h := Int.gcd_add_mul_left_right y (x % y) (x / y)
  rw [Int.emod_add_mul_ediv] at h
  rw [← h, Int.gcd_comm]
end Cc
namespace Cc
open PySem PySem.Spec PyProof.Rows L2
/-! ### operators of ints of any size -/
/-- // by a divisor of any sign, below 2 ^ 9000 -/
def CDivA (_ j : Int) : Prop := j ≠ 0 ∧ j.natAbs < 2 ^ 9000
/-- * : one factor small, or both together below a million bits -/
def CMulA (i j : Int) : Prop := CMul i j ∨ ∃ a b : Nat, i.natAbs < 2 ^ a ∧ j.natAbs < 2 ^ b ∧ a + b ≤ 900000
theorem CMulA.ok {i j : Int} (h : CMulA i j) : IntMulOk i j := by
  rcases h with h | ⟨a, b, ha, hb, hab⟩
  · exact h.ok
  · have ha' := pow_mono_lt ha (Nat.le_succ a)
    have hb' := pow_mono_lt hb (Nat.le_succ b)
    have x := PySem.Flt.log2_lt_of (Nat.succ_pos a) ha'
    have y := PySem.Flt.log2_lt_of (Nat.succ_pos b) hb'
    have bb : ∀ x : Int, Builtin.Int.intBits x ≤ x.natAbs.log2 + 1 := fun x => by
      unfold Builtin.Int.intBits
      split <;> omega
    have h1 := bb i
    have h2 := bb j
    have e : bitsLine = 134217728 := by decide
    unfold IntMulOk
    intro z
    rw [Bool.and_eq_true] at z
    have z2 := z.2
    unfold Builtin.Int.intTooBig at z2
    have z3 := of_decide_eq_true z2
    rw [e] at z3
    omega
section
variable {X : Cx}
theorem op_fdivA : OpR X (binaryOp .FloorDiv) (rI CDivA fun i j => .int (i.fdiv j)) := opI fun i j _ _ _ _ _ hc q =>
  floordiv_int hc.1 q (.inl (PyProof.noPylong_of_log2 (PySem.Flt.log2_lt_of (by decide) hc.2)))
theorem op_mulA : OpR X (binaryOp .Mult) (rI CMulA fun i j => .int (i * j)) := opI fun _ _ _ _ _ _ _ hc q => mul_int q hc.ok
end
theorem cmul_l {i j : Int} (h : -(2 ^ 64) < i ∧ i < 2 ^ 64) : CMulA i j := .inl (.inl h)
theorem cmul_r {i j : Int} (h : -(2 ^ 64) < j ∧ j < 2 ^ 64) : CMulA i j := .inl (.inr h)
theorem cmul_w {i j : Int} {a b : Nat} (ha : i.natAbs < 2 ^ a) (hb : j.natAbs < 2 ^ b) (h : a + b ≤ 900000) : CMulA i j := .inr ⟨a, b, ha, hb, h⟩
/-! ### a def of the program, by its name -/
/-- the def of that name keeps the promise -/
def DefOk (P : Program) (w : World) (K : PySem.W.Frag) (mg : Str → Option Value) (base : Heap) (k : Nat) (x : Str) (ps : List Str) (sp : Sp) : Prop :=
  ∃ f fd, FnOk P w K mg base CX0 k f fd ps sp ∧ mg x = some (.ref f) ∧ PySem.W.keepIn K (.ref f) = true ∧ Binds K fd ps []
/-- the def as the top has left it -/
def DefAt (K : PySem.W.Frag) (mg : Str → Option Value) (x : Str) (st : Stmt) (ps : List Str) : Prop :=
  ∃ f fd, Fun K x x st f fd ∧ mg x = some (.ref f) ∧ Binds K fd ps []
theorem defAt_mk {K : PySem.W.Frag} {mg : Str → Option Value} {h : Heap} {x : Str} {st : Stmt} {ps : List Str} (X : K.In h) (G : h.Ns mainGlobals mg) {f : Addr} {oc : Value} {od an : Option Addr} {osl : Array (Option Value)} {kV doc pm cdv ct : Value}
    (a : PySem.W.nsIn K mainGlobals x = some (some (.ref f))) (l : K.lookup f = some ⟨oc, od, .func (PySem.W.fnOf x x (defArgs st) (defBody st) (defScope st) .none kV doc pm an cdv ct), osl⟩) (c : PySem.W.codeIn K cdv x = true) (k : PySem.W.keepIn K (.ref f) = true)
    (hb : ∀ (kV doc pm : Value) (an : Option Addr) (cdv ct : Value) (us : List Value), us.length = ps.length → bindArgs (PySem.W.fnOf x x (defArgs st) (defBody st) (defScope st) .none kV doc pm an cdv ct) ⟨us, []⟩ = pure (ps.zip us)) : DefAt K mg x st ps :=
  ⟨f, _, fun_mk l c k, PySem.W.mg_of X G a, (fun_mk l c k).binds hb⟩
section
variable {X : Cx} {k j : Nat} {x : Str} {ps : List Str} {sp : Sp} {p pos : Pos} {e : Expr} {es : List Expr} {t : TA}
theorem pe_callD (D : DefOk X.prog X.w X.K X.mg X.base k x ps sp) (hr : Room j X.A) (hkj : k ≤ j) (hg : Gl X x) (ha : PA X (e :: es) t) (hdb : (x == ("__debug__" : Str)) = false := by decide)
    (he : starEach (e :: es) X.env = (false, eval e X.env) :: starEach es X.env := by rfl) (hpl : (backTo pos (starEach es X.env)).any (·.1) = false := by rfl) :
    PE X (.Call (.Name x p) (e :: es) [] pos) (tCall sp [] E0 t) := by
  obtain ⟨f, fd, F, hm, hk, hb⟩ := D
  exact pe_call F (hr.mono hkj) hg hm hk hb .nil pass0 ha hdb he hpl
end
theorem DefAt.ok {P : Program} {w : World} {K : PySem.W.Frag} {mg : Str → Option Value} {base : Heap} {x : Str} {st : Stmt} {N ps : List Str} {k : Nat} {sp : Sp} (F : DefAt K mg x st ps) (S : FnScope N ps (defScope st)) (len : ∀ vs H Q E, sp vs H Q E → vs.length = ps.length)
    (hbody : ∀ (f : Addr) (cdv : Value) (A : Around) (outer : List Env) (s : Shared) (H : Hp) (vs : List V) (Q : VK) (E : XK), Room k (A.deeper (envOfC x (defScope st) s.heap.objs.size f cdv)) → sp vs H Q E →
      ∃ t, PSs (cxOf CX0 P w K mg base N x (defScope st) f cdv A outer s H E).nox (defBody st) t ∧ t { nx := fun _ H' => Q .non H', rt := Q } (start N vs) H) : DefOk P w K mg base (k + 1) x ps sp := by
  obtain ⟨f, fd, F, hm, hb⟩ := F
  exact ⟨f, fd, F.ok S len (hbody f), hm, F.kp, hb⟩
/-! ### tests -/
theorem iteB {c : Bool} {A B : Prop} (h1 : c = true → A) (h2 : c = false → B) : if c = true then A else B := by
  cases c with
  | true => exact iteT (h1 rfl)
  | false => exact iteF (h2 rfl)
theorem iteD {c A B : Prop} {i : Decidable c} (h1 : c → A) (h2 : ¬ c → B) : if (@decide c i) = true then A else B := by
  by_cases h : c
  · rw [if_pos (decide_eq_true h)]
    exact h1 h
  · rw [if_neg (by rw [decide_eq_false h]; exact Bool.false_ne_true)]
    exact h2 h
theorem iteDT {c A B : Prop} {i : Decidable c} (h : c) (h1 : A) : if (@decide c i) = true then A else B := iteD (fun _ => h1) (fun z => absurd h z)
theorem iteDF {c A B : Prop} {i : Decidable c} (h : ¬ c) (h1 : B) : if (@decide c i) = true then A else B := iteD (fun z => absurd z h) (fun _ => h1)
/-! ### heaps -/
theorem same_new {H : Hp} {p : Addr} {o : HO} (h : H p = none) : Same H (upd H p o) := fun b x e => by
  rw [upd_ne (ne_of_none e h)]
  exact e
/-- all but what stands at b is as it was -/
def Kp (b : Addr) (H H' : Hp) : Prop := ∀ a o, H a = some o → a ≠ b → H' a = some o
theorem Kp.refl (b : Addr) (H : Hp) : Kp b H H := fun _ _ h _ => h
theorem Kp.trans {b : Addr} {H H1 H2 : Hp} (x : Kp b H H1) (y : Kp b H1 H2) : Kp b H H2 := fun a o h n => y a o (x a o h n) n
theorem Kp.of {b : Addr} {H H' : Hp} (h : Same H H') : Kp b H H' := fun a o e _ => h a o e
theorem Kp.upd {b : Addr} {H : Hp} {o : HO} : Kp b H (upd H b o) := fun a u e n => by
  rw [upd_ne n]
  exact e
/-- xs[k] = v, the heap behind it a letter -/
theorem setL_step {H : Hp} {p : Addr} {xs ys : List V} {k : Int} {j : Nat} {v : V} {Q : Hp → Prop} (hp : H p = some (.lst xs)) (hj : ixN xs.length k = some j) (hy : xs.set j v = ys) (h : ∀ H1, H1 p = some (.lst ys) → Kp p H H1 → Q H1) :
    rSetL (.ref p) (.int k) v H Q := ⟨p, xs, k, j, rfl, rfl, hp, hj, h _ (by rw [hy]; exact upd_same) Kp.upd⟩
/-! ### parts as they stand -/
section
variable {K : PySem.W.Frag} {H H' : Hp}
def PtV (K : PySem.W.Frag) (H : Hp) (v : V) (q : Rat) : Prop := ∃ a, v = .ref a ∧ SqT K H a [.int q.num, .int (q.den : Int)]
theorem seqT_same {a : Addr} {xs : List V} (e : Same H H') (h : SqT K H a xs) : SqT K H' a xs := by
  rcases h with (h | ⟨o, h⟩) | h
  · exact .inl (.inl (e _ _ h))
  · exact .inl (.inr ⟨o, e _ _ h⟩)
  · exact .inr h
theorem seqT_kp {b a : Addr} {xs ys : List V} (e : Kp b H H') (hb : H b = some (.lst ys)) (h : SqT K H a xs) : SqT K H' a xs := by
  rcases h with (h | ⟨o, h⟩) | h
  · exact .inl (.inl (e _ _ h (ne_of h hb (by intro z; cases z))))
  · exact .inl (.inr ⟨o, e _ _ h (ne_of h hb (by intro z; cases z))⟩)
  · exact .inr h
theorem PtV.same {v : V} {q : Rat} (h : PtV K H v q) (e : Same H H') : PtV K H' v q := by
  obtain ⟨a, rfl, h⟩ := h
  exact ⟨a, rfl, seqT_same e h⟩
theorem PtV.kp {b : Addr} {ys : List V} {v : V} {q : Rat} (h : PtV K H v q) (e : Kp b H H') (hb : H b = some (.lst ys)) : PtV K H' v q := by
  obtain ⟨a, rfl, h⟩ := h
  exact ⟨a, rfl, seqT_kp e hb h⟩
theorem PtV.new {p : Addr} {q : Rat} {a c : Int} (h1 : q.num = a) (h2 : (q.den : Int) = c) : PtV K (upd H p (.tup [.int a, .int c])) (.ref p) q := by
  refine ⟨p, rfl, SqT.of ?_⟩
  rw [upd_same, h1, h2]
def dPart (q : Rat) : PyData := .tuple [.int q.num, .int (q.den : Int)]
theorem PtV.dp {v : V} {q : Rat} (h : PtV K H v q) : Dp K H v (dPart q) := by
  obtain ⟨a, rfl, h⟩ := h
  exact .tup h (.cons (.int _) (.cons (.int _) .nil))
theorem dPart_shaped (q : Rat) : SeqAt.shaped (dPart q) = true := by
  rfl
theorem eqv_part (x y : Rat) : PyData.eqv (dPart x) (dPart y) = decide (x = y) := by
  show (x.num == y.num && ((x.den : Int) == (y.den : Int) && true)) = decide (x = y)
  by_cases h : x = y
  · subst h
    simp
  · rw [decide_eq_false h]
    by_cases h1 : x.num = y.num
    · have h2 : ¬ (x.den : Int) = (y.den : Int) := fun z => h (rat_ext h1 (by omega))
      simp [h2]
    · simp [h1]
end
/-! ### the bag of the law -/
/-- at b: the bag; the cells of the script, the place, the rest, the mixed number, the count -/
def Bag (H : Hp) (b : Addr) : Prop := ∃ (c : Addr) (ns : List Int) (p r x q : Int), H b = some (.lst [.ref c, .int p, .int r, .int x, .int q]) ∧ H c = some (.lst (ns.map V.int)) ∧ c ≠ b ∧ ns.length ≤ 63 ∧ 0 ≤ p ∧ 0 ≤ x ∧ x < 2147483629
theorem Bag.lst {H : Hp} {b : Addr} (h : Bag H b) : ∃ ys, H b = some (.lst ys) := by
  obtain ⟨c, ns, p, r, x, q, h, _⟩ := h
  exact ⟨_, h⟩
theorem Bag.same {H H' : Hp} {b : Addr} (h : Bag H b) (e : Same H H') : Bag H' b := by
  obtain ⟨c, ns, p, r, x, q, h1, h2, h3⟩ := h
  exact ⟨c, ns, p, r, x, q, e _ _ h1, e _ _ h2, h3⟩
theorem PtV.bag {K : PySem.W.Frag} {H H' : Hp} {b : Addr} {v : V} {q : Rat} (h : PtV K H v q) (e : Kp b H H') (hb : Bag H b) : PtV K H' v q := by
  obtain ⟨ys, hb⟩ := hb.lst
  exact h.kp e hb
theorem cut63 {xs : List V} (h : xs.length ≤ 63) : cutV xs none (some 63) = xs := by
  unfold cutV
  rw [HT.sIx_none, show HT.sIx xs.length xs.length (some 63) = min 63 xs.length from HT.sIx_nat xs.length xs.length 63, List.drop_zero, Nat.sub_zero]
  exact List.take_of_length_le (by omega)
theorem bag_ne {b L : Addr} (h : Bag H b) (n : H L = none) : L ≠ b := fun z => by
  obtain ⟨ys, e⟩ := h.lst
  rw [z, e] at n
  cases n
/-- the list at b begins with the address c -/
def Hd (H : Hp) (b c : Addr) : Prop := ∃ r, H b = some (.lst (.ref c :: r))
/-- all but what stands at b is as it was, and b begins as it did -/
structure KpG (b : Addr) (H H' : Hp) : Prop where
  k0 : Kp b H H'
  hd : ∀ c, Hd H b c → Hd H' b c
instance {b : Addr} {H H' : Hp} : Coe (KpG b H H') (Kp b H H') := ⟨KpG.k0⟩
instance {b : Addr} {H H' : Hp} : CoeFun (KpG b H H') (fun _ => ∀ a o, H a = some o → a ≠ b → H' a = some o) := ⟨KpG.k0⟩
theorem KpG.trans {b : Addr} {H H1 H2 : Hp} (x : KpG b H H1) (y : Kp b H1 H2) : Kp b H H2 := x.k0.trans y
theorem KpG.then {b : Addr} {H H1 H2 : Hp} (x : KpG b H H1) (y : KpG b H1 H2) : KpG b H H2 := ⟨x.k0.trans y.k0, fun c h => y.hd c (x.hd c h)⟩
theorem KpG.of {b : Addr} {H H' : Hp} (h : Same H H') : KpG b H H' := ⟨Kp.of h, fun _ ⟨r, e⟩ => ⟨r, h _ _ e⟩⟩
theorem KpG.put {b D : Addr} {H : Hp} {o : HO} (nD : H D = none) (H1 : Hp) (k : KpG b H H1) (hD : D ≠ b) : KpG b H (upd H1 D o) :=
  ⟨fun a u e n => by
    rw [upd_ne (ne_of_none e nD)]
    exact k.k0 a u e n, fun c h => by
    obtain ⟨r, e⟩ := k.hd c h
    exact ⟨r, by rw [upd_ne hD.symm]; exact e⟩⟩
theorem Bag.put {H : Hp} {b c D : Addr} {o : HO} (h : Bag H b) (hc : Hd H b c) (h1 : D ≠ b) (h2 : D ≠ c) : Bag (upd H D o) b := by
  obtain ⟨c', ns, p, r, x, q, e1, e2, e3⟩ := h
  obtain ⟨r', e⟩ := hc
  rw [e] at e1
  cases e1
  exact ⟨c, ns, p, r, x, q, by rw [upd_ne h1.symm]; exact e, by rw [upd_ne h2.symm]; exact e2, e3⟩
theorem Bag.hd {H : Hp} {b : Addr} (h : Bag H b) : ∃ c o, Hd H b c ∧ H c = some o := by
  obtain ⟨c, ns, p, r, x, q, e1, e2, e3⟩ := h
  exact ⟨c, _, ⟨_, e1⟩, e2⟩
/-- the bag, and where its cells stand -/
def BagC (H : Hp) (b cc : Addr) : Prop := Bag H b ∧ Hd H b cc ∧ ∃ o, H cc = some o
theorem BagC.kp {H H' : Hp} {b cc : Addr} (x : BagC H b cc) (k : KpG b H H') (hb : Bag H' b) : BagC H' b cc := by
  obtain ⟨h1, h2, o, h3⟩ := x
  refine ⟨hb, k.hd cc h2, ?_⟩
  obtain ⟨c', ns, p, r, x, q, e1, e2, e3, _⟩ := h1
  obtain ⟨r', e⟩ := h2
  rw [e] at e1
  cases e1
  exact ⟨o, k.k0 _ _ h3 e3⟩
theorem BagC.put {H : Hp} {b cc D : Addr} {o : HO} (x : BagC H b cc) (h1 : D ≠ b) (h2 : D ≠ cc) : BagC (upd H D o) b cc := by
  obtain ⟨a, c, u, d⟩ := x
  refine ⟨a.put c h1 h2, ?_, u, by rw [upd_ne h2.symm]; exact d⟩
  obtain ⟨r, e⟩ := c
  exact ⟨r, by rw [upd_ne h1.symm]; exact e⟩
theorem BagC.same {H H' : Hp} {b cc : Addr} (x : BagC H b cc) (e : Same H H') : BagC H' b cc := by
  obtain ⟨a, ⟨r, c⟩, u, d⟩ := x
  exact ⟨a.same e, ⟨r, e _ _ c⟩, u, e _ _ d⟩
theorem BagC.ne {H : Hp} {b cc D : Addr} (x : BagC H b cc) (n : H D = none) : D ≠ b ∧ D ≠ cc := by
  obtain ⟨a, ⟨r, c⟩, u, d⟩ := x
  exact ⟨fun z => (by rw [z, c] at n; cases n), fun z => (by rw [z, d] at n; cases n)⟩
theorem Bag.c {H : Hp} {b : Addr} (h : Bag H b) : ∃ cc, BagC H b cc := by
  obtain ⟨c, o, h1, h2⟩ := h.hd
  exact ⟨c, h, h1, o, h2⟩
theorem kp_none {c D : Addr} {H H2 : Hp} (k : Kp c H H2) (n : H2 D = none) (h : D ≠ c) : H D = none := by
  cases e : H D with
  | none => rfl
  | some o =>
    rw [k _ _ e h] at n
    cases n
theorem kp_put {c D : Addr} {H H2 : Hp} {o : HO} (k : Kp c H H2) (n : H D = none) : Kp c H (upd H2 D o) := fun b u e h => by
  rw [upd_ne (ne_of_none e n)]
  exact k b u e h
/-! ### the promises of the law's helpers -/
def spBag (K : PySem.W.Frag) : Sp := fun vs H Q _ => ∃ (a : Addr) (ns : List Int), vs = [.ref a] ∧ SqL K H a (ns.map V.int) ∧ ns.length ≤ 63 ∧ ∀ b H', H b = none → Same H H' → Bag H' b → Q (.ref b) H'
def spGet : Sp := fun vs H Q _ => ∃ (b : Addr) (m : Int), vs = [.ref b, .int m] ∧ Bag H b ∧ 0 < m ∧ m < 1073741824 ∧ ∀ r H', 0 ≤ r → r < m → Bag H' b → KpG b H H' → Q (.int r) H'
def spFar : Sp := fun vs H Q _ => ∃ (b : Addr) (k : Nat), vs = [.ref b, .int k] ∧ Bag H b ∧ k ≤ 300 ∧ ∀ (r : Int) H', 0 ≤ r → r < 1000 ^ k → Bag H' b → Kp b H H' → Q (.int r) H'
def spGcd : Sp := fun vs H Q _ => ∃ a c : Int, vs = [.int a, .int c] ∧ 0 ≤ a ∧ 0 ≤ c ∧ Q (.int (Int.gcd a c : Nat)) H
def spPart (K : PySem.W.Frag) : Sp := fun vs H Q _ => ∃ a c : Int, vs = [.int a, .int c] ∧ c ≠ 0 ∧ a.natAbs < 2 ^ 8000 ∧ c.natAbs < 2 ^ 8000 ∧ ∀ v H', Same H H' → PtV K H' v (Rat.divInt a c) → Q v H'
def spNumber : Sp := fun vs H Q _ => ∃ b : Addr, vs = [.ref b] ∧ Bag H b ∧ ∀ (r : Int) H', r.natAbs < 2 ^ 200 → Bag H' b → Kp b H H' → Q (.int r) H'
def spSomePart (K : PySem.W.Frag) : Sp := fun vs H Q _ => ∃ b : Addr, vs = [.ref b] ∧ Bag H b ∧ ∀ v q H', PtV K H' v q → Sz 201 q → Bag H' b → Kp b H H' → Q v H'
/-- two parts in, f of them out -/
@[irreducible] def spTwo (K : PySem.W.Frag) (C : Rat → Rat → Prop) (f : Rat → Rat → Rat) : Sp := fun vs H Q _ => ∃ (v w : V) (x y : Rat), vs = [v, w] ∧ PtV K H v x ∧ PtV K H w y ∧ Sz 3900 x ∧ Sz 3900 y ∧ C x y ∧ ∀ u H', Same H H' → PtV K H' u (f x y) → Q u H'
@[irreducible] def spLess (K : PySem.W.Frag) : Sp := fun vs H Q _ => ∃ (v w : V) (x y : Rat), vs = [v, w] ∧ PtV K H v x ∧ PtV K H w y ∧ Sz 3900 x ∧ Sz 3900 y ∧ ∀ r, r = V.bl (decide (x < y)) → Q r H
end Cc
namespace Cc
open PySem PySem.Spec PyProof.Rows L2
/-! ### steps of a reading -/
section
variable {K : PySem.W.Frag} {H : Hp} {v w : V} {x y : Rat} {Q : VK}
theorem two_step {C : Rat → Rat → Prop} {g : Rat → Rat → Rat} {m n : Nat} {vs : List V} {E : XK} (hv : PtV K H v x) (hw : PtV K H w y) (sx : Sz m x) (sy : Sz n y) (hm : m ≤ 3900) (hn : n ≤ 3900) (hc : C x y) (h : ∀ u H', Same H H' → PtV K H' u (g x y) → Q u H') (hvs : vs = [v, w] := by rfl) : spTwo K C g vs H Q E := by
  unfold spTwo
  exact ⟨v, w, x, y, hvs, hv, hw, sx.mono hm, sy.mono hn, hc, h⟩
theorem less_step {m n : Nat} {vs : List V} {E : XK} (hv : PtV K H v x) (hw : PtV K H w y) (sx : Sz m x) (sy : Sz n y) (hm : m ≤ 3900) (hn : n ≤ 3900) (h : Q (.bl (decide (x < y))) H) (hvs : vs = [v, w] := by rfl) : spLess K vs H Q E := by
  unfold spLess
  exact ⟨v, w, x, y, hvs, hv, hw, sx.mono hm, sy.mono hn, fun _ e => e ▸ h⟩
theorem neD_step (hv : PtV K H v x) (hw : PtV K H w y) (h : Q (.bl (!decide (x = y))) H) : rNeD K v w H Q :=
  ⟨_, _, hv.dp, hw.dp, dPart_shaped _, dPart_shaped _, by rw [eqv_part]; exact h⟩
theorem eqD_step (hv : PtV K H v x) (hw : PtV K H w y) (h : Q (.bl (decide (x = y))) H) : rEqD K v w H Q :=
  ⟨_, _, hv.dp, hw.dp, dPart_shaped _, dPart_shaped _, by rw [eqv_part]; exact h⟩
end
section
variable {X : Cx}
def rCntB (K : PySem.W.Frag) : V → List V → Hp → VK → Prop := fun x xs H Q => ∃ (p : Addr) (bs : List Bool) (k : Bool), x = .ref p ∧ xs = [.bl k] ∧ SqL K H p (bs.map V.bl) ∧ Q (.int (bs.count k : Nat)) H
theorem reads_bools (hp : Heap) : ∀ bs : List Bool, ∃ as, ReadsAll hp (bs.map Value.bool) (bs.map PyData.bool) as
  | [] => ⟨_, ReadsAll.nil⟩
  | b :: r => by
    obtain ⟨as, h⟩ := reads_bools hp r
    exact ⟨_, ReadsAll.cons (Reads.bool b) h⟩
theorem countIn_bools (k : Bool) : ∀ bs : List Bool, countIn (.bool k) (bs.map PyData.bool) = (bs.count k : Nat)
  | [] => rfl
  | b :: r => by
    have ih := countIn_bools k r
    rw [List.map_cons, countIn, ih, List.count_cons]
    cases b <;> cases k <;> simp [same] <;> omega
theorem mt_lcountB : MtR X "list.count" (rCntB X.K) := by
  intro pins s σ H x xs v us Q I rx rxs h
  obtain ⟨p, bs, k, rfl, rfl, hs, q⟩ := h
  cases rx
  obtain ⟨u, rfl, ru⟩ := rxs.one
  cases ru
  obtain ⟨its, rv, hl, hlen⟩ := I.list hs
  have hb := rv.bls
  obtain ⟨as, ra⟩ := reads_bools s.heap bs
  refine count_list_bools (xs := bs.map PyData.bool) hl.isList (by rw [hb]; exact ra) ?_ ?_
  · rw [List.all_map]
    exact List.all_eq_true.mpr fun b _ => by cases b <;> rfl
  · rw [countIn_bools]
    exact ⟨.int _, H, I.tok _, ⟨_, rfl⟩, q⟩
end
theorem sz_abs {n : Nat} {x : Rat} (h : Sz n x) : x.num.natAbs < 2 ^ n ∧ ((x.den : Nat) : Int).natAbs < 2 ^ n := ⟨h.1, by rw [Int.natAbs_natCast]; exact h.2⟩
def spLaw (K : PySem.W.Frag) : Sp := fun vs H Q _ => ∃ (a : Addr) (ns : List Int), vs = [.ref a] ∧ SqL K H a (ns.map V.int) ∧ ns.length ≤ 63 ∧ ∀ H', Q (.bl true) H'
end Cc
namespace Cc
open PySem PySem.Spec PyProof.Rows L2
/-! ### data that stand still -/
section
variable {K : PySem.W.Frag} {H H' : Hp}
theorem seqL_same {a : Addr} {xs : List V} (e : Same H H') (h : SqL K H a xs) : SqL K H' a xs := e.seq h
mutual
theorem Dp.mono (e : Same H H') : ∀ (d : PyData) (v : V), Dp K H v d → Dp K H' v d
  | .none, _, h => by cases h; exact .non
  | .bool b, _, h => by cases h; exact .bl b
  | .int i, _, h => by cases h; exact .int i
  | .str x, _, h => by cases h; exact .str x
  | .list ds, _, h => by
    cases h with
    | lst hs ha => exact .lst (seqL_same e hs) (Dp.monoAll e ds _ ha)
  | .tuple ds, _, h => by
    cases h with
    | tup hs ha => exact .tup (seqT_same e hs) (Dp.monoAll e ds _ ha)
  | .dict _, _, h => by cases h
theorem Dp.monoAll (e : Same H H') : ∀ (ds : List PyData) (vs : List V), DpAll K H vs ds → DpAll K H' vs ds
  | [], _, h => by cases h; exact .nil
  | d :: ds, _, h => by
    cases h with
    | cons h1 h2 => exact .cons (Dp.mono e d _ h1) (Dp.monoAll e ds _ h2)
end
theorem dpAll_len : ∀ {vs : List V} {ds : List PyData}, DpAll K H vs ds → vs.length = ds.length
  | _, _, .nil => rfl
  | _, _, .cons _ h => by rw [List.length_cons, List.length_cons, dpAll_len h]
theorem dpAll_get : ∀ {vs : List V} {ds : List PyData} (h : DpAll K H vs ds) {i : Nat} {v : V}, vs[i]? = some v → ∃ d, ds[i]? = some d ∧ Dp K H v d
  | _, _, .nil, i, v, e => by simp at e
  | _, _, .cons (d := d) h1 h2, 0, v, e => by
    cases e
    exact ⟨d, rfl, h1⟩
  | _, _, .cons h1 h2, i + 1, v, e => by
    rw [List.getElem?_cons_succ] at e
    obtain ⟨d, hd, h⟩ := dpAll_get h2 e
    exact ⟨d, by rw [List.getElem?_cons_succ]; exact hd, h⟩
/-! ### types of data -/
def tyN : PyData → String
  | .none => "NoneType"
  | .bool _ => "bool"
  | .int _ => "int"
  | .str _ => "str"
  | .list _ => "list"
  | .tuple _ => "tuple"
  | .dict _ => "dict"
theorem tyx_tup {a : Addr} {xs : List V} (h : SqT K H a xs) : TyX K H (.ref a) (.type "tuple") := by
  rcases h with (h | ⟨o, h⟩) | ⟨o, its, n, h1, h2, _⟩
  · exact .base (.tup h)
  · exact .fTuple h
  · exact .kTuple h1 h2
theorem tyx_lst {a : Addr} {xs : List V} (h : SqL K H a xs) : TyX K H (.ref a) (.type "list") := by
  rcases h with (h | ⟨o, h⟩) | ⟨o, its, n, h1, h2, _⟩
  · exact .base (.lst h)
  · exact .base (.frz h)
  · exact .kList h1 h2
theorem tyx_of {v : V} : ∀ {d : PyData}, Dp K H v d → TyX K H v (.type (tyN d))
  | _, .non => .base .non
  | _, .bl b => .base (.bl b)
  | _, .int i => .base (.int i)
  | _, .str x => .base (.str x)
  | _, .lst h _ => tyx_lst h
  | _, .tup h _ => tyx_tup h
@[irreducible] def rIsiI (K : PySem.W.Frag) : List V → Hp → VK → Prop := rIsi K
@[irreducible] def rIsiTI (K : PySem.W.Frag) : List V → Hp → VK → Prop := rIsiT K
theorem call_isiI {X : Cx} : CallR X (.builtin "isinstance") (rIsiI X.K) := by
  unfold rIsiI
  exact call_isi
theorem call_isiTI {X : Cx} : CallR X (.builtin "isinstance") (rIsiTI X.K) := by
  unfold rIsiTI
  exact call_isiT
/-- isinstance of one type, of a datum -/
theorem isi_step {v : V} {d : PyData} (t n : String) (b : Bool) {Q : VK} {vs : List V} (h : Dp K H v d) (ht : tyN d = t) (hk : kitB t n = some b) (q : Q (.bl b) H) (hvs : vs = [v, .ty n] := by rfl) : rIsiI K vs H Q := by
  unfold rIsiI
  exact ⟨v, .ty n, _, _, b, hvs, .ty n, tyx_of h, kit_ty (by rw [ht]; exact hk), q⟩
theorem isiT_step {v : V} {d : PyData} {t n m : String} {b c : Bool} {tp : Addr} {Q : VK} {vs : List V} (h : Dp K H v d) (ht : tyN d = t) (hT : H tp = some (.tup [.ty n, .ty m])) (hk : kitB t n = some b) (hk2 : kitB t m = some c) (q : Q (.bl (b || c)) H) (hvs : vs = [v, .ref tp] := by rfl) : rIsiTI K vs H Q := by
  unfold rIsiTI
  subst ht
  refine ⟨v, tp, [.ty n, .ty m], _, [.type n, .type m], b || c, hvs, hT, .cons (.ty n) (.cons (.ty m) .nil), tyx_of h, ?_, q⟩
  refine kitAny_cons (kit_ty hk) (fun e => ?_) (fun e => by rw [e]; rfl)
  subst e
  refine kitAny_cons (r := false || c) (kit_ty hk2) (fun e => ?_) (fun e => by rw [e]; rfl)
  subst e
  exact kitAny_nil
end
/-! ### the promise of _law_same -/
/-- the datum is less deep than n, its lists and tuples short -/
def dle : Nat → PyData → Bool
  | 0, _ => false
  | n + 1, .list ds => decide (ds.length ≤ 1000) && ds.all (dle n)
  | n + 1, .tuple ds => decide (ds.length ≤ 1000) && ds.all (dle n)
  | _ + 1, .dict _ => false
  | _ + 1, .str x => SeqAt.shaped (.str x)
  | _ + 1, _ => true
/-- two things of one datum are the same -/
@[irreducible] def spSame (K : PySem.W.Frag) (n : Nat) : Sp := fun vs H Q _ => ∃ (v w : V) (d : PyData), vs = [v, w] ∧ Dp K H v d ∧ Dp K H w d ∧ dle n d = true ∧ ∀ r H', Same H H' → r = V.bl true → Q r H'
theorem same_step {K : PySem.W.Frag} {H : Hp} {n : Nat} {v w : V} {d : PyData} {Q : VK} {E : XK} {vs : List V} (hv : Dp K H v d) (hw : Dp K H w d) (hd : dle n d = true) (q : ∀ H', Same H H' → Q (.bl true) H') (hvs : vs = [v, w] := by rfl) : spSame K n vs H Q E := by
  unfold spSame
  exact ⟨v, w, d, hvs, hv, hw, hd, fun r H' s e => by rw [e]; exact q H' s⟩
theorem fn_none {P : Program} {w : World} {K : PySem.W.Frag} {mg : Str → Option Value} {base : Heap} {f : Addr} {fd : FuncData} {ps : List Str} {sp : Sp} {k : Nat} (h : ∀ vs H Q E, ¬ sp vs H Q E) : FnOk P w K mg base CX0 k f fd ps sp :=
  ⟨fun vs H Q E z => absurd z (h vs H Q E), fun A outer s H args us vs Q E _ _ _ _ z => absurd z (h vs H Q E)⟩
theorem defOk_none {P : Program} {w : World} {K : PySem.W.Frag} {mg : Str → Option Value} {base : Heap} {x : Str} {st : Stmt} {ps : List Str} {sp : Sp} {k : Nat} (F : DefAt K mg x st ps) (h : ∀ vs H Q E, ¬ sp vs H Q E) : DefOk P w K mg base k x ps sp := by
  obtain ⟨f, fd, F, hm, hb⟩ := F
  exact ⟨f, fd, fn_none h, hm, F.kp, hb⟩
end Cc
namespace Cc
open PySem PySem.Spec PyProof.Rows L2
/-- a box of the mathematics -/
structure Bx where
  l : Rat
  t : Rat
  w : Rat
  h : Rat
structure Bx.Ok (n : Nat) (b : Bx) : Prop where
  w0 : 0 < b.w
  h0 : 0 < b.h
  sl : Sz n b.l
  st : Sz n b.t
  sw : Sz n b.w
  sh : Sz n b.h
theorem Bx.Ok.mono {m n : Nat} {b : Bx} (x : b.Ok m) (h : m ≤ n) : b.Ok n := ⟨x.w0, x.h0, x.sl.mono h, x.st.mono h, x.sw.mono h, x.sh.mono h⟩
section
variable {K : PySem.W.Frag} {H H' : Hp}
/-- a box as it stands: its tuple at a, its parts -/
def BxAt (K : PySem.W.Frag) (H : Hp) (a : Addr) (v1 v2 v3 v4 : V) (b : Bx) : Prop :=
  SqT K H a [v1, v2, v3, v4] ∧ PtV K H v1 b.l ∧ PtV K H v2 b.t ∧ PtV K H v3 b.w ∧ PtV K H v4 b.h
def BxV (K : PySem.W.Frag) (H : Hp) (v : V) (b : Bx) : Prop := ∃ a v1 v2 v3 v4, v = .ref a ∧ BxAt K H a v1 v2 v3 v4 b
theorem BxAt.same {a : Addr} {v1 v2 v3 v4 : V} {b : Bx} (x : BxAt K H a v1 v2 v3 v4 b) (e : Same H H') : BxAt K H' a v1 v2 v3 v4 b :=
  ⟨seqT_same e x.1, x.2.1.same e, x.2.2.1.same e, x.2.2.2.1.same e, x.2.2.2.2.same e⟩
theorem BxAt.bag {a c : Addr} {v1 v2 v3 v4 : V} {b : Bx} (x : BxAt K H a v1 v2 v3 v4 b) (e : Kp c H H') (hb : Bag H c) : BxAt K H' a v1 v2 v3 v4 b := by
  obtain ⟨ys, h⟩ := hb.lst
  exact ⟨seqT_kp e h x.1, x.2.1.kp e h, x.2.2.1.kp e h, x.2.2.2.1.kp e h, x.2.2.2.2.kp e h⟩
theorem BxV.same {v : V} {b : Bx} (x : BxV K H v b) (e : Same H H') : BxV K H' v b := by
  obtain ⟨a, v1, v2, v3, v4, rfl, x⟩ := x
  exact ⟨a, v1, v2, v3, v4, rfl, x.same e⟩
theorem BxV.bag {c : Addr} {v : V} {b : Bx} (x : BxV K H v b) (e : Kp c H H') (hb : Bag H c) : BxV K H' v b := by
  obtain ⟨a, v1, v2, v3, v4, rfl, x⟩ := x
  exact ⟨a, v1, v2, v3, v4, rfl, x.bag e hb⟩
theorem BxV.mk {p : Addr} {v1 v2 v3 v4 : V} {b : Bx} (np : H p = none) (h1 : PtV K H v1 b.l) (h2 : PtV K H v2 b.t) (h3 : PtV K H v3 b.w) (h4 : PtV K H v4 b.h) : BxV K (upd H p (.tup [v1, v2, v3, v4])) (.ref p) b :=
  ⟨p, v1, v2, v3, v4, rfl, SqT.of upd_same, h1.same (same_new np), h2.same (same_new np), h3.same (same_new np), h4.same (same_new np)⟩
def dBox (b : Bx) : PyData := .tuple [dPart b.l, dPart b.t, dPart b.w, dPart b.h]
theorem BxV.dp {v : V} {b : Bx} (x : BxV K H v b) : Dp K H v (dBox b) := by
  obtain ⟨a, v1, v2, v3, v4, rfl, h, h1, h2, h3, h4⟩ := x
  exact .tup h (.cons h1.dp (.cons h2.dp (.cons h3.dp (.cons h4.dp .nil))))
/-- a part that is whole -/
theorem ptv_int {p : Addr} (np : H p = none) (i : Int) : PtV K (upd H p (.tup [.int i, .int 1])) (.ref p) (i : Rat) := PtV.new rfl rfl
end
/-- a name of the module that holds nought -/
def NoughtAt (K : PySem.W.Frag) (mg : Str → Option Value) : Prop := ∃ a, mg "NOUGHT" = some (.ref a) ∧ ∀ H, PtV K H (.ref a) 0
theorem nought_mk {K : PySem.W.Frag} {mg : Str → Option Value} {h : Heap} (X : K.In h) (G : h.Ns mainGlobals mg) {a : Addr} {dd : Option Addr} {n : Nat} {t u : Tok} {sl : Array (Option Value)}
    (e : PySem.W.nsIn K mainGlobals "NOUGHT" = some (some (.ref a))) (l : K.lookup a = some ⟨.type "tuple", dd, .seq #[.int 0 t, .int 1 u] n, sl⟩) : NoughtAt K mg :=
  ⟨a, PySem.W.mg_of X G e, fun _ => ⟨a, rfl, .inr ⟨_, _, _, l, rfl, rfl, (show 2 ≤ sizeLine by decide), .cons ⟨t, rfl⟩ (.cons ⟨u, rfl⟩ .nil)⟩⟩⟩
/-! ### promises -/
@[irreducible] def spIsNum : Sp := fun vs H Q _ => ∃ i : Int, vs = [.int i] ∧ ∀ r, r = V.bl true → Q r H
@[irreducible] def spIsPart (K : PySem.W.Frag) : Sp := fun vs H Q _ => ∃ (v : V) (q : Rat), vs = [v] ∧ PtV K H v q ∧ ∀ r, r = V.bl true → Q r H
@[irreducible] def spIsBox (K : PySem.W.Frag) : Sp := fun vs H Q _ => ∃ (v : V) (b : Bx), vs = [v] ∧ BxV K H v b ∧ b.Ok 3900 ∧ ∀ r H', Same H H' → r = V.bl true → Q r H'
@[irreducible] def spCheck (K : PySem.W.Frag) : Sp := fun vs H Q _ => ∃ (v : V) (b : Bx), vs = [v] ∧ BxV K H v b ∧ b.Ok 3900 ∧ ∀ r H', Same H H' → r = V.non → Q r H'
/-- a part of a box -/
@[irreducible] def spOfBox (K : PySem.W.Frag) (g : Bx → Rat) : Sp := fun vs H Q _ => ∃ (v : V) (b : Bx), vs = [v] ∧ BxV K H v b ∧ b.Ok 1900 ∧ ∀ u H', Same H H' → PtV K H' u (g b) → Q u H'
def gr (x y : Rat) : Rat := if x < y then y else x
def ls (x y : Rat) : Rat := if x < y then x else y
def shp (b : Bx) : Rat := gr (b.w / b.h) (b.h / b.w)
@[irreducible] def spSomeBox (K : PySem.W.Frag) : Sp := fun vs H Q _ => ∃ c : Addr, vs = [.ref c] ∧ Bag H c ∧ ∀ v b H', BxV K H' v b → b.Ok 202 → Bag H' c → Kp c H H' → Q v H'
@[irreducible] def spAbove (K : PySem.W.Frag) : Sp := fun vs H Q _ => ∃ c : Addr, vs = [.ref c] ∧ Bag H c ∧ ∀ v q H', PtV K H' v q → 0 < q → Sz 202 q → Bag H' c → Kp c H H' → Q v H'
section
variable {K : PySem.W.Frag} {H : Hp} {v : V} {b : Bx} {Q : VK} {vs : List V} {E : XK} {q : Rat}
theorem isnum_step {i : Int} (h : Q (.bl true) H) (hvs : vs = [.int i] := by rfl) : spIsNum vs H Q E := by
  unfold spIsNum
  exact ⟨i, hvs, fun r e => by rw [e]; exact h⟩
theorem ispart_step (hv : PtV K H v q) (h : Q (.bl true) H) (hvs : vs = [v] := by rfl) : spIsPart K vs H Q E := by
  unfold spIsPart
  exact ⟨v, q, hvs, hv, fun r e => by rw [e]; exact h⟩
theorem isbox_step {n : Nat} (hv : BxV K H v b) (hb : b.Ok n) (hn : n ≤ 3900) (h : ∀ H', Same H H' → Q (.bl true) H') (hvs : vs = [v] := by rfl) : spIsBox K vs H Q E := by
  unfold spIsBox
  exact ⟨v, b, hvs, hv, hb.mono hn, fun r H' s e => by rw [e]; exact h H' s⟩
theorem check_step {n : Nat} (hv : BxV K H v b) (hb : b.Ok n) (hn : n ≤ 3900) (h : ∀ H', Same H H' → Q .non H') (hvs : vs = [v] := by rfl) : spCheck K vs H Q E := by
  unfold spCheck
  exact ⟨v, b, hvs, hv, hb.mono hn, fun r H' s e => by rw [e]; exact h H' s⟩
theorem ofbox_step {g : Bx → Rat} {n : Nat} (hv : BxV K H v b) (hb : b.Ok n) (hn : n ≤ 1900) (h : ∀ u H', Same H H' → PtV K H' u (g b) → Q u H') (hvs : vs = [v] := by rfl) : spOfBox K g vs H Q E := by
  unfold spOfBox
  exact ⟨v, b, hvs, hv, hb.mono hn, h⟩
theorem somebox_step {c : Addr} (hb : Bag H c) (h : ∀ v b H', BxV K H' v b → b.Ok 202 → Bag H' c → Kp c H H' → Q v H') (hvs : vs = [.ref c] := by rfl) : spSomeBox K vs H Q E := by
  unfold spSomeBox
  exact ⟨c, hvs, hb, h⟩
theorem above_step {c : Addr} (hb : Bag H c) (h : ∀ v q H', PtV K H' v q → 0 < q → Sz 202 q → Bag H' c → Kp c H H' → Q v H') (hvs : vs = [.ref c] := by rfl) : spAbove K vs H Q E := by
  unfold spAbove
  exact ⟨c, hvs, hb, h⟩
end
@[irreducible] def spPick : Sp := fun vs H Q _ => ∃ (c L : Addr) (xs : List V), vs = [.ref c, .ref L] ∧ Bag H c ∧ H L = some (.lst xs) ∧ L ≠ c ∧ 0 < xs.length ∧ xs.length ≤ 1000 ∧ ∀ v H', v ∈ xs → Bag H' c → Kp c H H' → Q v H'
@[irreducible] def spEnds (K : PySem.W.Frag) : Sp := fun vs H Q _ => ∃ (v : V) (b : Bx), vs = [v] ∧ BxV K H v b ∧ b.Ok 1900 ∧ ∀ p v1 v2 v3 v4 H', Same H H' → BxAt K H' p v1 v2 v3 v4 ⟨b.l, b.l + b.w, b.t, b.t + b.h⟩ → Q (.ref p) H'
@[irreducible] def spStretch (K : PySem.W.Frag) : Sp := fun vs H Q _ => ∃ (v1 v2 v3 : V) (x l p : Rat), vs = [v1, v2, v3] ∧ PtV K H v1 x ∧ PtV K H v2 l ∧ PtV K H v3 p ∧ Sz 1900 x ∧ Sz 1900 l ∧ Sz 3900 p ∧ ∀ r H', Same H H' → r = V.bl (!decide (p < x) && decide (p < x + l)) → Q r H'
def lies (b : Bx) (x y : Rat) : Bool := (!decide (x < b.l) && decide (x < b.l + b.w)) && (!decide (y < b.t) && decide (y < b.t + b.h))
@[irreducible] def spLies (K : PySem.W.Frag) : Sp := fun vs H Q _ => ∃ (v1 v2 v3 : V) (b : Bx) (x y : Rat), vs = [v1, v2, v3] ∧ BxV K H v1 b ∧ PtV K H v2 x ∧ PtV K H v3 y ∧ b.Ok 1900 ∧ Sz 3900 x ∧ Sz 3900 y ∧ ∀ r H', Same H H' → r = V.bl (lies b x y) → Q r H'
section
variable {K : PySem.W.Frag} {H : Hp} {v : V} {b : Bx} {Q : VK} {vs : List V} {E : XK}
theorem pick_step {c L : Addr} {xs : List V} (hb : Bag H c) (hL : H L = some (.lst xs)) (hne : L ≠ c) (h0 : 0 < xs.length) (h1 : xs.length ≤ 1000) (h : ∀ v H', v ∈ xs → Bag H' c → Kp c H H' → Q v H') (hvs : vs = [.ref c, .ref L] := by rfl) : spPick vs H Q E := by
  unfold spPick
  exact ⟨c, L, xs, hvs, hb, hL, hne, h0, h1, h⟩
theorem ends_step {n : Nat} (hv : BxV K H v b) (hb : b.Ok n) (hn : n ≤ 1900) (h : ∀ p v1 v2 v3 v4 H', Same H H' → BxAt K H' p v1 v2 v3 v4 ⟨b.l, b.l + b.w, b.t, b.t + b.h⟩ → Q (.ref p) H') (hvs : vs = [v] := by rfl) : spEnds K vs H Q E := by
  unfold spEnds
  exact ⟨v, b, hvs, hv, hb.mono hn, h⟩
theorem stretch_step {v1 v2 v3 : V} {x l p : Rat} {m n k : Nat} (h1 : PtV K H v1 x) (h2 : PtV K H v2 l) (h3 : PtV K H v3 p) (s1 : Sz m x) (s2 : Sz n l) (s3 : Sz k p) (hm : m ≤ 1900) (hn : n ≤ 1900) (hk : k ≤ 3900)
    (h : ∀ H', Same H H' → Q (.bl (!decide (p < x) && decide (p < x + l))) H') (hvs : vs = [v1, v2, v3] := by rfl) : spStretch K vs H Q E := by
  unfold spStretch
  exact ⟨v1, v2, v3, x, l, p, hvs, h1, h2, h3, s1.mono hm, s2.mono hn, s3.mono hk, fun r H' s e => by rw [e]; exact h H' s⟩
theorem lies_step {v1 v2 v3 : V} {x y : Rat} {m n k : Nat} (h1 : BxV K H v1 b) (h2 : PtV K H v2 x) (h3 : PtV K H v3 y) (s1 : b.Ok m) (s2 : Sz n x) (s3 : Sz k y) (hm : m ≤ 1900) (hn : n ≤ 3900) (hk : k ≤ 3900)
    (h : ∀ H', Same H H' → Q (.bl (lies b x y)) H') (hvs : vs = [v1, v2, v3] := by rfl) : spLies K vs H Q E := by
  unfold spLies
  exact ⟨v1, v2, v3, b, x, y, hvs, h1, h2, h3, s1.mono hm, s2.mono hn, s3.mono hk, fun r H' s e => by rw [e]; exact h H' s⟩
end
/-! ### mathematics -/
theorem divInt_pos {a c : Int} (h : 0 < a) (hc : 0 < c) : 0 < Rat.divInt a c := by
  rw [Rat.divInt_eq_div, Rat.div_def]
  exact Rat.mul_pos (Rat.intCast_pos.mpr h) (Rat.inv_pos.mpr (Rat.intCast_pos.mpr hc))
theorem int_pos {i : Int} (h : 0 < i) : (0 : Rat) < (i : Rat) := Rat.intCast_pos.mpr h
theorem int_sz {i : Int} (h : -1000 ≤ i ∧ i ≤ 1000) : Sz 202 ((i : Int) : Rat) := by
  constructor
  · show i.natAbs < 2 ^ 202
    exact Nat.lt_of_lt_of_le (show i.natAbs < 2 ^ 10 by omega) (Nat.pow_le_pow_right (by decide) (by decide))
  · exact Nat.one_lt_two_pow (by decide)

theorem dv_lt {w h : Rat} (hw : 0 < w) (hh : 0 < h) (e : w < h) : w / h < h / w := by
  have h1 : w / h < 1 := (Rat.div_lt_iff hh).mpr (by grind)
  have h2 : 1 < h / w := (Rat.lt_div_iff hw).mpr (by grind)
  grind
theorem gr_shape {w h : Rat} (hw : 0 < w) (hh : 0 < h) : (if w < h then h / w else w / h) = gr (w / h) (h / w) := by
  unfold gr
  by_cases e : w < h
  · rw [if_pos e, if_pos (dv_lt hw hh e)]
  · rw [if_neg e]
    by_cases e2 : h < w
    · rw [if_neg (by have := dv_lt hh hw e2; grind)]
    · have e3 : w = h := by grind
      subst e3
      rw [if_neg (by grind)]
theorem gr_comm (x y : Rat) : gr x y = gr y x := by
  unfold gr
  split <;> split <;> grind
theorem one_le_shape {w h : Rat} (hw : 0 < w) (hh : 0 < h) : ¬ gr (w / h) (h / w) < 1 := by
  rw [← gr_shape hw hh]
  split
  · rename_i e
    have h2 : 1 < h / w := (Rat.lt_div_iff hw).mpr (by grind)
    grind
  · rename_i e
    by_cases e2 : h < w
    · have h2 : 1 < w / h := (Rat.lt_div_iff hh).mpr (by grind)
      grind
    · have e3 : w = h := by grind
      subst e3
      rw [Rat.div_def, Rat.mul_inv_cancel w (by grind)]
      grind
/-! ### lists of parts -/
def PtsL (K : PySem.W.Frag) (H : Hp) (L : Addr) (n : Nat) : Prop := ∃ xs, H L = some (.lst xs) ∧ 0 < xs.length ∧ xs.length ≤ 1000 ∧ ∀ v ∈ xs, ∃ q, PtV K H v q ∧ Sz n q
theorem PtsL.same {K : PySem.W.Frag} {H H' : Hp} {L : Addr} {n : Nat} (x : PtsL K H L n) (e : Same H H') : PtsL K H' L n := by
  obtain ⟨xs, h, h0, h1, h2⟩ := x
  refine ⟨xs, e _ _ h, h0, h1, fun v hv => ?_⟩
  obtain ⟨q, hq, hz⟩ := h2 v hv
  exact ⟨q, hq.same e, hz⟩
theorem PtsL.bag {K : PySem.W.Frag} {H H' : Hp} {L c : Addr} {n : Nat} (x : PtsL K H L n) (e : Kp c H H') (hb : Bag H c) (hne : L ≠ c) : PtsL K H' L n := by
  obtain ⟨xs, h, h0, h1, h2⟩ := x
  refine ⟨xs, e _ _ h hne, h0, h1, fun v hv => ?_⟩
  obtain ⟨q, hq, hz⟩ := h2 v hv
  exact ⟨q, hq.bag e hb, hz⟩
theorem PtsL.pick {K : PySem.W.Frag} {H : Hp} {L c : Addr} {n : Nat} {Q : VK} {E : XK} {vs : List V} (x : PtsL K H L n) (hb : Bag H c) (hne : L ≠ c) (h : ∀ v q H', PtV K H' v q → Sz n q → Bag H' c → Kp c H H' → Q v H') (hvs : vs = [.ref c, .ref L] := by rfl) : spPick vs H Q E := by
  obtain ⟨xs, hL, h0, h1, h2⟩ := x
  refine pick_step hb hL hne h0 h1 (fun v H' hv hb' k => ?_) hvs
  obtain ⟨q, hq, hz⟩ := h2 v hv
  exact h v q H' (hq.bag k hb) hz hb' k
theorem tiny_part {K : PySem.W.Frag} {H : Hp} {p : Addr} {d : Int} (h0 : 0 < d) : PtV K (upd H p (.tup [.int 1, .int d])) (.ref p) (Rat.divInt 1 d) := by
  obtain ⟨e1, e2⟩ := divInt_num_eq (a := 1) h0
  rw [Int.one_gcd] at e1 e2
  exact PtV.new (by rw [e1]; rfl) (by rw [e2]; exact Int.ediv_one d)
end Cc
namespace Cc
open PySem PySem.Spec PyProof.Rows L2
/-! ### sum(t), t a tuple of ints -/
/-- the k-th of ns, nought behind them -/
def nth (ns : List Int) (k : Nat) : Int := ns.getD k 0
theorem nth_get {ns : List Int} {k : Nat} (h : k < ns.length) : nth ns k = ns[k] := by simp [nth, h]
theorem nth_sum (ns : List Int) : ∀ k, k ≤ ns.length → preSum (nth ns) k = (ns.take k).sum
  | 0, _ => by rw [List.take_zero]; rfl
  | k + 1, h => by
    show preSum (nth ns) k + nth ns k = _
    rw [nth_sum ns k (by omega), List.take_succ_eq_append_getElem h, List.sum_append, List.sum_singleton, nth_get h]
theorem ints_len {ns : List Int} {its : List Value} (rv : Vals (ns.map V.int) its) : its.toArray.size = ns.length := by
  have l := rv.length
  rw [List.length_map] at l
  exact l.symm
theorem ints_at {ns : List Int} {its : List Value} (rv : Vals (ns.map V.int) its) (i : Nat) (v : Value) (h : its.toArray[i]? = some v) : ∃ t, v = .int (nth ns i) t := by
  obtain ⟨hi, e⟩ := Array.getElem?_eq_some_iff.mp h
  have hn : i < ns.length := by rw [← ints_len rv]; exact hi
  obtain ⟨u, hu, t, ru⟩ := rv.get (i := i) (show (ns.map V.int)[i]? = some (V.int (nth ns i)) by rw [List.getElem?_map, List.getElem?_eq_getElem hn, nth_get hn]; rfl)
  rw [List.getElem?_toArray, hu] at h
  cases h
  exact ⟨t, ru⟩
section
variable {X : Cx}
/-- ints that stand in a list or in a tuple -/
def IntsV (K : PySem.W.Frag) (H : Hp) (a : Addr) (ns : List Int) : Prop := SqL K H a (ns.map V.int) ∨ SqT K H a (ns.map V.int)
@[irreducible] def rSumA (K : PySem.W.Frag) : List V → Hp → VK → Prop := fun vs H Q => ∃ (a : Addr) (ns : List Int), vs = [V.ref a] ∧ IntsV K H a ns ∧ ∀ r, r = V.int ns.sum → Q r H
theorem cr_sumA (hc : X.calm = true) : CallR X (.builtin "sum") (rSumA X.K) := fun pins s σ H vs us Q I r h => by
  unfold rSumA at h
  obtain ⟨a, ns, ev, hs, q⟩ := h
  subst ev
  rw [Vals.ref1 r]
  rcases hs with hs | hs
  · obtain ⟨its, rv, hl, -⟩ := I.list hs
    exact sum_raw (I.ok.hd hc) hl.isList rv.ints fun h' tk t old => ⟨.int _, H, I.kept old, ⟨t, rfl⟩, q _ rfl⟩
  · obtain ⟨its, rv, hl, -⟩ := I.tuple hs
    refine call_sum_walkAnyS (PySem.W.iter_tupleW (A := X.A.in1) (I.ok.hd hc) hl fun s2 e W st hb _ _ => ?_)
    refine ⟨_, _, _, _, _, _, _, nth ns, rfl, W, st, hb, ints_at rv, fun s' t m => ?_⟩
    obtain ⟨h', tk, rfl, old⟩ := PySem.W.moved_old e rfl m
    refine ⟨.int ns.sum, H, I.kept old, ⟨t, ?_⟩, q _ rfl⟩
    rw [ints_len rv, nth_sum ns _ (Nat.le_refl _), List.take_length]
theorem sum_step {K : PySem.W.Frag} {H : Hp} {a : Addr} {ns : List Int} {vs : List V} {Q : VK} (h : IntsV K H a ns) (q : Q (.int ns.sum) H) (hvs : vs = [.ref a] := by rfl) : rSumA K vs H Q := by
  unfold rSumA
  exact ⟨a, ns, hvs, h, fun r e => by rw [e]; exact q⟩
/-- two readings of one thing walked -/
theorem pi_or {tg e : Expr} {w1 w2 : TI} (h1 : PI X tg e w1) (h2 : PI X tg e w2) : PI X tg e (fun σ H R => w1 σ H R ∨ w2 σ H R) :=
  ⟨fun pins s σ H R I h => h.elim (h1.run pins s σ H R I) (h2.run pins s σ H R I)⟩
theorem pe_or2 {e : Expr} {t1 t2 : TE} (h1 : PE X e t1) (h2 : PE X e t2) : PE X e (fun σ H Q => t1 σ H Q ∨ t2 σ H Q) :=
  ⟨fun pins s σ H Q I h => h.elim (h1.run pins s σ H Q I) (h2.run pins s σ H Q I)⟩
end
/-! ### a def with one keyword-only parameter side -/
/-- as it stands: n positional parameters, then side with the default v0 -/
def DefAtS (K : PySem.W.Frag) (mg : Str → Option Value) (x : Str) (st : Stmt) (ps : List Str) (n : Nat) (v0 : V) : Prop :=
  ∃ f fd, FunD K x x (defArgs st) (defBody st) (defScope st) [] [("side", v0)] f fd ∧ mg x = some (.ref f) ∧ (∃ ds, Vals [v0] ds ∧ Binds K fd ps ds) ∧ ∃ mv : List Value, KBn K fd ps n ["side"] (fun us ws => us ++ ws) (fun vs zs => vs ++ zs)
def DefOkS (P : Program) (w : World) (K : PySem.W.Frag) (mg : Str → Option Value) (base : Heap) (k : Nat) (x : Str) (ps : List Str) (n : Nat) (v0 : V) (sp : Sp) : Prop :=
  ∃ f fd, FnOk P w K mg base CX0 k f fd ps sp ∧ mg x = some (.ref f) ∧ PySem.W.keepIn K (.ref f) = true ∧ (∃ ds, Vals [v0] ds ∧ Binds K fd ps ds) ∧ KBn K fd ps n ["side"] (fun us ws => us ++ ws) (fun vs zs => vs ++ zs)
theorem DefAtS.ok {P : Program} {w : World} {K : PySem.W.Frag} {mg : Str → Option Value} {base : Heap} {x : Str} {st : Stmt} {N ps : List Str} {k n : Nat} {v0 : V} {sp : Sp} (F : DefAtS K mg x st ps n v0) (S : FnScope N ps (defScope st)) (len : ∀ vs H Q E, sp vs H Q E → vs.length = ps.length)
    (hbody : ∀ (f : Addr) (cdv : Value) (A : Around) (outer : List Env) (s : Shared) (H : Hp) (vs : List V) (Q : VK) (E : XK), Room k (A.deeper (envOfC x (defScope st) s.heap.objs.size f cdv)) → sp vs H Q E →
      ∃ t, PSs (cxOf CX0 P w K mg base N x (defScope st) f cdv A outer s H E).nox (defBody st) t ∧ t { nx := fun _ H' => Q .non H', rt := Q } (start N vs) H) : DefOkS P w K mg base (k + 1) x ps n v0 sp := by
  obtain ⟨f, fd, F, hm, hb, mv, hk⟩ := F
  refine ⟨f, fd, F.ok S len (fun cdv A outer s H vs Q E hr h => ?_), hm, F.kp, hb, hk⟩
  obtain ⟨t, h1, h2⟩ := hbody f cdv A outer s H vs Q E hr h
  exact ⟨t, h1.nox, h2⟩
section
variable {X : Cx} {k j n : Nat} {x : Str} {ps : List Str} {sp : Sp} {p pos : Pos} {e : Expr} {es : List Expr} {kws : List Keyword} {t tk : TA} {v0 : V}
theorem pe_callS0 (D : DefOkS X.prog X.w X.K X.mg X.base k x ps n v0 sp) (hr : Room j X.A) (hkj : k ≤ j) (hg : Gl X x) (ha : PA X (e :: es) t) (hdb : (x == ("__debug__" : Str)) = false := by decide)
    (he : starEach (e :: es) X.env = (false, eval e X.env) :: starEach es X.env := by rfl) (hpl : (backTo pos (starEach es X.env)).any (·.1) = false := by rfl) :
    PE X (.Call (.Name x p) (e :: es) [] pos) (tCall sp [v0] E0 t) := by
  obtain ⟨f, fd, F, hm, hk, ⟨ds, hd, hb⟩, _⟩ := D
  exact pe_call F (hr.mono hkj) hg hm hk hb hd pass0 ha hdb he hpl
theorem pe_callS1 (D : DefOkS X.prog X.w X.K X.mg X.base k x ps n v0 sp) (hr : Room j X.A) (hkj : k ≤ j) (hg : Gl X x) (ha : PA X (e :: es) t) (hkw : PK X kws tk) (hall : (backToKw pos (keywordEach kws X.env)).all (·.1.isSome) = true := by rfl) (hks : (backToKw pos (keywordEach kws X.env)).filterMap (·.1) = (["side"] : List Str) := by rfl)
    (hdb : (x == ("__debug__" : Str)) = false := by decide) (he : starEach (e :: es) X.env = (false, eval e X.env) :: starEach es X.env := by rfl)
    (hpl : ((backTo pos (starEach (e :: es) X.env)).any (·.1) || (backToKw pos (keywordEach kws X.env)).any (·.1.isNone)) = false := by rfl) :
    PE X (.Call (.Name x p) (e :: es) kws pos) (tCallN n 1 sp (fun vs zs => vs ++ zs) E0 t tk) := by
  obtain ⟨f, fd, F, hm, hk, _, hb⟩ := D
  exact pe_callN F (hr.mono hkj) hg hm hk hb pass0 ha hkw hall hks hdb he hpl
end
theorem defAtS_mk {K : PySem.W.Frag} {mg : Str → Option Value} {h : Heap} {x : Str} {st : Stmt} {ps : List Str} {n : Nat} {z : Str} (X : K.In h) (G : h.Ns mainGlobals mg) {f D : Addr} {oc : Value} {od an : Option Addr} {osl : Array (Option Value)} {doc pm cdv ct : Value} {tz : Tok}
    (a : PySem.W.nsIn K mainGlobals x = some (some (.ref f))) (l : K.lookup f = some ⟨oc, od, .func (PySem.W.fnOf x x (defArgs st) (defBody st) (defScope st) .none (.ref D) doc pm an cdv ct), osl⟩) (c : PySem.W.codeIn K cdv x = true) (k : PySem.W.keepIn K (.ref f) = true)
    (d : PySem.W.nsIn K D "side" = some (some (.str z tz))) (hn : n + 1 = ps.length)
    (h0 : ∀ (D : Addr) (doc pm : Value) (an : Option Addr) (cdv ct : Value) (us ks : List Value), us.length = n → ks.length = 1 → KwChain D ((["side"] : List Str).zip ks) (bindArgs (PySem.W.fnOf x x (defArgs st) (defBody st) (defScope st) .none (.ref D) doc pm an cdv ct) ⟨us, []⟩) (ps.zip (us ++ ks)))
    (h1 : ∀ (D : Addr) (doc pm : Value) (an : Option Addr) (cdv ct : Value) (us ws : List Value), us.length = n → ws.length = 1 → bindArgs (PySem.W.fnOf x x (defArgs st) (defBody st) (defScope st) .none (.ref D) doc pm an cdv ct) ⟨us, (["side"] : List Str).zip ws⟩ = pure (ps.zip (us ++ ws))) : DefAtS K mg x st ps n (.str z) := by
  have F : FunD K x x (defArgs st) (defBody st) (defScope st) [] [("side", .str z)] f (PySem.W.fnOf x x (defArgs st) (defBody st) (defScope st) .none (.ref D) doc pm an cdv ct) :=
    ⟨⟨oc, od, .none, .ref D, doc, pm, an, cdv, ct, osl, rfl, l, c, .inl ⟨rfl, rfl⟩, .inr ⟨D, rfl, fun q hq => by
      rcases List.mem_cons.mp hq with rfl | hq
      · exact ⟨_, d, ⟨_, rfl⟩⟩
      · cases hq⟩⟩, k⟩
  refine ⟨f, _, F, PySem.W.mg_of X G a, ?_, ?_⟩
  · exact F.binds0 n (by simp) hn h0
  · obtain ⟨mv, hk⟩ := F.kbinds0 (ps := ps) n ["side"] [] (fun us _ ws => us ++ ws) (by simp) (by simp) (fun r1 _ r3 => r1.append r3) (fun D doc pm an cdv ct us mv ws l1 _ l3 => h1 D doc pm an cdv ct us ws l1 l3)
    exact ⟨mv, hk⟩
/-! ### weights and sides -/
structure WOk (ws : List Int) : Prop where
  l0 : 1 ≤ ws.length
  l1 : ws.length ≤ 12
  w : ∀ x ∈ ws, 1 ≤ x ∧ x ≤ 400000
def sd (d : Bool) : Str := if d then "down" else "across"
theorem sum_le : ∀ {ws : List Int}, (∀ x ∈ ws, 1 ≤ x ∧ x ≤ 400000) → (ws.length : Int) ≤ ws.sum ∧ ws.sum ≤ 400000 * ws.length
  | [], _ => by simp
  | x :: r, h => by
    have h1 := h x List.mem_cons_self
    have h2 := sum_le fun y hy => h y (List.mem_cons_of_mem _ hy)
    rw [List.sum_cons, List.length_cons]
    omega
theorem WOk.sum {ws : List Int} (h : WOk ws) : 0 < ws.sum ∧ ws.sum ≤ 4800000 := by
  have h1 := sum_le h.w
  have h2 := h.l0
  have h3 := h.l1
  omega
theorem WOk.take {ws : List Int} (h : WOk ws) (i : Nat) : 0 ≤ (ws.take i).sum ∧ (ws.take i).sum ≤ 4800000 := by
  have h1 := sum_le (ws := ws.take i) fun x hx => h.w x (List.mem_of_mem_take hx)
  have h2 : (ws.take i).length ≤ 12 := by
    have := h.l1
    rw [List.length_take]
    omega
  omega
def slab (b : Bx) (ahead share : Rat) (d : Bool) : Bx := if d then ⟨b.l, b.t + b.h * ahead, b.w, b.h * share⟩ else ⟨b.l + b.w * ahead, b.t, b.w * share, b.h⟩
/-- the i-th box of a split -/
def cutAt (b : Bx) (ws : List Int) (d : Bool) (i : Nat) : Bx := slab b (Rat.divInt (ws.take i).sum ws.sum) (Rat.divInt (ws.getD i 0) ws.sum) d
def cutM (b : Bx) (ws : List Int) (d : Bool) : List Bx := (List.range ws.length).map (cutAt b ws d)
theorem sz23 {i : Int} (h : -4800000 ≤ i ∧ i ≤ 4800000) : i.natAbs < 2 ^ 23 := by omega
theorem sz_share {a c : Int} (h : 0 ≤ a ∧ a ≤ 4800000) (hc : 0 < c ∧ c ≤ 4800000) : Sz 23 (Rat.divInt a c) := size_divInt (by omega) (sz23 (by omega)) (sz23 (by omega))
/-- boxes that stand in a list -/
inductive Bxs (K : PySem.W.Frag) (H : Hp) : List V → List Bx → Prop
  | nil : Bxs K H [] []
  | cons {v : V} {vs : List V} {b : Bx} {bs : List Bx} : BxV K H v b → Bxs K H vs bs → Bxs K H (v :: vs) (b :: bs)
theorem Bxs.same {K : PySem.W.Frag} {H H' : Hp} (e : Same H H') : ∀ {vs : List V} {bs : List Bx}, Bxs K H vs bs → Bxs K H' vs bs
  | _, _, .nil => .nil
  | _, _, .cons h r => .cons (h.same e) (r.same e)
theorem Bxs.snoc {K : PySem.W.Frag} {H : Hp} {v : V} {b : Bx} (hv : BxV K H v b) : ∀ {vs : List V} {bs : List Bx}, Bxs K H vs bs → Bxs K H (vs ++ [v]) (bs ++ [b])
  | _, _, .nil => .cons hv .nil
  | _, _, .cons h r => .cons h (r.snoc hv)
theorem Bxs.dp {K : PySem.W.Frag} {H : Hp} : ∀ {vs : List V} {bs : List Bx}, Bxs K H vs bs → DpAll K H vs (bs.map dBox)
  | _, _, .nil => .nil
  | _, _, .cons h r => .cons h.dp r.dp
theorem Bxs.len {K : PySem.W.Frag} {H : Hp} : ∀ {vs : List V} {bs : List Bx}, Bxs K H vs bs → vs.length = bs.length
  | _, _, .nil => rfl
  | _, _, .cons _ r => by rw [List.length_cons, List.length_cons, r.len]
@[irreducible] def spCheckW (K : PySem.W.Frag) : Sp := fun vs H Q _ => ∃ (a : Addr) (ws : List Int), vs = [.ref a] ∧ IntsV K H a ws ∧ WOk ws ∧ ∀ r H', Same H H' → r = V.non → Q r H'
@[irreducible] def spCheckS : Sp := fun vs H Q _ => ∃ d : Bool, vs = [.str (sd d)] ∧ ∀ r H', Same H H' → r = V.non → Q r H'
@[irreducible] def spSlab (K : PySem.W.Frag) : Sp := fun vs H Q _ => ∃ (v1 v2 v3 : V) (b : Bx) (x y : Rat) (d : Bool), vs = [v1, v2, v3, .str (sd d)] ∧ BxV K H v1 b ∧ b.Ok 1500 ∧ PtV K H v2 x ∧ PtV K H v3 y ∧ Sz 23 x ∧ Sz 23 y ∧ ∀ v H', Same H H' → BxV K H' v (slab b x y d) → Q v H'
@[irreducible] def spSplit (K : PySem.W.Frag) : Sp := fun vs H Q _ => ∃ (v : V) (a : Addr) (b : Bx) (ws : List Int) (d : Bool), vs = [v, .ref a, .str (sd d)] ∧ BxV K H v b ∧ b.Ok 1500 ∧ IntsV K H a ws ∧ WOk ws ∧ ∀ L us H', H L = none → Same H H' → H' L = some (.lst us) → Bxs K H' us (cutM b ws d) → Q (.ref L) H'
/-! ### steps -/
section
variable {K : PySem.W.Frag} {H H' : Hp} {a : Addr} {ws : List Int}
theorem IntsV.same (h : IntsV K H a ws) (e : Same H H') : IntsV K H' a ws := by
  rcases h with h | h
  · exact .inl (seqL_same e h)
  · exact .inr (seqT_same e h)
theorem dp_ints (K : PySem.W.Frag) (H : Hp) : ∀ ws : List Int, DpAll K H (ws.map V.int) (ws.map PyData.int)
  | [] => .nil
  | x :: r => .cons (.int x) (dp_ints K H r)
/-- isinstance(weights, (list, tuple)) -/
theorem IntsV.isi {tp : Addr} {Q : VK} {vs : List V} (h : IntsV K H a ws) (hT : H tp = some (.tup [.ty "list", .ty "tuple"])) (q : Q (.bl true) H) (hvs : vs = [.ref a, .ref tp] := by rfl) : rIsiTI K vs H Q := by
  rcases h with h | h
  · exact isiT_step (t := "list") (n := "list") (m := "tuple") (b := true) (c := false) (.lst h (dp_ints K H ws)) rfl hT (by decide +kernel) (by decide +kernel) q hvs
  · exact isiT_step (t := "tuple") (n := "list") (m := "tuple") (b := false) (c := true) (.tup h (dp_ints K H ws)) rfl hT (by decide +kernel) (by decide +kernel) q hvs
variable {Q : VK} {E : XK} {vs : List V}
theorem checkw_step (h : IntsV K H a ws) (hw : WOk ws) (q : ∀ H', Same H H' → Q .non H') (hvs : vs = [.ref a] := by rfl) : spCheckW K vs H Q E := by
  unfold spCheckW
  exact ⟨a, ws, hvs, h, hw, fun r H' s e => by rw [e]; exact q H' s⟩
theorem checks_step {d : Bool} (q : ∀ H', Same H H' → Q .non H') (hvs : vs = [.str (sd d)] := by rfl) : spCheckS vs H Q E := by
  unfold spCheckS
  exact ⟨d, hvs, fun r H' s e => by rw [e]; exact q H' s⟩
theorem slab_step {v1 v2 v3 : V} {b : Bx} {x y : Rat} {d : Bool} (h1 : BxV K H v1 b) (hb : b.Ok 1500) (h2 : PtV K H v2 x) (h3 : PtV K H v3 y) (z2 : Sz 23 x) (z3 : Sz 23 y) (q : ∀ v H', Same H H' → BxV K H' v (slab b x y d) → Q v H') (hvs : vs = [v1, v2, v3, .str (sd d)] := by rfl) : spSlab K vs H Q E := by
  unfold spSlab
  exact ⟨v1, v2, v3, b, x, y, d, hvs, h1, hb, h2, h3, z2, z3, q⟩
theorem split_step {v : V} {b : Bx} {d : Bool} {n : Nat} (hv : BxV K H v b) (hb : b.Ok n) (hn : n ≤ 1500) (h : IntsV K H a ws) (hw : WOk ws) (q : ∀ L us H', H L = none → Same H H' → H' L = some (.lst us) → Bxs K H' us (cutM b ws d) → Q (.ref L) H') (hvs : vs = [v, .ref a, .str (sd d)] := by rfl) : spSplit K vs H Q E := by
  unfold spSplit
  exact ⟨v, a, b, ws, d, hvs, hv, hb.mono hn, h, hw, q⟩
theorem sd_eq (d : Bool) : decide (V.str (sd d) = V.str "down") = d := by
  cases d <;> decide +kernel
theorem cutM_succ {b : Bx} {ws : List Int} {d : Bool} {i : Nat} (hi : i < ws.length) : (cutM b ws d).take (i + 1) = (cutM b ws d).take i ++ [cutAt b ws d i] := by
  have h : (cutM b ws d)[i]? = some (cutAt b ws d i) := by
    unfold cutM
    rw [List.getElem?_map, List.getElem?_range hi]
    rfl
  rw [List.take_add_one, h]
  rfl
theorem cutM_len (b : Bx) (ws : List Int) (d : Bool) : (cutM b ws d).length = ws.length := by
  unfold cutM
  rw [List.length_map, List.length_range]
theorem take_sum {ws : List Int} {i : Nat} (hi : i < ws.length) : (ws.take (i + 1)).sum = (ws.take i).sum + ws.getD i 0 := by
  rw [List.take_add_one, List.getElem?_eq_getElem hi, List.sum_append, List.getD_eq_getElem?_getD, List.getElem?_eq_getElem hi]
  simp
end
section
variable {K : PySem.W.Frag} {H H' : Hp} {c : Addr} {ys : List V}
theorem BxV.kp {v : V} {b : Bx} (x : BxV K H v b) (e : Kp c H H') (h : H c = some (.lst ys)) : BxV K H' v b := by
  obtain ⟨a, v1, v2, v3, v4, rfl, x⟩ := x
  exact ⟨a, v1, v2, v3, v4, rfl, seqT_kp e h x.1, x.2.1.kp e h, x.2.2.1.kp e h, x.2.2.2.1.kp e h, x.2.2.2.2.kp e h⟩
theorem Bxs.kp (e : Kp c H H') (h : H c = some (.lst ys)) : ∀ {vs : List V} {bs : List Bx}, Bxs K H vs bs → Bxs K H' vs bs
  | _, _, .nil => .nil
  | _, _, .cons x r => .cons (x.kp e h) (r.kp e h)
theorem same_write {H3 G : Hp} {o : HO} (nF : H3 c = none) (s : Same H3 G) : Same H3 (upd G c o) := fun b u e => by
  rw [upd_ne (ne_of_none e nF)]
  exact s b u e
end
/-- a short list of ints may be written, were it the cells' own -/
theorem Bag.write {H : Hp} {c D : Addr} {zs : List Int} (hB : Bag H c) (hDc : D ≠ c) (hz : zs.length ≤ 63) : Bag (upd H D (.lst (zs.map V.int))) c := by
  obtain ⟨a, ns, p, r, x, q, h1, h2, h3, h4, h5, h6, h7⟩ := hB
  by_cases e : a = D
  · subst e
    exact ⟨a, zs, p, r, x, q, by rw [upd_ne hDc.symm]; exact h1, upd_same, h3, hz, h5, h6, h7⟩
  · exact ⟨a, ns, p, r, x, q, by rw [upd_ne hDc.symm]; exact h1, by rw [upd_ne e]; exact h2, h3, h4, h5, h6, h7⟩
@[irreducible] def spWeight : Sp := fun vs H Q _ => ∃ (c : Addr) (k : Int), vs = [.ref c, .int k] ∧ Bag H c ∧ ∀ r H', 1 ≤ r → r ≤ 400000 → Bag H' c → Kp c H H' → Q (.int r) H'
@[irreducible] def spWeights (K : PySem.W.Frag) : Sp := fun vs H Q _ => ∃ (c : Addr) (m : Int), vs = [.ref c, .int m] ∧ Bag H c ∧ 1 ≤ m ∧ m ≤ 12 ∧ ∀ L ws H', H L = none → H' L = some (.lst (ws.map V.int)) → WOk ws → Bag H' c → Kp c H H' → Q (.ref L) H'
@[irreducible] def spLean : Sp := fun vs H Q _ => ∃ c : Addr, vs = [.ref c] ∧ Bag H c ∧ ∀ d H', Bag H' c → Kp c H H' → Q (.str (sd d)) H'
theorem weight_step {H : Hp} {Q : VK} {E : XK} {vs : List V} {c : Addr} {k : Int} (hb : Bag H c) (q : ∀ r H', 1 ≤ r → r ≤ 400000 → Bag H' c → Kp c H H' → Q (.int r) H') (hvs : vs = [.ref c, .int k] := by rfl) : spWeight vs H Q E := by
  unfold spWeight
  exact ⟨c, k, hvs, hb, q⟩
theorem weights_step {K : PySem.W.Frag} {H : Hp} {Q : VK} {E : XK} {vs : List V} {c : Addr} {m : Int} (hb : Bag H c) (h0 : 1 ≤ m) (h1 : m ≤ 12) (q : ∀ L ws H', H L = none → H' L = some (.lst (ws.map V.int)) → WOk ws → Bag H' c → Kp c H H' → Q (.ref L) H') (hvs : vs = [.ref c, .int m] := by rfl) : spWeights K vs H Q E := by
  unfold spWeights
  exact ⟨c, m, hvs, hb, h0, h1, q⟩
theorem lean_step {H : Hp} {Q : VK} {E : XK} {vs : List V} {c : Addr} (hb : Bag H c) (q : ∀ d H', Bag H' c → Kp c H H' → Q (.str (sd d)) H') (hvs : vs = [.ref c] := by rfl) : spLean vs H Q E := by
  unfold spLean
  exact ⟨c, hvs, hb, q⟩
/-- constants of the module -/
theorem glob_int {K : PySem.W.Frag} {mg : Str → Option Value} {h : Heap} {x : Str} {i : Int} {t : Tok} (X : K.In h) (G : h.Ns mainGlobals mg) (e : PySem.W.nsIn K mainGlobals x = some (some (.int i t))) : ∃ t, mg x = some (.int i t) := ⟨t, PySem.W.mg_of X G e⟩
theorem glob_str {K : PySem.W.Frag} {mg : Str → Option Value} {h : Heap} {x z : Str} {t : Tok} (X : K.In h) (G : h.Ns mainGlobals mg) (e : PySem.W.nsIn K mainGlobals x = some (some (.str z t))) : ∃ t, mg x = some (.str z t) := ⟨t, PySem.W.mg_of X G e⟩
-- glob_val
theorem num_gt {q : Rat} (h : 0 < q) : 0 < q.num := by
  have e := (Rat.lt_iff 0 q).mp h
  have e1 : (0 : Rat).num = 0 := rfl
  have e2 : (0 : Rat).den = 1 := rfl
  rw [e1, e2] at e
  omega
/-- a pair of ints, not in lowest terms -/
def PrV (K : PySem.W.Frag) (H : Hp) (v : V) (q : Rat) : Prop := ∃ p a c, v = .ref p ∧ SqT K H p [.int a, .int c] ∧ 0 < c ∧ a.natAbs < 2 ^ 100 ∧ c.natAbs < 2 ^ 100 ∧ q = Rat.divInt a c
@[irreducible] def spTimesR (K : PySem.W.Frag) : Sp := fun vs H Q _ => ∃ (v w : V) (x y : Rat), vs = [v, w] ∧ PtV K H v x ∧ Sz 2000 x ∧ PrV K H w y ∧ ∀ u H', Same H H' → PtV K H' u (x * y) → Q u H'
theorem timesr_step {K : PySem.W.Frag} {H : Hp} {Q : VK} {E : XK} {vs : List V} {v w : V} {x y : Rat} {n : Nat} (hv : PtV K H v x) (zx : Sz n x) (hn : n ≤ 2000) (hw : PrV K H w y) (q : ∀ u H', Same H H' → PtV K H' u (x * y) → Q u H') (hvs : vs = [v, w] := by rfl) : spTimesR K vs H Q E := by
  unfold spTimesR
  exact ⟨v, w, x, y, hvs, hv, zx.mono hn, hw, q⟩
theorem PrV.bag {K : PySem.W.Frag} {H H' : Hp} {c : Addr} {v : V} {q : Rat} (x : PrV K H v q) (e : Kp c H H') (hb : Bag H c) : PrV K H' v q := by
  obtain ⟨ys, hy⟩ := hb.lst
  obtain ⟨p, a, c, rfl, h, r⟩ := x
  exact ⟨p, a, c, rfl, seqT_kp e hy h, r⟩
theorem PrV.same {K : PySem.W.Frag} {H H' : Hp} {v : V} {q : Rat} (x : PrV K H v q) (e : Same H H') : PrV K H' v q := by
  obtain ⟨p, a, c, rfl, h, r⟩ := x
  exact ⟨p, a, c, rfl, seqT_same e h, r⟩
theorem bxs_get {K : PySem.W.Frag} {H : Hp} : ∀ {vs : List V} {bs : List Bx}, Bxs K H vs bs → ∀ {i : Nat} {v : V}, vs[i]? = some v → ∃ b, bs[i]? = some b ∧ BxV K H v b
  | _, _, .nil, i, v, e => by simp at e
  | _, _, .cons (b := b) h r, 0, v, e => by
    cases e
    exact ⟨b, rfl, h⟩
  | _, _, .cons h r, i + 1, v, e => by
    rw [List.getElem?_cons_succ] at e
    obtain ⟨b, h1, h2⟩ := bxs_get r e
    exact ⟨b, by rw [List.getElem?_cons_succ]; exact h1, h2⟩
theorem cutM_get {b : Bx} {ws : List Int} {d : Bool} {i : Nat} {x : Bx} (h : (cutM b ws d)[i]? = some x) : i < ws.length ∧ x = cutAt b ws d i := by
  unfold cutM at h
  rw [List.getElem?_map] at h
  obtain ⟨j, h1, h2⟩ := Option.map_eq_some_iff.mp h
  have hj : i < (List.range ws.length).length := (List.getElem?_eq_some_iff.mp h1).1
  rw [List.length_range] at hj
  rw [List.getElem?_range hj] at h1
  cases h1
  exact ⟨hj, h2.symm⟩
/-! ### the parts of the whole -/
def pre (ws : List Int) (i : Nat) : Rat := Rat.divInt (ws.take i).sum ws.sum
def shr (ws : List Int) (i : Nat) : Rat := Rat.divInt (ws.getD i 0) ws.sum
theorem getD_ok {ws : List Int} (h : WOk ws) {i : Nat} (hi : i < ws.length) : 1 ≤ ws.getD i 0 ∧ ws.getD i 0 ≤ 400000 := by
  rw [List.getD_eq_getElem?_getD, List.getElem?_eq_getElem hi]
  exact h.w _ (List.getElem_mem hi)
theorem shr_pos {ws : List Int} (h : WOk ws) {i : Nat} (hi : i < ws.length) : 0 < shr ws i := divInt_pos (by have := getD_ok h hi; omega) h.sum.1
theorem pre_zero (ws : List Int) : pre ws 0 = 0 := by
  unfold pre
  rw [List.take_zero, List.sum_nil, Rat.zero_divInt]
theorem pre_len {ws : List Int} (h : WOk ws) : pre ws ws.length = 1 := by
  unfold pre
  rw [List.take_length, Rat.divInt_self' (by have := h.sum; omega)]
theorem dv_plus (a c T : Int) : Rat.divInt a T + Rat.divInt c T = Rat.divInt (a + c) T := by
  rw [Rat.divInt_eq_div, Rat.divInt_eq_div, Rat.divInt_eq_div, Rat.intCast_add, Rat.div_def, Rat.div_def, Rat.div_def, Rat.add_mul]
theorem pre_succ {ws : List Int} {i : Nat} (hi : i < ws.length) : pre ws (i + 1) = pre ws i + shr ws i := by
  unfold pre shr
  rw [dv_plus, take_sum hi]
theorem cutAt_eq (b : Bx) (ws : List Int) (d : Bool) (i : Nat) : cutAt b ws d i = slab b (pre ws i) (shr ws i) d := rfl
theorem shr_times {ws : List Int} (h : WOk ws) (i : Nat) : shr ws i * ((ws.sum : Int) : Rat) = ((ws.getD i 0 : Int) : Rat) := by
  unfold shr
  rw [Rat.divInt_eq_div, Rat.div_def, Rat.mul_assoc, Rat.inv_mul_cancel _ (by have := int_pos h.sum.1; grind), Rat.mul_one]
theorem slab_ok {b : Bx} {ws : List Int} {d : Bool} {i n : Nat} (hb : b.Ok n) (hW : WOk ws) (hi : i < ws.length) : (cutAt b ws d i).Ok (n + n + 24) := by
  have s0 := shr_pos hW hi
  have hg := getD_ok hW hi
  have z1 : Sz 23 (pre ws i) := sz_share (hW.take i) hW.sum
  have z2 : Sz 23 (shr ws i) := sz_share (by omega) hW.sum
  rw [cutAt_eq]
  unfold slab
  cases d with
  | true =>
    rw [if_pos rfl]
    exact ⟨hb.w0, Rat.mul_pos hb.h0 s0, hb.sl.mono (by omega), sz_add hb.st (sz_mul hb.sh z1 (Nat.le_refl _)) (by omega), hb.sw.mono (by omega), sz_mul hb.sh z2 (by omega)⟩
  | false =>
    rw [if_neg Bool.false_ne_true]
    exact ⟨Rat.mul_pos hb.w0 s0, hb.h0, sz_add hb.sl (sz_mul hb.sw z1 (Nat.le_refl _)) (by omega), hb.st.mono (by omega), sz_mul hb.sw z2 (by omega), hb.sh.mono (by omega)⟩
end Cc
namespace Cc
/-! ### one stretch of many holds a point -/
def inStretch (f : Nat → Rat) (y : Rat) (i : Nat) : Bool := !decide (y < f i) && decide (y < f (i + 1))
theorem count_none (f : Nat → Rat) (y : Rat) : ∀ n, (∀ i, i < n → f i ≤ f (i + 1)) → f n ≤ y → ((List.range n).map (inStretch f y)).count true = 0
  | 0, _, _ => rfl
  | n + 1, hm, h => by
    have h2 := hm n (Nat.lt_succ_self n)
    have ih := count_none f y n (fun i hi => hm i (Nat.lt_succ_of_lt hi)) (by grind)
    rw [List.range_succ, List.map_append, List.count_append, ih]
    have e : inStretch f y n = false := by
      unfold inStretch
      rw [decide_eq_false (show ¬ y < f (n + 1) by grind), Bool.and_false]
    rw [List.map_cons, List.map_nil, e]
    rfl
theorem count_one (f : Nat → Rat) (y : Rat) : ∀ n, (∀ i, i < n → f i ≤ f (i + 1)) → f 0 ≤ y → y < f n → ((List.range n).map (inStretch f y)).count true = 1
  | 0, _, h0, h1 => by grind
  | n + 1, hm, h0, h1 => by
    rw [List.range_succ, List.map_append, List.count_append, List.map_cons, List.map_nil]
    by_cases h : y < f n
    · have ih := count_one f y n (fun i hi => hm i (Nat.lt_succ_of_lt hi)) h0 h
      have e : inStretch f y n = false := by
        unfold inStretch
        rw [decide_eq_true h]
        rfl
      rw [ih, e]
      rfl
    · have ih := count_none f y n (fun i hi => hm i (Nat.lt_succ_of_lt hi)) (by grind)
      have e : inStretch f y n = true := by
        unfold inStretch
        rw [decide_eq_false h, decide_eq_true h1]
        rfl
      rw [ih, e]
      rfl
end Cc
namespace Cc
open PySem PySem.Spec PyProof.Rows L2
/-! ### weights of rows -/
theorem sum_nn : ∀ {ws : List Int}, (∀ x ∈ ws, 1 ≤ x) → (ws.length : Int) ≤ ws.sum
  | [], _ => by simp
  | x :: r, h => by
    have h1 := h x List.mem_cons_self
    have h2 := sum_nn fun y hy => h y (List.mem_cons_of_mem _ hy)
    rw [List.sum_cons, List.length_cons]
    omega
theorem mem_le_sum : ∀ {ws : List Int}, (∀ x ∈ ws, 1 ≤ x) → ∀ x ∈ ws, x ≤ ws.sum
  | [], _, x, hx => by cases hx
  | y :: r, h, x, hx => by
    have h2 := sum_nn (ws := r) fun z hz => h z (List.mem_cons_of_mem _ hz)
    have h3 := h y List.mem_cons_self
    rw [List.sum_cons]
    rcases List.mem_cons.mp hx with rfl | hx
    · omega
    · have := mem_le_sum (fun z hz => h z (List.mem_cons_of_mem _ hz)) x hx
      omega
structure WGk (ws : List Int) : Prop where
  l0 : 1 ≤ ws.length
  l1 : ws.length ≤ 12
  w : ∀ x ∈ ws, 1 ≤ x
  s : ws.sum ≤ 4800000
theorem WOk.g {ws : List Int} (h : WOk ws) : WGk ws := ⟨h.l0, h.l1, fun x hx => (h.w x hx).1, h.sum.2⟩
theorem WGk.sum {ws : List Int} (h : WGk ws) : 0 < ws.sum ∧ ws.sum ≤ 4800000 := by
  have h1 := sum_nn h.w
  have h2 := h.l0
  have h3 := h.s
  omega
theorem WGk.take {ws : List Int} (h : WGk ws) (i : Nat) : 0 ≤ (ws.take i).sum ∧ (ws.take i).sum ≤ 4800000 := by
  have h1 := sum_nn (ws := ws.take i) fun x hx => h.w x (List.mem_of_mem_take hx)
  have h2 := sum_nn (ws := ws.drop i) fun x hx => h.w x (List.mem_of_mem_drop hx)
  have h3 : ws.sum = (ws.take i).sum + (ws.drop i).sum := by rw [← List.sum_append, List.take_append_drop]
  have h4 := h.s
  omega
theorem WGk.mem {ws : List Int} (h : WGk ws) {x : Int} (hx : x ∈ ws) : 1 ≤ x ∧ x ≤ 4800000 := by
  have h1 := h.w x hx
  have h2 := mem_le_sum h.w x hx
  have h3 := h.s
  omega
theorem WGk.getD {ws : List Int} (h : WGk ws) {i : Nat} (hi : i < ws.length) : 1 ≤ ws.getD i 0 ∧ ws.getD i 0 ≤ 4800000 := by
  rw [List.getD_eq_getElem?_getD, List.getElem?_eq_getElem hi]
  exact h.mem (List.getElem_mem hi)
theorem WGk.shr {ws : List Int} (h : WGk ws) {i : Nat} (hi : i < ws.length) : 0 < shr ws i := divInt_pos (by have := h.getD hi; omega) h.sum.1
theorem slab_okG {b : Bx} {ws : List Int} {d : Bool} {i n : Nat} (hb : b.Ok n) (hW : WGk ws) (hi : i < ws.length) : (cutAt b ws d i).Ok (n + n + 24) := by
  have s0 := hW.shr hi
  have hg := hW.getD hi
  have z1 : Sz 23 (pre ws i) := sz_share (hW.take i) hW.sum
  have z2 : Sz 23 (shr ws i) := sz_share (by omega) hW.sum
  rw [cutAt_eq]
  unfold slab
  cases d with
  | true =>
    rw [if_pos rfl]
    exact ⟨hb.w0, Rat.mul_pos hb.h0 s0, hb.sl.mono (by omega), sz_add hb.st (sz_mul hb.sh z1 (Nat.le_refl _)) (by omega), hb.sw.mono (by omega), sz_mul hb.sh z2 (by omega)⟩
  | false =>
    rw [if_neg Bool.false_ne_true]
    exact ⟨Rat.mul_pos hb.w0 s0, hb.h0, sz_add hb.sl (sz_mul hb.sw z1 (Nat.le_refl _)) (by omega), hb.st.mono (by omega), sz_mul hb.sw z2 (by omega), hb.sh.mono (by omega)⟩
@[irreducible] def spShares (K : PySem.W.Frag) : Sp := fun vs H Q _ => ∃ (v : V) (a : Addr) (b : Bx) (ws : List Int) (d : Bool), vs = [v, .ref a, .str (sd d)] ∧ BxV K H v b ∧ b.Ok 1500 ∧ IntsV K H a ws ∧ WGk ws ∧ ∀ L us H', H L = none → Same H H' → H' L = some (.lst us) → Bxs K H' us (cutM b ws d) → Q (.ref L) H'
@[irreducible] def spCheckSp (K : PySem.W.Frag) : Sp := fun vs H Q _ => ∃ (v : V) (a : Addr) (b : Bx) (ws : List Int) (d : Bool), vs = [v, .ref a, .str (sd d)] ∧ BxV K H v b ∧ b.Ok 1900 ∧ IntsV K H a ws ∧ WOk ws ∧ ∀ r H', Same H H' → r = V.non → Q r H'
def isSd : PyData → Bool
  | .str x => decide (x = sd true) || decide (x = sd false)
  | _ => false
theorem isSd_sd (d : Bool) : isSd (.str (sd d)) = true := by cases d <;> decide +kernel
theorem isSd_str {s : PyData} (h : isSd s = true) : ∃ d, s = .str (sd d) := by
  cases s with
  | str x =>
    have h : (decide (x = sd true) || decide (x = sd false)) = true := h
    rw [Bool.or_eq_true, decide_eq_true_eq, decide_eq_true_eq] at h
    rcases h with h | h
    · exact ⟨true, by rw [h]⟩
    · exact ⟨false, by rw [h]⟩
  | none => exact Bool.noConfusion h
  | bool _ => exact Bool.noConfusion h
  | int _ => exact Bool.noConfusion h
  | list _ => exact Bool.noConfusion h
  | tuple _ => exact Bool.noConfusion h
  | dict _ => exact Bool.noConfusion h
@[irreducible] def spIsSide (K : PySem.W.Frag) : Sp := fun vs H Q _ => ∃ (v : V) (d : PyData), vs = [v] ∧ Dp K H v d ∧ ∀ r H', Same H H' → r = V.bl (isSd d) → Q r H'
section
variable {K : PySem.W.Frag} {H H' : Hp} {a : Addr} {ws : List Int} {Q : VK} {E : XK} {vs : List V}
theorem shares_step {v : V} {b : Bx} {d : Bool} {n : Nat} (hv : BxV K H v b) (hb : b.Ok n) (hn : n ≤ 1500) (h : IntsV K H a ws) (hw : WGk ws) (q : ∀ L us H', H L = none → Same H H' → H' L = some (.lst us) → Bxs K H' us (cutM b ws d) → Q (.ref L) H') (hvs : vs = [v, .ref a, .str (sd d)] := by rfl) : spShares K vs H Q E := by
  unfold spShares
  exact ⟨v, a, b, ws, d, hvs, hv, hb.mono hn, h, hw, q⟩
theorem checksp_step {v : V} {b : Bx} {d : Bool} {n : Nat} (hv : BxV K H v b) (hb : b.Ok n) (hn : n ≤ 1900) (h : IntsV K H a ws) (hw : WOk ws) (q : ∀ H', Same H H' → Q .non H') (hvs : vs = [v, .ref a, .str (sd d)] := by rfl) : spCheckSp K vs H Q E := by
  unfold spCheckSp
  exact ⟨v, a, b, ws, d, hvs, hv, hb.mono hn, h, hw, fun r H' s e => by rw [e]; exact q H' s⟩
theorem issideD_step {v : V} {d : PyData} (hv : Dp K H v d) (q : ∀ H', Same H H' → Q (.bl (isSd d)) H') (hvs : vs = [v] := by rfl) : spIsSide K vs H Q E := by
  unfold spIsSide
  exact ⟨v, d, hvs, hv, fun r H' s e => by rw [e]; exact q H' s⟩
theorem isside_step {d : Bool} (q : ∀ H', Same H H' → Q (.bl true) H') (hvs : vs = [.str (sd d)] := by rfl) : spIsSide K vs H Q E :=
  issideD_step (.str (sd d)) (fun H' s => by rw [isSd_sd]; exact q H' s) hvs
end
/-! ### rows of things that stand in a list -/
inductive Al {α : Type} (R : V → α → Prop) : List V → List α → Prop
  | nil : Al R [] []
  | cons {v : V} {vs : List V} {x : α} {xs : List α} : R v x → Al R vs xs → Al R (v :: vs) (x :: xs)
section
variable {α : Type} {R R' : V → α → Prop}
theorem Al.mono (h : ∀ v x, R v x → R' v x) : ∀ {vs : List V} {xs : List α}, Al R vs xs → Al R' vs xs
  | _, _, .nil => .nil
  | _, _, .cons a r => .cons (h _ _ a) (r.mono h)
theorem Al.snoc {v : V} {x : α} (hv : R v x) : ∀ {vs : List V} {xs : List α}, Al R vs xs → Al R (vs ++ [v]) (xs ++ [x])
  | _, _, .nil => .cons hv .nil
  | _, _, .cons a r => .cons a (r.snoc hv)
theorem Al.len : ∀ {vs : List V} {xs : List α}, Al R vs xs → vs.length = xs.length
  | _, _, .nil => rfl
  | _, _, .cons _ r => by rw [List.length_cons, List.length_cons, r.len]
theorem Al.get : ∀ {vs : List V} {xs : List α}, Al R vs xs → ∀ {i : Nat} {v : V}, vs[i]? = some v → ∃ x, xs[i]? = some x ∧ R v x
  | _, _, .nil, i, v, e => by simp at e
  | _, _, .cons (x := x) h r, 0, v, e => by
    cases e
    exact ⟨x, rfl, h⟩
  | _, _, .cons h r, i + 1, v, e => by
    rw [List.getElem?_cons_succ] at e
    obtain ⟨x, h1, h2⟩ := r.get e
    exact ⟨x, by rw [List.getElem?_cons_succ]; exact h1, h2⟩
end
theorem Bxs.append {K : PySem.W.Frag} {H : Hp} {us : List V} {cs : List Bx} (h : Bxs K H us cs) : ∀ {vs : List V} {bs : List Bx}, Bxs K H vs bs → Bxs K H (vs ++ us) (bs ++ cs)
  | _, _, .nil => h
  | _, _, .cons a r => .cons a (Bxs.append h r)
/-- a row: ints in a list or a tuple -/
def RwV (K : PySem.W.Frag) (H : Hp) (v : V) (row : List Int) : Prop := ∃ a, v = .ref a ∧ IntsV K H a row
theorem RwV.same {K : PySem.W.Frag} {H H' : Hp} (e : Same H H') {v : V} {row : List Int} (h : RwV K H v row) : RwV K H' v row := by
  obtain ⟨a, rfl, h⟩ := h
  exact ⟨a, rfl, h.same e⟩
theorem intsv_kp {K : PySem.W.Frag} {H H' : Hp} {c a : Addr} {ys : List V} {ws : List Int} (e : Kp c H H') (h : H c = some (.lst ys)) (hne : a ≠ c) (x : IntsV K H a ws) : IntsV K H' a ws := by
  rcases x with x | x
  · refine .inl ?_
    rcases x with (x | ⟨o, x⟩) | x
    · exact .inl (.inl (e _ _ x hne))
    · exact .inl (.inr ⟨o, e _ _ x hne⟩)
    · exact .inr x
  · exact .inr (seqT_kp e h x)
/-- a row that isn't the list at R -/
def RwN (K : PySem.W.Frag) (R : Addr) (H : Hp) (v : V) (row : List Int) : Prop := ∃ a, v = .ref a ∧ ((SqL K H a (row.map V.int) ∧ a ≠ R) ∨ SqT K H a (row.map V.int))
theorem RwN.same {K : PySem.W.Frag} {R : Addr} {H H' : Hp} (e : Same H H') {v : V} {row : List Int} (h : RwN K R H v row) : RwN K R H' v row := by
  obtain ⟨a, rfl, h⟩ := h
  exact ⟨a, rfl, h.imp (fun h => ⟨seqL_same e h.1, h.2⟩) (fun h => seqT_same e h)⟩
theorem RwN.rw {K : PySem.W.Frag} {R : Addr} {H : Hp} {v : V} {row : List Int} (h : RwN K R H v row) : RwV K H v row := by
  obtain ⟨a, rfl, h⟩ := h
  exact ⟨a, rfl, h.imp (fun h => h.1) (fun h => h)⟩
theorem RwN.kp {K : PySem.W.Frag} {R : Addr} {H H' : Hp} {ys : List V} (e : Kp R H H') (hc : H R = some (.lst ys)) {v : V} {row : List Int} (h : RwN K R H v row) : RwN K R H' v row := by
  obtain ⟨a, rfl, h⟩ := h
  refine ⟨a, rfl, ?_⟩
  rcases h with ⟨h, n⟩ | h
  · refine .inl ⟨?_, n⟩
    rcases h with (h | ⟨o, h⟩) | h
    · exact .inl (.inl (e _ _ h n))
    · exact .inl (.inr ⟨o, e _ _ h n⟩)
    · exact .inr h
  · exact .inr (seqT_kp e hc h)
/-- a pair of ints -/
def PiV (K : PySem.W.Frag) (H : Hp) (v : V) (x : Int × Int) : Prop := ∃ a, v = .ref a ∧ SqT K H a [.int x.1, .int x.2]
theorem PiV.same {K : PySem.W.Frag} {H H' : Hp} (e : Same H H') {v : V} {x : Int × Int} (h : PiV K H v x) : PiV K H' v x := by
  obtain ⟨a, rfl, h⟩ := h
  exact ⟨a, rfl, seqT_same e h⟩
theorem PiV.kp {K : PySem.W.Frag} {H H' : Hp} {c : Addr} {ys : List V} (e : Kp c H H') (hc : H c = some (.lst ys)) {v : V} {x : Int × Int} (h : PiV K H v x) : PiV K H' v x := by
  obtain ⟨a, rfl, h⟩ := h
  exact ⟨a, rfl, seqT_kp e hc h⟩
/-! ### sizes -/
structure SOk (ss : List Int) (n : Nat) : Prop where
  w : ∀ x ∈ ss, 1 ≤ x
  s : ss.sum = (n : Int)
theorem SOk.len {ss : List Int} {n : Nat} (h : SOk ss n) : ss.length ≤ n := by
  have h1 := sum_nn h.w
  have h2 := h.s
  omega
theorem SOk.ne {ss : List Int} {n : Nat} (h : SOk ss n) (hn : 1 ≤ n) : 1 ≤ ss.length := by
  have h2 := h.s
  cases ss with
  | nil => simp at h2; omega
  | cons x r => simp
def off (ss : List Int) (i : Nat) : Nat := (ss.take i).sum.toNat
def rowAt (ws ss : List Int) (i : Nat) : List Int := (ws.drop (off ss i)).take (ss.getD i 0).toNat
def rowsM (ws ss : List Int) : List (List Int) := (List.range ss.length).map (rowAt ws ss)
def sumsM (ws ss : List Int) : List Int := (rowsM ws ss).map List.sum
def endsM (ss : List Int) : List (Int × Int) := (List.range ss.length).map fun i => ((ss.take i).sum, (ss.take i).sum + ss.getD i 0)
theorem SOk.take {ss : List Int} {n : Nat} (h : SOk ss n) (i : Nat) : 0 ≤ (ss.take i).sum ∧ (ss.take i).sum ≤ (n : Int) := by
  have h1 := sum_nn (ws := ss.take i) fun x hx => h.w x (List.mem_of_mem_take hx)
  have h2 := sum_nn (ws := ss.drop i) fun x hx => h.w x (List.mem_of_mem_drop hx)
  have h3 : ss.sum = (ss.take i).sum + (ss.drop i).sum := by rw [← List.sum_append, List.take_append_drop]
  have h4 := h.s
  omega
theorem SOk.getD {ss : List Int} {n : Nat} (h : SOk ss n) {i : Nat} (hi : i < ss.length) : 1 ≤ ss.getD i 0 := by
  rw [List.getD_eq_getElem?_getD, List.getElem?_eq_getElem hi]
  exact h.w _ (List.getElem_mem hi)
theorem SOk.off_int {ss : List Int} {n : Nat} (h : SOk ss n) (i : Nat) : ((off ss i : Nat) : Int) = (ss.take i).sum := by
  have h1 := h.take i
  unfold off
  omega
theorem SOk.off_succ {ss : List Int} {n : Nat} (h : SOk ss n) {i : Nat} (hi : i < ss.length) : off ss (i + 1) = off ss i + (ss.getD i 0).toNat := by
  have h1 := h.take i
  have h2 := h.getD hi
  unfold off
  rw [take_sum hi]
  omega
theorem SOk.off_le {ss : List Int} {n : Nat} (h : SOk ss n) (i : Nat) : off ss i ≤ n := by
  have h1 := h.take i
  unfold off
  omega
theorem SOk.off_len {ss : List Int} {n : Nat} (h : SOk ss n) : off ss ss.length = n := by
  have h1 := h.s
  unfold off
  rw [List.take_length]
  omega
theorem SOk.size_le {ss : List Int} {n : Nat} (h : SOk ss n) {i : Nat} (hi : i < ss.length) : off ss i + (ss.getD i 0).toNat ≤ n := by
  rw [← h.off_succ hi]
  exact h.off_le _
section
variable {ws ss : List Int}
theorem row_len (h : SOk ss ws.length) {i : Nat} (hi : i < ss.length) : (rowAt ws ss i).length = (ss.getD i 0).toNat := by
  have := h.size_le hi
  unfold rowAt
  rw [List.length_take, List.length_drop]
  omega
theorem row_ok (hW : WOk ws) (h : SOk ss ws.length) {i : Nat} (hi : i < ss.length) : WOk (rowAt ws ss i) := by
  have h1 := h.size_le hi
  have h2 := h.getD hi
  have h3 := hW.l1
  refine ⟨by rw [row_len h hi]; omega, by rw [row_len h hi]; omega, fun x hx => hW.w x ?_⟩
  unfold rowAt at hx
  exact List.mem_of_mem_drop (List.mem_of_mem_take hx)
theorem row_take (h : SOk ss ws.length) {i : Nat} (hi : i < ss.length) : ws.take (off ss (i + 1)) = ws.take (off ss i) ++ rowAt ws ss i := by
  rw [h.off_succ hi, List.take_add]
  rfl
theorem sums_len : (sumsM ws ss).length = ss.length := by
  unfold sumsM rowsM
  rw [List.length_map, List.length_map, List.length_range]
theorem rows_len : (rowsM ws ss).length = ss.length := by
  unfold rowsM
  rw [List.length_map, List.length_range]
theorem rows_get {i : Nat} (hi : i < ss.length) : (rowsM ws ss)[i]? = some (rowAt ws ss i) := by
  unfold rowsM
  rw [List.getElem?_map, List.getElem?_range hi]
  rfl
theorem sums_get {i : Nat} (hi : i < ss.length) : (sumsM ws ss)[i]? = some (rowAt ws ss i).sum := by
  unfold sumsM
  rw [List.getElem?_map, rows_get hi]
  rfl
theorem sums_getD {i : Nat} (hi : i < ss.length) : (sumsM ws ss).getD i 0 = (rowAt ws ss i).sum := by
  rw [List.getD_eq_getElem?_getD, sums_get hi]
  rfl
theorem sums_take (h : SOk ss ws.length) : ∀ i, i ≤ ss.length → ((sumsM ws ss).take i).sum = (ws.take (off ss i)).sum
  | 0, _ => by simp [off]
  | i + 1, hi => by
    have ih := sums_take h i (by omega)
    rw [take_sum (by rw [sums_len]; omega), ih, sums_getD (by omega), row_take h (by omega), List.sum_append]
theorem sums_sum (h : SOk ss ws.length) : (sumsM ws ss).sum = ws.sum := by
  have e := sums_take h ss.length (Nat.le_refl _)
  rw [h.off_len, List.take_length] at e
  rw [← e, List.take_of_length_le (by rw [sums_len]; exact Nat.le_refl _)]
theorem sums_ok (hW : WOk ws) (h : SOk ss ws.length) : WGk (sumsM ws ss) := by
  have h0 := hW.l0
  have h1 := hW.l1
  refine ⟨by rw [sums_len]; exact h.ne h0, by rw [sums_len]; have := h.len; omega, fun x hx => ?_, by rw [sums_sum h]; exact hW.sum.2⟩
  obtain ⟨row, hr, rfl⟩ := List.mem_map.mp hx
  obtain ⟨i, hi, rfl⟩ := List.mem_map.mp hr
  have := (row_ok hW h (List.mem_range.mp hi)).sum
  omega
theorem cut_row (h : SOk ss ws.length) {i : Nat} (hi : i < ss.length) : cutV (ws.map V.int) (some (ss.take i).sum) (some ((ss.take i).sum + ss.getD i 0)) = (rowAt ws ss i).map V.int := by
  have h1 := h.size_le hi
  have h2 := h.getD hi
  have e1 := h.off_int i
  have e2 : (ss.take i).sum + ss.getD i 0 = ((off ss i + (ss.getD i 0).toNat : Nat) : Int) := by omega
  unfold cutV rowAt
  rw [e2, ← e1, List.length_map, HT.sIx_nat, HT.sIx_nat, Nat.min_eq_left (by omega), Nat.min_eq_left (by omega), Nat.add_sub_cancel_left, List.map_take, List.map_drop]
theorem ends_len : (endsM ss).length = ss.length := by
  unfold endsM
  rw [List.length_map, List.length_range]
theorem ends_get {i : Nat} {x : Int × Int} (h : (endsM ss)[i]? = some x) : i < ss.length ∧ x = ((ss.take i).sum, (ss.take i).sum + ss.getD i 0) := by
  have hi := (List.getElem?_eq_some_iff.mp h).1
  rw [ends_len] at hi
  unfold endsM at h
  rw [List.getElem?_map, List.getElem?_range hi] at h
  exact ⟨hi, (Option.some.inj h).symm⟩
theorem rows_get' {i : Nat} {x : List Int} (h : (rowsM ws ss)[i]? = some x) : i < ss.length ∧ x = rowAt ws ss i := by
  have hi := (List.getElem?_eq_some_iff.mp h).1
  rw [rows_len] at hi
  rw [rows_get hi] at h
  exact ⟨hi, (Option.some.inj h).symm⟩
/-- the boxes of the i-th row -/
def laidAt (b : Bx) (ws ss : List Int) (d : Bool) (i : Nat) : List Bx := cutM (cutAt b (sumsM ws ss) d i) (rowAt ws ss i) (!d)
def laidTo (b : Bx) (ws ss : List Int) (d : Bool) (i : Nat) : List Bx := ((List.range i).map (laidAt b ws ss d)).flatten
def laidM (b : Bx) (ws ss : List Int) (d : Bool) : List Bx := laidTo b ws ss d ss.length
theorem laidTo_succ (b : Bx) (ws ss : List Int) (d : Bool) (i : Nat) : laidTo b ws ss d (i + 1) = laidTo b ws ss d i ++ laidAt b ws ss d i := by
  unfold laidTo
  rw [List.range_succ, List.map_append, List.flatten_append, List.map_cons, List.map_nil, List.flatten_cons, List.flatten_nil, List.append_nil]
theorem laidTo_len (b : Bx) (d : Bool) (h : SOk ss ws.length) : ∀ i, i ≤ ss.length → (laidTo b ws ss d i).length = off ss i
  | 0, _ => by simp [off, laidTo]
  | i + 1, hi => by
    rw [laidTo_succ, List.length_append, laidTo_len b d h i (by omega), h.off_succ (by omega)]
    unfold laidAt
    rw [cutM_len, row_len h (by omega)]
theorem laidM_len (b : Bx) (d : Bool) (h : SOk ss ws.length) : (laidM b ws ss d).length = ws.length := by
  unfold laidM
  rw [laidTo_len b d h _ (Nat.le_refl _), h.off_len]
end
/-! ### rules that speak of the one frame, in a block too -/
section
variable {X : Cx} {K : PySem.W.Frag}
theorem kk_call {v : Value} {r : PySem.W.Frag → List V → Hp → VK → Prop} (hK : X.K = K) (h : CallR X v (r X.K)) : CallR X v (r K) := hK ▸ h
theorem kk_ix {r : PySem.W.Frag → R2} (hK : X.K = K) (h : IxR X (r X.K)) : IxR X (r K) := hK ▸ h
theorem kk_sl {r : PySem.W.Frag → V → Option Int → Option Int → Hp → VK → Prop} (hK : X.K = K) (h : SlR X (r X.K)) : SlR X (r K) := hK ▸ h
theorem kk_op {v : Value → Value → Sem Value} {r : PySem.W.Frag → R2} (hK : X.K = K) (h : OpR X v (r X.K)) : OpR X v (r K) := hK ▸ h
end
/-! ### promises -/
@[irreducible] def spRowEnds (K : PySem.W.Frag) : Sp := fun vs H Q _ => ∃ (a : Addr) (ss : List Int) (n : Nat), vs = [.ref a] ∧ SqT K H a (ss.map V.int) ∧ SOk ss n ∧ n ≤ 12 ∧ ∀ L us H', H L = none → Same H H' → H' L = some (.lst us) → Al (PiV K H') us (endsM ss) → Q (.ref L) H'
@[irreducible] def spCheckSz (K : PySem.W.Frag) : Sp := fun vs H Q _ => ∃ (a : Addr) (ss : List Int) (n : Nat), vs = [.ref a, .int n] ∧ SqT K H a (ss.map V.int) ∧ SOk ss n ∧ n ≤ 12 ∧ ∀ r H', Same H H' → r = V.non → Q r H'
@[irreducible] def spLaid (K : PySem.W.Frag) : Sp := fun vs H Q _ => ∃ (v : V) (a t : Addr) (b : Bx) (ws ss : List Int) (d : Bool), vs = [v, .ref a, .ref t, .str (sd d)] ∧ BxV K H v b ∧ b.Ok 500 ∧ IntsV K H a ws ∧ WOk ws ∧ SqT K H t (ss.map V.int) ∧ SOk ss ws.length ∧ ∀ L us H', H L = none → Same H H' → H' L = some (.lst us) → Bxs K H' us (laidM b ws ss d) → Q (.ref L) H'
@[irreducible] def spLSizes (K : PySem.W.Frag) : Sp := fun vs H Q _ => ∃ (c : Addr) (n : Nat), vs = [.ref c, .int n] ∧ Bag H c ∧ 1 ≤ n ∧ n ≤ 12 ∧ ∀ t ss H', H' t = some (.tup (ss.map V.int)) → SOk ss n → Bag H' c → Kp c H H' → Q (.ref t) H'
@[irreducible] def spTurned : Sp := fun vs H Q _ => ∃ d : Bool, vs = [.str (sd d)] ∧ ∀ r, r = V.str (sd (!d)) → Q r H
@[irreducible] def spParted (K : PySem.W.Frag) : Sp := fun vs H Q _ => ∃ (a t : Addr) (ws ss : List Int), vs = [.ref a, .ref t] ∧ SqL K H a (ws.map V.int) ∧ IntsV K H t ss ∧ SOk ss ws.length ∧ ws.length ≤ 12 ∧ ∀ L us H', H L = none → Same H H' → H' L = some (.lst us) → Al (RwV K H') us (rowsM ws ss) → Q (.ref L) H'
@[irreducible] def spLLaid (K : PySem.W.Frag) : Sp := fun vs H Q _ => ∃ (v : V) (a t : Addr) (b : Bx) (ws ss : List Int) (d : Bool), vs = [v, .ref a, .ref t, .str (sd d)] ∧ BxV K H v b ∧ b.Ok 500 ∧ SqL K H a (ws.map V.int) ∧ WOk ws ∧ IntsV K H t ss ∧ SOk ss ws.length ∧ ∀ L us H', H L = none → Same H H' → H' L = some (.lst us) → Bxs K H' us (laidM b ws ss d) → Q (.ref L) H'
section
variable {K : PySem.W.Frag} {H H' : Hp} {a t : Addr} {ws ss : List Int} {Q : VK} {E : XK} {vs : List V}
theorem rowends_step {n : Nat} (h : SqT K H a (ss.map V.int)) (hs : SOk ss n) (hn : n ≤ 12) (q : ∀ L us H', H L = none → Same H H' → H' L = some (.lst us) → Al (PiV K H') us (endsM ss) → Q (.ref L) H') (hvs : vs = [.ref a] := by rfl) : spRowEnds K vs H Q E := by
  unfold spRowEnds
  exact ⟨a, ss, n, hvs, h, hs, hn, q⟩
theorem checksz_step {n : Nat} (h : SqT K H a (ss.map V.int)) (hs : SOk ss n) (hn : n ≤ 12) (q : ∀ H', Same H H' → Q .non H') (hvs : vs = [.ref a, .int n] := by rfl) : spCheckSz K vs H Q E := by
  unfold spCheckSz
  exact ⟨a, ss, n, hvs, h, hs, hn, fun r H' s e => by rw [e]; exact q H' s⟩
theorem laid_step {v : V} {b : Bx} {d : Bool} {n : Nat} (hv : BxV K H v b) (hb : b.Ok n) (hn : n ≤ 500) (h : IntsV K H a ws) (hw : WOk ws) (ht : SqT K H t (ss.map V.int)) (hs : SOk ss ws.length) (q : ∀ L us H', H L = none → Same H H' → H' L = some (.lst us) → Bxs K H' us (laidM b ws ss d) → Q (.ref L) H') (hvs : vs = [v, .ref a, .ref t, .str (sd d)] := by rfl) : spLaid K vs H Q E := by
  unfold spLaid
  exact ⟨v, a, t, b, ws, ss, d, hvs, hv, hb.mono hn, h, hw, ht, hs, q⟩
theorem lsizes_step {c : Addr} {n : Nat} (hb : Bag H c) (h0 : 1 ≤ n) (h1 : n ≤ 12) (q : ∀ t ss H', H' t = some (.tup (ss.map V.int)) → SOk ss n → Bag H' c → Kp c H H' → Q (.ref t) H') (hvs : vs = [.ref c, .int n] := by rfl) : spLSizes K vs H Q E := by
  unfold spLSizes
  exact ⟨c, n, hvs, hb, h0, h1, q⟩
theorem turned_step {d : Bool} (q : Q (.str (sd (!d))) H) (hvs : vs = [.str (sd d)] := by rfl) : spTurned vs H Q E := by
  unfold spTurned
  exact ⟨d, hvs, fun r e => by rw [e]; exact q⟩
theorem parted_step (h : SqL K H a (ws.map V.int)) (ht : IntsV K H t ss) (hs : SOk ss ws.length) (hl : ws.length ≤ 12) (q : ∀ L us H', H L = none → Same H H' → H' L = some (.lst us) → Al (RwV K H') us (rowsM ws ss) → Q (.ref L) H') (hvs : vs = [.ref a, .ref t] := by rfl) : spParted K vs H Q E := by
  unfold spParted
  exact ⟨a, t, ws, ss, hvs, h, ht, hs, hl, q⟩
theorem llaid_step {v : V} {b : Bx} {d : Bool} {n : Nat} (hv : BxV K H v b) (hb : b.Ok n) (hn : n ≤ 500) (h : SqL K H a (ws.map V.int)) (hw : WOk ws) (ht : IntsV K H t ss) (hs : SOk ss ws.length) (q : ∀ L us H', H L = none → Same H H' → H' L = some (.lst us) → Bxs K H' us (laidM b ws ss d) → Q (.ref L) H') (hvs : vs = [v, .ref a, .ref t, .str (sd d)] := by rfl) : spLLaid K vs H Q E := by
  unfold spLLaid
  exact ⟨v, a, t, b, ws, ss, d, hvs, hv, hb.mono hn, h, hw, ht, hs, q⟩
end
end Cc
namespace Cc
open PySem PySem.Spec PyProof.Rows L2
/-! ### the boxes of a cut, and of rows: mathematics -/
theorem divInt_01 {a c : Int} (h0 : 0 ≤ a) (h1 : a ≤ c) (hc : 0 < c) : 0 ≤ Rat.divInt a c ∧ Rat.divInt a c ≤ 1 := by
  have e : Rat.divInt a c * (c : Rat) = (a : Rat) := by
    rw [Rat.divInt_eq_div, Rat.div_def, Rat.mul_assoc, Rat.inv_mul_cancel _ (by have := int_pos hc; grind), Rat.mul_one]
  have c0 := int_pos hc
  have a0 : (0 : Rat) ≤ (a : Rat) := Rat.intCast_nonneg.mpr h0
  have a1 : (a : Rat) ≤ (c : Rat) := Rat.intCast_le_intCast.mpr h1
  constructor
  · by_cases z : 0 ≤ Rat.divInt a c
    · exact z
    · have := Rat.mul_lt_mul_of_pos_right (show Rat.divInt a c < 0 by grind) c0
      grind
  · by_cases z : Rat.divInt a c ≤ 1
    · exact z
    · have := Rat.mul_lt_mul_of_pos_right (show 1 < Rat.divInt a c by grind) c0
      grind
theorem pre_01 {ws : List Int} (h : WGk ws) (i : Nat) : 0 ≤ pre ws i ∧ pre ws i ≤ 1 := by
  have h1 := sum_nn (ws := ws.drop i) fun x hx => h.w x (List.mem_of_mem_drop hx)
  have h3 : ws.sum = (ws.take i).sum + (ws.drop i).sum := by rw [← List.sum_append, List.take_append_drop]
  exact divInt_01 (h.take i).1 (by omega) h.sum.1
theorem pre_lenG {ws : List Int} (h : WGk ws) : pre ws ws.length = 1 := by
  unfold pre
  rw [List.take_length, Rat.divInt_self' (by have := h.sum; omega)]
theorem lies_iff {b : Bx} {x y : Rat} : lies b x y = true ↔ (¬ x < b.l ∧ x < b.l + b.w) ∧ (¬ y < b.t ∧ y < b.t + b.h) := by
  unfold lies
  simp only [Bool.and_eq_true, Bool.not_eq_true', decide_eq_true_eq, decide_eq_false_iff_not]
/-- what lies in a box of a cut lies in the box -/
theorem lies_sub {b : Bx} {ws : List Int} {d : Bool} {i n : Nat} {x y : Rat} (hb : b.Ok n) (h : WGk ws) (hi : i < ws.length) (hl : lies (cutAt b ws d i) x y = true) : lies b x y = true := by
  have p0 := (pre_01 h i).1
  have p1 := (pre_01 h (i + 1)).2
  rw [pre_succ hi] at p1
  rw [lies_iff] at hl ⊢
  rw [cutAt_eq] at hl
  unfold slab at hl
  cases d with
  | true =>
    rw [if_pos rfl] at hl
    have m0 := Rat.mul_nonneg (Rat.le_of_lt hb.h0) p0
    have m1 := Rat.mul_nonneg (Rat.le_of_lt hb.h0) (show 0 ≤ 1 - (pre ws i + shr ws i) by grind)
    obtain ⟨h1, h2, h3⟩ := hl
    refine ⟨h1, ?_, ?_⟩
    · have : b.t + b.h * pre ws i ≤ y := by
        have := h2
        grind
      grind
    · have h4 : y < b.t + b.h * pre ws i + b.h * shr ws i := h3
      grind
  | false =>
    rw [if_neg Bool.false_ne_true] at hl
    have m0 := Rat.mul_nonneg (Rat.le_of_lt hb.w0) p0
    have m1 := Rat.mul_nonneg (Rat.le_of_lt hb.w0) (show 0 ≤ 1 - (pre ws i + shr ws i) by grind)
    obtain ⟨⟨h2, h3⟩, h1⟩ := hl
    refine ⟨⟨?_, ?_⟩, h1⟩
    · have : b.l + b.w * pre ws i ≤ x := by
        have := h2
        grind
      grind
    · have h4 : x < b.l + b.w * pre ws i + b.w * shr ws i := h3
      grind
def edgeG (b : Bx) (ws : List Int) (d : Bool) (i : Nat) : Rat := if d then b.t + b.h * pre ws i else b.l + b.w * pre ws i
theorem edgeG_succ {b : Bx} {ws : List Int} (d : Bool) {i : Nat} (hi : i < ws.length) : edgeG b ws d (i + 1) = edgeG b ws d i + (if d then b.h else b.w) * shr ws i := by
  unfold edgeG
  rw [pre_succ hi]
  cases d with
  | true =>
    rw [if_pos rfl, if_pos rfl, if_pos rfl]
    grind
  | false =>
    rw [if_neg Bool.false_ne_true, if_neg Bool.false_ne_true, if_neg Bool.false_ne_true]
    grind
theorem edgeG_mono {b : Bx} {ws : List Int} {n : Nat} (hb : b.Ok n) (h : WGk ws) (d : Bool) {i : Nat} (hi : i < ws.length) : edgeG b ws d i ≤ edgeG b ws d (i + 1) := by
  rw [edgeG_succ d hi]
  have e1 := h.shr hi
  cases d with
  | true =>
    rw [if_pos rfl]
    have := Rat.mul_pos hb.h0 e1
    grind
  | false =>
    rw [if_neg Bool.false_ne_true]
    have := Rat.mul_pos hb.w0 e1
    grind
theorem lies_cutG {b : Bx} {ws : List Int} (d : Bool) {i : Nat} (hi : i < ws.length) {x y : Rat} (hl : lies b x y = true) :
    lies (cutAt b ws d i) x y = inStretch (edgeG b ws d) (if d then y else x) i := by
  have e := edgeG_succ (b := b) d hi
  obtain ⟨⟨x0, x1⟩, y0, y1⟩ := lies_iff.mp hl
  rw [cutAt_eq]
  unfold lies inStretch
  rw [e]
  unfold edgeG slab
  cases d with
  | true =>
    rw [if_pos rfl, if_pos rfl, if_pos rfl, if_pos rfl]
    rw [decide_eq_false x0, decide_eq_true x1]
    rfl
  | false =>
    rw [if_neg Bool.false_ne_true, if_neg Bool.false_ne_true, if_neg Bool.false_ne_true, if_neg Bool.false_ne_true]
    rw [decide_eq_false y0, decide_eq_true y1]
    simp
theorem count_liesG {b : Bx} {ws : List Int} {n : Nat} (hb : b.Ok n) (h : WGk ws) (d : Bool) {x y : Rat} (hl : lies b x y = true) :
    ((List.range ws.length).map fun i => lies (cutAt b ws d i) x y).count true = 1 := by
  have e : ((List.range ws.length).map fun i => lies (cutAt b ws d i) x y) = (List.range ws.length).map (inStretch (edgeG b ws d) (if d then y else x)) :=
    List.map_congr_left fun i hi => lies_cutG d (List.mem_range.mp hi) hl
  obtain ⟨⟨x0, x1⟩, y0, y1⟩ := lies_iff.mp hl
  rw [e]
  refine count_one _ _ _ (fun i hi => edgeG_mono hb h d hi) ?_ ?_
  · unfold edgeG
    rw [pre_zero]
    cases d with
    | true => rw [if_pos rfl, if_pos rfl]; grind
    | false => rw [if_neg Bool.false_ne_true, if_neg Bool.false_ne_true]; grind
  · unfold edgeG
    rw [pre_lenG h]
    cases d with
    | true => rw [if_pos rfl, if_pos rfl]; grind
    | false => rw [if_neg Bool.false_ne_true, if_neg Bool.false_ne_true]; grind
theorem count_zero {α : Type} {f : α → Bool} : ∀ {xs : List α}, (∀ x ∈ xs, f x = false) → (xs.map f).count true = 0
  | [], _ => rfl
  | x :: r, h => by
    rw [List.map_cons, List.count_cons, h x List.mem_cons_self, count_zero fun y hy => h y (List.mem_cons_of_mem _ hy)]
    rfl
section
variable {b : Bx} {ws ss : List Int} {d : Bool} {n : Nat}
theorem count_laidTo (hb : b.Ok n) (hW : WOk ws) (hS : SOk ss ws.length) (x y : Rat) : ∀ j, j ≤ ss.length → ((laidTo b ws ss d j).map fun c => lies c x y).count true = ((List.range j).map fun i => lies (cutAt b (sumsM ws ss) d i) x y).count true
  | 0, _ => rfl
  | j + 1, hj => by
    have hG := sums_ok hW hS
    have hjl : j < (sumsM ws ss).length := by rw [sums_len]; omega
    have hc := slab_okG (d := d) hb hG hjl
    have hr := (row_ok hW hS (i := j) (by omega)).g
    rw [laidTo_succ, List.map_append, List.count_append, count_laidTo hb hW hS x y j (by omega), List.range_succ, List.map_append, List.count_append]
    congr 1
    rw [List.map_cons, List.map_nil]
    unfold laidAt cutM
    rw [List.map_map]
    by_cases hl : lies (cutAt b (sumsM ws ss) d j) x y = true
    · rw [hl]
      exact count_liesG hc hr (!d) hl
    · have e : lies (cutAt b (sumsM ws ss) d j) x y = false := by
        cases z : lies (cutAt b (sumsM ws ss) d j) x y with
        | true => exact absurd z hl
        | false => rfl
      rw [e]
      refine count_zero fun k hk => ?_
      show lies (cutAt (cutAt b (sumsM ws ss) d j) (rowAt ws ss j) (!d) k) x y = false
      cases z : lies (cutAt (cutAt b (sumsM ws ss) d j) (rowAt ws ss j) (!d) k) x y with
      | true => exact absurd (lies_sub hc hr (List.mem_range.mp hk) z) hl
      | false => rfl
/-- each point of the box lies in just one of the laid boxes -/
theorem count_laid (hb : b.Ok n) (hW : WOk ws) (hS : SOk ss ws.length) {x y : Rat} (hl : lies b x y = true) : ((laidM b ws ss d).map fun c => lies c x y).count true = 1 := by
  have e := count_liesG hb (sums_ok hW hS) d hl
  rw [sums_len] at e
  rw [← e]
  exact count_laidTo hb hW hS x y _ (Nat.le_refl _)
theorem laid_mem {c : Bx} (hS : SOk ss ws.length) (h : c ∈ laidM b ws ss d) : ∃ j k, j < ss.length ∧ k < (rowAt ws ss j).length ∧ c = cutAt (cutAt b (sumsM ws ss) d j) (rowAt ws ss j) (!d) k := by
  unfold laidM laidTo at h
  obtain ⟨l, hl, hc⟩ := List.mem_flatten.mp h
  obtain ⟨j, hj, rfl⟩ := List.mem_map.mp hl
  unfold laidAt cutM at hc
  obtain ⟨k, hk, rfl⟩ := List.mem_map.mp hc
  exact ⟨j, k, List.mem_range.mp hj, List.mem_range.mp hk, rfl⟩
theorem laid_ok {c : Bx} (hb : b.Ok n) (hW : WOk ws) (hS : SOk ss ws.length) (h : c ∈ laidM b ws ss d) : c.Ok (4 * n + 72) := by
  obtain ⟨j, k, hj, hk, rfl⟩ := laid_mem hS h
  exact (slab_okG (slab_okG hb (sums_ok hW hS) (by rw [sums_len]; exact hj)) (row_ok hW hS hj).g hk).mono (by omega)
theorem laid_in {c : Bx} (hb : b.Ok n) (hW : WOk ws) (hS : SOk ss ws.length) (h : c ∈ laidM b ws ss d) : lies b c.l c.t = true := by
  have ho := laid_ok hb hW hS h
  obtain ⟨j, k, hj, hk, rfl⟩ := laid_mem hS h
  have hG := sums_ok hW hS
  have hjl : j < (sumsM ws ss).length := by rw [sums_len]; omega
  refine lies_sub (d := d) hb hG hjl (lies_sub (d := !d) (slab_okG (d := d) hb hG hjl) (row_ok hW hS hj).g hk (lies_iff.mpr ?_))
  have h0 := ho.w0
  have h1 := ho.h0
  exact ⟨⟨by grind, by grind⟩, by grind, by grind⟩
theorem cut_area (b : Bx) (ws : List Int) (d : Bool) (i : Nat) : (cutAt b ws d i).w * (cutAt b ws d i).h = b.w * b.h * shr ws i := by
  rw [cutAt_eq]
  unfold slab
  cases d with
  | true =>
    rw [if_pos rfl]
    show b.w * (b.h * shr ws i) = b.w * b.h * shr ws i
    grind
  | false =>
    rw [if_neg Bool.false_ne_true]
    show (b.w * shr ws i) * b.h = b.w * b.h * shr ws i
    grind
theorem row_getD (hS : SOk ss ws.length) {j k : Nat} (hj : j < ss.length) (hk : k < (rowAt ws ss j).length) : (rowAt ws ss j).getD k 0 = ws.getD (off ss j + k) 0 := by
  rw [row_len hS hj] at hk
  unfold rowAt
  generalize ss.getD j 0 = z at *
  rw [List.getD_eq_getElem?_getD, List.getD_eq_getElem?_getD, List.getElem?_take_of_lt hk, List.getElem?_drop]
theorem dv_chain {R T w : Int} (hR : R ≠ 0) : Rat.divInt R T * Rat.divInt w R = Rat.divInt w T := by
  rw [Rat.divInt_eq_div, Rat.divInt_eq_div, Rat.divInt_eq_div, Rat.div_def, Rat.div_def, Rat.div_def]
  have e := Rat.mul_inv_cancel (R : Rat) (fun z => hR (Rat.intCast_eq_zero_iff.mp z))
  grind
theorem shr_row (hW : WOk ws) (hS : SOk ss ws.length) {j k : Nat} (hj : j < ss.length) (hk : k < (rowAt ws ss j).length) : shr (sumsM ws ss) j * shr (rowAt ws ss j) k = shr ws (off ss j + k) := by
  unfold shr
  rw [sums_getD hj, sums_sum hS, row_getD hS hj hk]
  exact dv_chain (by have := (row_ok hW hS hj).sum; omega)
theorem laid_areas (hW : WOk ws) (hS : SOk ss ws.length) : ∀ j, j ≤ ss.length → (laidTo b ws ss d j).map (fun c => c.w * c.h) = (List.range (off ss j)).map fun i => b.w * b.h * shr ws i
  | 0, _ => by simp [laidTo, off]
  | j + 1, hj => by
    rw [laidTo_succ, List.map_append, laid_areas hW hS j (by omega), hS.off_succ (by omega), List.range_add, List.map_append]
    congr 1
    unfold laidAt cutM
    rw [List.map_map, List.map_map, row_len hS (by omega)]
    refine List.map_congr_left fun k hk => ?_
    have hk2 : k < (rowAt ws ss j).length := by
      rw [row_len hS (by omega)]
      exact List.mem_range.mp hk
    show (cutAt (cutAt b (sumsM ws ss) d j) (rowAt ws ss j) (!d) k).w * (cutAt (cutAt b (sumsM ws ss) d j) (rowAt ws ss j) (!d) k).h = b.w * b.h * shr ws (off ss j + k)
    rw [cut_area, cut_area, ← shr_row hW hS (by omega) hk2]
    grind
theorem laid_area {i : Nat} {c : Bx} (hW : WOk ws) (hS : SOk ss ws.length) (h : (laidM b ws ss d)[i]? = some c) : i < ws.length ∧ c.w * c.h = b.w * b.h * shr ws i := by
  have e := laid_areas (b := b) (d := d) hW hS ss.length (Nat.le_refl _)
  have hi := (List.getElem?_eq_some_iff.mp h).1
  rw [laidM_len b d hS] at hi
  rw [hS.off_len] at e
  have e2 := congrArg (fun l => l[i]?) e
  simp only [List.getElem?_map, List.getElem?_range hi] at e2
  have h' : (laidTo b ws ss d ss.length)[i]? = some c := h
  rw [h'] at e2
  exact ⟨hi, Option.some.inj e2⟩
theorem shr_timesG (h : WGk ws) (i : Nat) : shr ws i * ((ws.sum : Int) : Rat) = ((ws.getD i 0 : Int) : Rat) := by
  unfold shr
  rw [Rat.divInt_eq_div, Rat.div_def, Rat.mul_assoc, Rat.inv_mul_cancel _ (by have := int_pos h.sum.1; grind), Rat.mul_one]
theorem sz_shr (h : WOk ws) {i : Nat} (hi : i < ws.length) : Sz 23 (shr ws i) := sz_share (by have := getD_ok h hi; omega) h.sum
theorem sz_pre (h : WOk ws) (i : Nat) : Sz 23 (pre ws i) := sz_share (h.take i) h.sum
end
theorem point_inM {l w : Rat} {r m : Int} (hw : 0 < w) (h0 : 0 ≤ r) (h1 : r < m) : ¬ l + w * Rat.divInt r m < l ∧ l + w * Rat.divInt r m < l + w := by
  have m0 := int_pos (show (0 : Int) < m by omega)
  have e : Rat.divInt r m * (m : Rat) = (r : Rat) := by
    rw [Rat.divInt_eq_div, Rat.div_def, Rat.mul_assoc, Rat.inv_mul_cancel _ (by grind), Rat.mul_one]
  have r1 : (r : Rat) < ((m : Int) : Rat) := Rat.intCast_lt_intCast.mpr h1
  have s0 := (divInt_01 h0 (Int.le_of_lt h1) (by omega)).1
  have s1 : Rat.divInt r m < 1 := by
    by_cases z : Rat.divInt r m < 1
    · exact z
    · have z2 : Rat.divInt r m = 1 := by
        have := (divInt_01 h0 (Int.le_of_lt h1) (by omega)).2
        grind
      rw [z2] at e
      grind
  have n0 := Rat.mul_nonneg (Rat.le_of_lt hw) s0
  have n1 := Rat.mul_lt_mul_of_pos_left s1 hw
  rw [Rat.mul_one] at n1
  constructor <;> grind
/-! ### a list of parts, added up -/
@[irreducible] def spTotal (K : PySem.W.Frag) : Sp := fun vs H Q _ => ∃ (L : Addr) (us : List V) (qs : List Rat) (f : Nat → Rat), vs = [.ref L] ∧ SqL K H L us ∧ Al (PtV K H) us qs ∧ f 0 = 0 ∧ (∀ i q, qs[i]? = some q → f (i + 1) = f i + q ∧ Sz 3000 q) ∧ (∀ i, i ≤ qs.length → Sz 3000 (f i)) ∧ ∀ u H', Same H H' → PtV K H' u (f qs.length) → Q u H'
theorem total_step {K : PySem.W.Frag} {H : Hp} {Q : VK} {E : XK} {vs : List V} {L : Addr} {us : List V} {qs : List Rat} (f : Nat → Rat) (hL : SqL K H L us) (hA : Al (PtV K H) us qs) (f0 : f 0 = 0) (fs : ∀ i q, qs[i]? = some q → f (i + 1) = f i + q ∧ Sz 3000 q) (fz : ∀ i, i ≤ qs.length → Sz 3000 (f i)) (q : ∀ u H', Same H H' → PtV K H' u (f qs.length) → Q u H') (hvs : vs = [.ref L] := by rfl) : spTotal K vs H Q E := by
  unfold spTotal
  exact ⟨L, us, qs, f, hvs, hL, hA, f0, fs, fz, q⟩
end Cc
namespace Cc
open PySem PySem.Spec PyProof.Rows L2
/-! ### the greatest of parts -/
def mostL (qs : List Rat) : Rat := qs.foldl gr (qs.headD 0)
theorem gr_self (x : Rat) : gr x x = x := by
  unfold gr
  split <;> rfl
theorem gr_ge (x y : Rat) : x ≤ gr x y ∧ y ≤ gr x y := by
  unfold gr
  split <;> constructor <;> grind
theorem gr_or (x y : Rat) : gr x y = x ∨ gr x y = y := by
  unfold gr
  split
  · exact .inr rfl
  · exact .inl rfl
theorem foldl_gr_mem : ∀ (l : List Rat) (x : Rat), l.foldl gr x = x ∨ l.foldl gr x ∈ l
  | [], _ => .inl rfl
  | y :: r, x => by
    rw [List.foldl_cons]
    rcases foldl_gr_mem r (gr x y) with h | h
    · rcases gr_or x y with e | e
      · exact .inl (h.trans e)
      · rw [h, e]
        exact .inr List.mem_cons_self
    · exact .inr (List.mem_cons_of_mem _ h)
theorem foldl_gr_ge : ∀ (l : List Rat) (x : Rat), x ≤ l.foldl gr x ∧ ∀ q ∈ l, q ≤ l.foldl gr x
  | [], x => ⟨by rw [List.foldl_nil]; exact Rat.le_refl, fun q hq => by cases hq⟩
  | y :: r, x => by
    have ih := foldl_gr_ge r (gr x y)
    have g := gr_ge x y
    rw [List.foldl_cons]
    refine ⟨Rat.le_trans g.1 ih.1, fun q hq => ?_⟩
    rcases List.mem_cons.mp hq with rfl | hq
    · exact Rat.le_trans g.2 ih.1
    · exact ih.2 q hq
theorem mostL_mem {qs : List Rat} (h : qs ≠ []) : mostL qs ∈ qs := by
  cases qs with
  | nil => exact absurd rfl h
  | cons x r =>
    unfold mostL
    rw [List.headD_cons]
    rcases foldl_gr_mem (x :: r) x with e | e
    · rw [e]
      exact List.mem_cons_self
    · exact e
theorem mostL_ge {qs : List Rat} {q : Rat} (h : q ∈ qs) : q ≤ mostL qs := (foldl_gr_ge qs _).2 q h
theorem mostL_eq {qs : List Rat} {m : Rat} (h : m ∈ qs) (h2 : ∀ q ∈ qs, q ≤ m) : mostL qs = m :=
  Rat.le_antisymm (h2 _ (mostL_mem (List.ne_nil_of_mem h))) (mostL_ge h)
theorem mostL_flat {ls : List (List Rat)} (h : ∀ l ∈ ls, l ≠ []) (h0 : ls ≠ []) : mostL ls.flatten = mostL (ls.map mostL) := by
  have hm : mostL (ls.map mostL) ∈ ls.map mostL := mostL_mem (by simpa using h0)
  obtain ⟨l, hl, e⟩ := List.mem_map.mp hm
  refine mostL_eq ?_ fun q hq => ?_
  · rw [← e]
    exact List.mem_flatten.mpr ⟨l, hl, mostL_mem (h l hl)⟩
  · obtain ⟨l2, hl2, hq⟩ := List.mem_flatten.mp hq
    exact Rat.le_trans (mostL_ge hq) (mostL_ge (List.mem_map.mpr ⟨l2, hl2, rfl⟩))
theorem most_take {qs : List Rat} {i : Nat} {q x : Rat} (h : qs[i]? = some q) : (qs.take (i + 1)).foldl gr x = gr ((qs.take i).foldl gr x) q := by
  rw [List.take_add_one, h, List.foldl_append]
  rfl
theorem most_take_mem {qs : List Rat} {i : Nat} (h : qs ≠ []) : (qs.take i).foldl gr (qs.headD 0) ∈ qs := by
  rcases foldl_gr_mem (qs.take i) (qs.headD 0) with e | e
  · rw [e]
    cases qs with
    | nil => exact absurd rfl h
    | cons x r => exact List.mem_cons_self
  · exact List.mem_of_mem_take e
/-! ### shapes of rows -/
def shpX (g : Rat) (x : Int) : Rat := gr (g * (x : Rat)) (1 / (g * (x : Rat)))
def rowM (ws : List Int) (first size : Nat) : List Int := (ws.drop first).take size
def gform (b : Bx) (T : Int) (row : List Int) (d : Bool) : Rat := (if d then b.w / b.h else b.h / b.w) * Rat.divInt T (row.sum * row.sum)
def rowShape (b : Bx) (ws : List Int) (first size : Nat) (d : Bool) : Rat := mostL ((rowM ws first size).map (shpX (gform b ws.sum (rowM ws first size) d)))
def shapesM (b : Bx) (ws ss : List Int) (d : Bool) : List Rat := (List.range ss.length).map fun j => rowShape b ws (off ss j) (ss.getD j 0).toNat d
def worstM (b : Bx) (ws ss : List Int) (d : Bool) : Rat := mostL (shapesM b ws ss d)
theorem div_of {A B C : Rat} (h : A = C * B) (hB : B ≠ 0) : A / B = C := by
  rw [h, Rat.div_def, Rat.mul_assoc, Rat.mul_inv_cancel B hB, Rat.mul_one]
theorem inv_le {a b : Rat} (ha : 0 < a) (h : a ≤ b) : 1 / b ≤ 1 / a := by
  have hb : 0 < b := by grind
  have e1 : 1 / a * a = 1 := by rw [Rat.div_def, Rat.one_mul, Rat.inv_mul_cancel a (by grind)]
  have e2 : 1 / b * b = 1 := by rw [Rat.div_def, Rat.one_mul, Rat.inv_mul_cancel b (by grind)]
  have p0 : 0 < 1 / a := by
    rw [Rat.div_def, Rat.one_mul]
    exact Rat.inv_pos.mpr ha
  by_cases z : 1 / b ≤ 1 / a
  · exact z
  · have z' : 1 / a < 1 / b := by grind
    have h1 := Rat.mul_lt_mul_of_pos_right z' hb
    have h2 := Rat.mul_le_mul_of_nonneg_left h (Rat.le_of_lt p0)
    grind
theorem gform_pos {b : Bx} {T : Int} {row : List Int} {n : Nat} (hb : b.Ok n) (hT : 0 < T) (hR : 0 < row.sum) (d : Bool) : 0 < gform b T row d := by
  unfold gform
  have h1 : 0 < Rat.divInt T (row.sum * row.sum) := divInt_pos hT (Int.mul_pos hR hR)
  cases d with
  | true =>
    rw [if_pos rfl, Rat.div_def]
    exact Rat.mul_pos (Rat.mul_pos hb.w0 (Rat.inv_pos.mpr hb.h0)) h1
  | false =>
    rw [if_neg Bool.false_ne_true, Rat.div_def]
    exact Rat.mul_pos (Rat.mul_pos hb.h0 (Rat.inv_pos.mpr hb.w0)) h1
theorem shp_form {w h s S D R T x : Rat} (hw : 0 < w) (hh : 0 < h) (hS : 0 < S) (hs : 0 < s) (hR : 0 < R) (e1 : s * R = x) (e2 : S * T = R) (e3 : D * (R * R) = T) :
    (w * s) / (h * S) = w / h * D * x ∧ (h * S) / (w * s) = 1 / (w / h * D * x) := by
  have k : D * R * S = 1 := by
    have h1 : (D * R * S) * R = R := by grind
    have h2 := congrArg (fun z => z * R⁻¹) h1
    simp only [Rat.mul_assoc, Rat.mul_inv_cancel R (by grind : R ≠ 0), Rat.mul_one] at h2
    grind
  have hwh : w / h * h = w := by rw [Rat.div_def, Rat.mul_assoc, Rat.inv_mul_cancel h (by grind), Rat.mul_one]
  have hA : w * s = (w / h * D * x) * (h * S) := by
    have : (w / h * D * x) * (h * S) = (w / h * h) * (s * (D * R * S)) := by rw [← e1]; grind
    rw [this, k, hwh, Rat.mul_one]
  have p1 : 0 < h * S := Rat.mul_pos hh hS
  have p2 : 0 < w * s := Rat.mul_pos hw hs
  refine ⟨div_of hA (by grind), div_of ?_ (by grind)⟩
  generalize w / h * D * x = C at *
  have hC : C ≠ 0 := fun z => by
    rw [z, Rat.zero_mul] at hA
    grind
  rw [hA, ← Rat.mul_assoc, Rat.div_def, Rat.one_mul, Rat.inv_mul_cancel C hC, Rat.one_mul]
section
variable {b : Bx} {ws ss : List Int} {n : Nat}
theorem shp_laid (hb : b.Ok n) (hW : WOk ws) (hS : SOk ss ws.length) (d : Bool) {j k : Nat} (hj : j < ss.length) (hk : k < (rowAt ws ss j).length) :
    shp (cutAt (cutAt b (sumsM ws ss) d j) (rowAt ws ss j) (!d) k) = shpX (gform b ws.sum (rowAt ws ss j) d) ((rowAt ws ss j).getD k 0) := by
  have hR := (row_ok hW hS hj)
  have hG := sums_ok hW hS
  have r0 := int_pos hR.sum.1
  have e1 := shr_times hR k
  have e2 : shr (sumsM ws ss) j * ((ws.sum : Int) : Rat) = (((rowAt ws ss j).sum : Int) : Rat) := by
    rw [← sums_sum hS, shr_timesG hG, sums_getD hj]
  have e3 : Rat.divInt ws.sum ((rowAt ws ss j).sum * (rowAt ws ss j).sum) * ((((rowAt ws ss j).sum : Int) : Rat) * (((rowAt ws ss j).sum : Int) : Rat)) = ((ws.sum : Int) : Rat) := by
    rw [Rat.divInt_eq_div, Rat.div_def, Rat.mul_assoc, Rat.intCast_mul, Rat.inv_mul_cancel _ (by have := Rat.mul_pos r0 r0; grind), Rat.mul_one]
  have s0 := hG.shr (i := j) (by rw [sums_len]; exact hj)
  have s1 := hR.g.shr hk
  rw [cutAt_eq, cutAt_eq]
  unfold shp shpX gform slab
  cases d with
  | true =>
    simp only [Bool.not_true, if_true, if_false, Bool.false_eq_true]
    obtain ⟨f1, f2⟩ := shp_form hb.w0 hb.h0 s0 s1 r0 e1 e2 e3
    rw [f1, f2]
  | false =>
    simp only [Bool.not_false, if_true, if_false, Bool.false_eq_true]
    obtain ⟨f1, f2⟩ := shp_form hb.h0 hb.w0 s0 s1 r0 e1 e2 e3
    rw [f1, f2, gr_comm]
theorem map_getD {α : Type} (f : Int → α) : ∀ (row : List Int), (List.range row.length).map (fun k => f (row.getD k 0)) = row.map f
  | [] => rfl
  | x :: r => by
    rw [List.length_cons, List.range_succ_eq_map, List.map_cons, List.map_map, List.map_cons, ← map_getD f r]
    rfl
theorem shp_row (hb : b.Ok n) (hW : WOk ws) (hS : SOk ss ws.length) (d : Bool) {j : Nat} (hj : j < ss.length) : (laidAt b ws ss d j).map shp = (rowAt ws ss j).map (shpX (gform b ws.sum (rowAt ws ss j) d)) := by
  rw [← map_getD]
  unfold laidAt cutM
  rw [List.map_map]
  exact List.map_congr_left fun k hk => shp_laid hb hW hS d hj (List.mem_range.mp hk)
theorem most_laid (hb : b.Ok n) (hW : WOk ws) (hS : SOk ss ws.length) (d : Bool) : mostL ((laidM b ws ss d).map shp) = worstM b ws ss d := by
  unfold worstM shapesM laidM laidTo
  rw [List.map_flatten, List.map_map]
  rw [mostL_flat, List.map_map]
  · congr 1
    refine List.map_congr_left fun j hj => ?_
    show mostL ((laidAt b ws ss d j).map shp) = _
    rw [shp_row hb hW hS d (List.mem_range.mp hj)]
    rfl
  · intro l hl
    obtain ⟨j, hj, rfl⟩ := List.mem_map.mp hl
    have h := (row_ok hW hS (List.mem_range.mp hj)).l0
    intro z
    have z2 : ((laidAt b ws ss d j).map shp).length = 0 := congrArg List.length (show (laidAt b ws ss d j).map shp = [] from z)
    rw [List.length_map] at z2
    unfold laidAt at z2
    rw [cutM_len] at z2
    omega
  · have h := hS.ne hW.l0
    intro z
    have z2 := congrArg List.length z
    rw [List.length_map, List.length_range, List.length_nil] at z2
    omega
/-- the greatest shape of a row by its greatest and its least weight -/
theorem most_ends {row : List Int} {g : Rat} {M m : Int} (hg : 0 < g) (h1 : ∀ x ∈ row, 1 ≤ x) (hM : M ∈ row) (hM2 : ∀ x ∈ row, x ≤ M) (hm : m ∈ row) (hm2 : ∀ x ∈ row, m ≤ x) :
    mostL (row.map (shpX g)) = gr (g * (M : Rat)) (1 / (g * (m : Rat))) := by
  have cast : ∀ {x y : Int}, x ≤ y → g * (x : Rat) ≤ g * (y : Rat) := fun h => Rat.mul_le_mul_of_nonneg_left (Rat.intCast_le_intCast.mpr h) (Rat.le_of_lt hg)
  have pos : ∀ {x : Int}, x ∈ row → 0 < g * (x : Rat) := fun h => Rat.mul_pos hg (int_pos (by have := h1 _ h; omega))
  have i1 := inv_le (pos hm) (cast (hm2 M hM))
  have c1 := cast (hm2 M hM)
  refine mostL_eq ?_ fun q hq => ?_
  · rw [List.mem_map]
    by_cases e : g * (M : Rat) < 1 / (g * (m : Rat))
    · refine ⟨m, hm, ?_⟩
      unfold shpX gr
      rw [if_pos e, if_pos (by grind)]
    · refine ⟨M, hM, ?_⟩
      unfold shpX gr
      rw [if_neg e, if_neg (by grind)]
  · obtain ⟨x, hx, rfl⟩ := List.mem_map.mp hq
    have i2 := inv_le (pos hm) (cast (hm2 x hx))
    have c2 := cast (hM2 x hx)
    have g1 := gr_ge (g * (M : Rat)) (1 / (g * (m : Rat)))
    unfold shpX
    rcases gr_or (g * (x : Rat)) (1 / (g * (x : Rat))) with e | e
    · rw [e]
      grind
    · rw [e]
      grind
theorem laidTo_take (hS : SOk ss ws.length) (d : Bool) : ∀ m i, i ≤ m → m ≤ ss.length → (laidTo b ws ss d m).take (off ss i) = laidTo b ws ss d i
  | 0, i, hi, _ => by
    have : i = 0 := by omega
    subst this
    simp [laidTo]
  | m + 1, i, hi, hm => by
    by_cases e : i = m + 1
    · subst e
      exact List.take_of_length_le (by rw [laidTo_len b d hS _ hm]; exact Nat.le_refl _)
    · have h1 := laidTo_take hS d m i (by omega) (by omega)
      have h2 := laidTo_len b d hS m (by omega)
      have h3 : off ss i ≤ off ss m := by
        have := congrArg List.length h1
        rw [List.length_take, laidTo_len b d hS i (by omega), h2] at this
        omega
      rw [laidTo_succ, List.take_append_of_le_length (by rw [h2]; exact h3), h1]
theorem laid_slice (hS : SOk ss ws.length) (d : Bool) {j : Nat} (hj : j < ss.length) : ((laidM b ws ss d).drop (off ss j)).take (ss.getD j 0).toNat = laidAt b ws ss d j := by
  have h1 := laidTo_take (b := b) hS d ss.length (j + 1) hj (Nat.le_refl _)
  rw [hS.off_succ hj, laidTo_succ] at h1
  have h2 := congrArg (List.drop (off ss j)) h1
  rw [List.drop_take, Nat.add_sub_cancel_left, ← laidTo_len b d hS j (by omega), List.drop_left] at h2
  rw [← laidTo_len b d hS j (by omega)]
  exact h2
end
/-! ### sizes of shapes -/
theorem sz_gform {b : Bx} {T : Int} {row : List Int} {n : Nat} (hb : b.Ok n) (hT : 0 ≤ T ∧ T ≤ 4800000) (hR : 0 < row.sum ∧ row.sum ≤ 4800000) (d : Bool) : Sz (n + n + 46) (gform b T row d) := by
  unfold gform
  have h0 := Int.mul_pos hR.1 hR.1
  have h1 : row.sum * row.sum ≤ 4800000 * 4800000 := Int.mul_le_mul hR.2 hR.2 (by omega) (by omega)
  have z : Sz 46 (Rat.divInt T (row.sum * row.sum)) := size_divInt (by omega) (show T.natAbs < 2 ^ 46 by omega) (show (row.sum * row.sum).natAbs < 2 ^ 46 by omega)
  refine sz_mul (m := n + n) ?_ z (by omega)
  cases d with
  | true =>
    rw [if_pos rfl]
    exact sz_div hb.sw hb.sh (by have := hb.h0; grind) (Nat.le_refl _)
  | false =>
    rw [if_neg Bool.false_ne_true]
    exact sz_div hb.sh hb.sw (by have := hb.w0; grind) (Nat.le_refl _)
theorem sz_gr {n : Nat} {x y : Rat} (hx : Sz n x) (hy : Sz n y) : Sz n (gr x y) := by
  rcases gr_or x y with e | e <;> rw [e] <;> assumption
theorem sz_int {i : Int} (h : -4800000 ≤ i ∧ i ≤ 4800000) : Sz 23 (i : Rat) := ⟨sz23 h, Nat.one_lt_two_pow (by decide)⟩
end Cc
namespace Cc
open PySem PySem.Spec PyProof.Rows L2
/-! ### promises about shapes -/
def OneAt (K : PySem.W.Frag) (mg : Str → Option Value) : Prop := ∃ a, mg "ONE" = some (.ref a) ∧ ∀ H, PtV K H (.ref a) 1
theorem one_mk {K : PySem.W.Frag} {mg : Str → Option Value} {h : Heap} (X : K.In h) (G : h.Ns mainGlobals mg) {a : Addr} {dd : Option Addr} {n : Nat} {t u : Tok} {sl : Array (Option Value)}
    (e : PySem.W.nsIn K mainGlobals "ONE" = some (some (.ref a))) (l : K.lookup a = some ⟨.type "tuple", dd, .seq #[.int 1 t, .int 1 u] n, sl⟩) : OneAt K mg :=
  ⟨a, PySem.W.mg_of X G e, fun _ => ⟨a, rfl, .inr ⟨_, _, _, l, rfl, rfl, (show 2 ≤ sizeLine by decide), .cons ⟨t, rfl⟩ (.cons ⟨u, rfl⟩ .nil)⟩⟩⟩
theorem cut_rowM {ws : List Int} {first size : Nat} {lo hi : Int} (e1 : lo = first) (e2 : hi = (first : Int) + size) (h : first + size ≤ ws.length) : cutV (ws.map V.int) (some lo) (some hi) = (rowM ws first size).map V.int := by
  unfold cutV rowM
  rw [e2, e1, show (first : Int) + (size : Int) = ((first + size : Nat) : Int) by omega, List.length_map, HT.sIx_nat, HT.sIx_nat, Nat.min_eq_left (by omega), Nat.min_eq_left (by omega), Nat.add_sub_cancel_left, List.map_take, List.map_drop]
theorem rowM_ok {ws : List Int} {first size : Nat} (hW : WOk ws) (h0 : 1 ≤ size) (h : first + size ≤ ws.length) : WOk (rowM ws first size) := by
  have h1 := hW.l1
  unfold rowM
  refine ⟨by rw [List.length_take, List.length_drop]; omega, by rw [List.length_take, List.length_drop]; omega, fun x hx => hW.w x (List.mem_of_mem_drop (List.mem_of_mem_take hx))⟩
theorem sz_one : Sz 1 (1 : Rat) := ⟨by decide, by decide⟩
theorem rowShape_eq {b : Bx} {ws : List Int} {first size n : Nat} {d : Bool} {M m : Int} (hb : b.Ok n) (hW : WOk ws) (h0 : 1 ≤ size) (h : first + size ≤ ws.length) (hM : M ∈ rowM ws first size) (hM2 : ∀ x ∈ rowM ws first size, x ≤ M) (hm : m ∈ rowM ws first size) (hm2 : ∀ x ∈ rowM ws first size, m ≤ x) :
    rowShape b ws first size d = gr (gform b ws.sum (rowM ws first size) d * (M : Rat)) (1 / (gform b ws.sum (rowM ws first size) d * (m : Rat))) := by
  have hr := rowM_ok hW h0 h
  exact most_ends (gform_pos hb hW.sum.1 hr.sum.1 d) hr.g.w hM hM2 hm hm2
theorem sz_shpX {g : Rat} {x : Int} {n : Nat} (hg : Sz n g) (h0 : 0 < g) (hx : 1 ≤ x ∧ x ≤ 4800000) : Sz (n + 24) (shpX g x) := by
  have h1 := Rat.mul_pos h0 (int_pos (i := x) (by omega))
  have z : Sz (n + 23) (g * (x : Rat)) := sz_mul hg (sz_int (by omega)) (Nat.le_refl _)
  exact sz_gr (z.mono (by omega)) (sz_div sz_one z (by grind) (by omega))
theorem sz_rowShape {b : Bx} {ws : List Int} {first size n : Nat} (hb : b.Ok n) (hW : WOk ws) (h0 : 1 ≤ size) (h : first + size ≤ ws.length) (d : Bool) : Sz (n + n + 70) (rowShape b ws first size d) := by
  have hr := rowM_ok hW h0 h
  have hl := hr.l0
  have hm : rowShape b ws first size d ∈ (rowM ws first size).map (shpX (gform b ws.sum (rowM ws first size) d)) := mostL_mem (fun z => by
    have z2 := congrArg List.length z
    rw [List.length_map, List.length_nil] at z2
    omega)
  obtain ⟨x, hx, e⟩ := List.mem_map.mp hm
  rw [← e]
  have hs := hW.sum
  have hrs := hr.sum
  exact (sz_shpX (sz_gform hb (by omega) hrs d) (gform_pos hb hs.1 hrs.1 d) (hr.g.mem hx)).mono (by omega)
@[irreducible] def spGreat (K : PySem.W.Frag) : Sp := fun vs H Q _ => ∃ (L : Addr) (us : List V) (qs : List Rat), vs = [.ref L] ∧ SqL K H L us ∧ Al (PtV K H) us qs ∧ qs ≠ [] ∧ (∀ q ∈ qs, Sz 3900 q) ∧ ∀ u H', Same H H' → PtV K H' u (mostL qs) → Q u H'
@[irreducible] def spShapeB (K : PySem.W.Frag) : Sp := fun vs H Q _ => ∃ (v : V) (a : Addr) (b : Bx) (ws : List Int) (lo hi : Int) (first size : Nat) (d : Bool), vs = [v, .ref a, .int lo, .int hi, .str (sd d)] ∧ BxV K H v b ∧ b.Ok 450 ∧ IntsV K H a ws ∧ WOk ws ∧ lo = first ∧ hi = (first : Int) + size ∧ 1 ≤ size ∧ first + size ≤ ws.length ∧ ∀ u H', Same H H' → PtV K H' u (rowShape b ws first size d) → Q u H'
@[irreducible] def spRowShape (K : PySem.W.Frag) : Sp := fun vs H Q _ => ∃ (v : V) (a : Addr) (b : Bx) (ws : List Int) (lo hi : Int) (first size : Nat) (d : Bool), vs = [v, .ref a, .int lo, .int hi, .str (sd d)] ∧ BxV K H v b ∧ b.Ok 450 ∧ SqL K H a (ws.map V.int) ∧ WOk ws ∧ lo = first ∧ hi = size ∧ 1 ≤ size ∧ first + size ≤ ws.length ∧ ∀ u H', Same H H' → PtV K H' u (rowShape b ws first size d) → Q u H'
@[irreducible] def spWorst (K : PySem.W.Frag) : Sp := fun vs H Q _ => ∃ (v : V) (a t : Addr) (b : Bx) (ws ss : List Int) (d : Bool), vs = [v, .ref a, .ref t, .str (sd d)] ∧ BxV K H v b ∧ b.Ok 450 ∧ SqL K H a (ws.map V.int) ∧ WOk ws ∧ SqT K H t (ss.map V.int) ∧ SOk ss ws.length ∧ ∀ u H', Same H H' → PtV K H' u (worstM b ws ss d) → Q u H'
section
variable {K : PySem.W.Frag} {H H' : Hp} {a t : Addr} {ws ss : List Int} {Q : VK} {E : XK} {vs : List V} {b : Bx} {v : V} {d : Bool} {n : Nat}
theorem great_step {L : Addr} {us : List V} {qs : List Rat} (hL : SqL K H L us) (hA : Al (PtV K H) us qs) (h0 : qs ≠ []) (hz : ∀ q ∈ qs, Sz n q) (hn : n ≤ 3900) (q : ∀ u H', Same H H' → PtV K H' u (mostL qs) → Q u H') (hvs : vs = [.ref L] := by rfl) : spGreat K vs H Q E := by
  unfold spGreat
  exact ⟨L, us, qs, hvs, hL, hA, h0, fun q hq => (hz q hq).mono hn, q⟩
theorem shapebI_step {lo hi : Int} (first size : Nat) (hv : BxV K H v b) (hb : b.Ok n) (hn : n ≤ 450) (h : IntsV K H a ws) (hw : WOk ws) (e1 : lo = first) (e2 : hi = (first : Int) + size) (h0 : 1 ≤ size) (h1 : first + size ≤ ws.length) (q : ∀ u H', Same H H' → PtV K H' u (rowShape b ws first size d) → Q u H') (hvs : vs = [v, .ref a, .int lo, .int hi, .str (sd d)] := by rfl) : spShapeB K vs H Q E := by
  unfold spShapeB
  exact ⟨v, a, b, ws, lo, hi, first, size, d, hvs, hv, hb.mono hn, h, hw, e1, e2, h0, h1, q⟩
theorem shapeb_step {lo hi : Int} (first size : Nat) (hv : BxV K H v b) (hb : b.Ok n) (hn : n ≤ 450) (h : SqL K H a (ws.map V.int)) (hw : WOk ws) (e1 : lo = first) (e2 : hi = (first : Int) + size) (h0 : 1 ≤ size) (h1 : first + size ≤ ws.length) (q : ∀ u H', Same H H' → PtV K H' u (rowShape b ws first size d) → Q u H') (hvs : vs = [v, .ref a, .int lo, .int hi, .str (sd d)] := by rfl) : spShapeB K vs H Q E :=
  shapebI_step first size hv hb hn (.inl h) hw e1 e2 h0 h1 q hvs
theorem rowshape_step {lo hi : Int} (first size : Nat) (hv : BxV K H v b) (hb : b.Ok n) (hn : n ≤ 450) (h : SqL K H a (ws.map V.int)) (hw : WOk ws) (e1 : lo = first) (e2 : hi = size) (h0 : 1 ≤ size) (h1 : first + size ≤ ws.length) (q : ∀ u H', Same H H' → PtV K H' u (rowShape b ws first size d) → Q u H') (hvs : vs = [v, .ref a, .int lo, .int hi, .str (sd d)] := by rfl) : spRowShape K vs H Q E := by
  unfold spRowShape
  exact ⟨v, a, b, ws, lo, hi, first, size, d, hvs, hv, hb.mono hn, h, hw, e1, e2, h0, h1, q⟩
theorem worst_step (hv : BxV K H v b) (hb : b.Ok n) (hn : n ≤ 450) (h : SqL K H a (ws.map V.int)) (hw : WOk ws) (ht : SqT K H t (ss.map V.int)) (hs : SOk ss ws.length) (q : ∀ u H', Same H H' → PtV K H' u (worstM b ws ss d) → Q u H') (hvs : vs = [v, .ref a, .ref t, .str (sd d)] := by rfl) : spWorst K vs H Q E := by
  unfold spWorst
  exact ⟨v, a, t, b, ws, ss, d, hvs, hv, hb.mono hn, h, hw, ht, hs, q⟩
end
theorem Bxs.drop {K : PySem.W.Frag} {H : Hp} : ∀ (k : Nat) {vs : List V} {bs : List Bx}, Bxs K H vs bs → Bxs K H (vs.drop k) (bs.drop k)
  | 0, _, _, h => h
  | _ + 1, _, _, .nil => .nil
  | k + 1, _, _, .cons _ r => Bxs.drop k r
theorem Bxs.take {K : PySem.W.Frag} {H : Hp} : ∀ (k : Nat) {vs : List V} {bs : List Bx}, Bxs K H vs bs → Bxs K H (vs.take k) (bs.take k)
  | 0, _, _, _ => .nil
  | _ + 1, _, _, .nil => .nil
  | k + 1, _, _, .cons a r => .cons a (Bxs.take k r)
/-- the sizes that single a row out -/
def ss3 (first size n : Nat) : List Int := [(first : Int), (size : Int), (n : Int) - first - size].filter (fun x => decide (x > 0))
theorem ss3_eq {first size n : Nat} (h0 : 1 ≤ size) : ss3 first size n = (if (first : Int) > 0 then [(first : Int)] else []) ++ ((size : Int) :: (if (n : Int) - first - size > 0 then [(n : Int) - first - size] else [])) := by
  have hs : (size : Int) > 0 := by omega
  unfold ss3
  rw [List.filter_cons, List.filter_cons, List.filter_cons, List.filter_nil]
  by_cases a1 : (first : Int) > 0
  · rw [if_pos a1, if_pos (decide_eq_true a1), if_pos (decide_eq_true hs)]
    by_cases a3 : (n : Int) - first - size > 0
    · rw [if_pos a3, if_pos (decide_eq_true a3)]
      rfl
    · rw [if_neg a3, if_neg (fun z => a3 (of_decide_eq_true z))]
      rfl
  · rw [if_neg a1, if_neg (fun z => a1 (of_decide_eq_true z)), if_pos (decide_eq_true hs)]
    by_cases a3 : (n : Int) - first - size > 0
    · rw [if_pos a3, if_pos (decide_eq_true a3)]
      rfl
    · rw [if_neg a3, if_neg (fun z => a3 (of_decide_eq_true z))]
      rfl
theorem ss3_ok {first size n : Nat} (h0 : 1 ≤ size) (h : first + size ≤ n) : SOk (ss3 first size n) n ∧ ∃ j, j < (ss3 first size n).length ∧ off (ss3 first size n) j = first ∧ (ss3 first size n).getD j 0 = size := by
  refine ⟨⟨fun x hx => ?_, ?_⟩, ?_⟩
  · have := (List.mem_filter.mp hx).2
    have := of_decide_eq_true this
    omega
  · rw [ss3_eq h0, List.sum_append, List.sum_cons]
    split <;> split <;> simp <;> omega
  · rw [ss3_eq h0]
    by_cases a1 : (first : Int) > 0
    · rw [if_pos a1]
      exact ⟨1, by simp, by simp [off], rfl⟩
    · rw [if_neg a1]
      exact ⟨0, by simp, by simp [off]; omega, rfl⟩
/-! ### weights mixed, rows' places -/
def rLenK (K : PySem.W.Frag) : List V → Hp → VK → Prop := fun xs H Q => ∃ p ys, xs = [.ref p] ∧ (SqL K H p ys ∨ SqT K H p ys) ∧ Q (.int ys.length) H
theorem kk_len {X : Cx} {K : PySem.W.Frag} (hK : X.K = K) : CallR X (.builtin "len") (rLenK K) := by
  subst hK
  exact call_len_seq
theorem kk_bm {X : Cx} {K : PySem.W.Frag} {o e : Expr} {es : List Expr} {to : TE} {t : TA} {name : Str} {apos cpos : Pos} {T id : String} {r : V → List V → Hp → VK → Prop} (hK : X.K = K) (pa : PlainAttrs T) (slot : Slot T name id) (hty : typeOf (.builtin id) = pure (.type "method_descriptor")) (hm : MtR X id r) (ho : PE X o to) (ha : PA X (e :: es) t)
    (hbase : attributeBase o name X.env (eval o X.env) = eval o X.env := by rfl)
    (hfew : ((backTo cpos (starEach (e :: es) X.env)).all (fun x => !x.1) && (backToKw cpos (keywordEach [] X.env)).all (fun x => x.1.isSome)
      && decide ((e :: es).length + ([] : List Keyword).length + (if ([] : List Keyword).isEmpty then 0 else 1) < 30)) = true := by rfl)
    (hline : (apos.endLine == cpos.line) = true := by rfl) (hs : starEach (e :: es) X.env = (false, eval e X.env) :: starEach es X.env := by rfl) (hplain : (backTo cpos (starEach es X.env)).any (·.1) = false := by rfl) :
    PE X (.Call (.Attribute o name apos) (e :: es) [] cpos) (tBM K T r to t) := by
  subst hK
  exact pe_bm pa slot hty hm ho ha hbase hfew hline hs hplain
def spotsM (ss : List Int) : List (Int × Int) := (List.range ss.length).map fun i => ((ss.take i).sum, ss.getD i 0)
theorem spots_len {ss : List Int} : (spotsM ss).length = ss.length := by
  unfold spotsM
  rw [List.length_map, List.length_range]
theorem spots_get {ss : List Int} {i : Nat} {x : Int × Int} (h : (spotsM ss)[i]? = some x) : i < ss.length ∧ x = ((ss.take i).sum, ss.getD i 0) := by
  have hi := (List.getElem?_eq_some_iff.mp h).1
  rw [spots_len] at hi
  unfold spotsM at h
  rw [List.getElem?_map, List.getElem?_range hi] at h
  exact ⟨hi, (Option.some.inj h).symm⟩
@[irreducible] def spSpots (K : PySem.W.Frag) : Sp := fun vs H Q _ => ∃ (a : Addr) (ss : List Int) (n : Nat), vs = [.ref a] ∧ SqT K H a (ss.map V.int) ∧ SOk ss n ∧ n ≤ 12 ∧ ∀ L us H', H L = none → Same H H' → H' L = some (.lst us) → Al (PiV K H') us (spotsM ss) → Q (.ref L) H'
@[irreducible] def spMixed (K : PySem.W.Frag) : Sp := fun vs H Q _ => ∃ (c a : Addr) (xs : List Int) (P : Int → Prop), vs = [.ref c, .ref a] ∧ Bag H c ∧ H a = some (.lst (xs.map V.int)) ∧ a ≠ c ∧ xs.length ≤ 60 ∧ (∀ x ∈ xs, P x) ∧ ∀ L (ys : List Int) H', H L = none → H' L = some (.lst (ys.map V.int)) → ys.length = xs.length → ys.sum = xs.sum → (∀ x ∈ ys, P x) → Bag H' c → KpG c H H' → Q (.ref L) H'
section
variable {K : PySem.W.Frag} {H H' : Hp} {a : Addr} {ss : List Int} {Q : VK} {E : XK} {vs : List V}
theorem spots_step {n : Nat} (h : SqT K H a (ss.map V.int)) (hs : SOk ss n) (hn : n ≤ 12) (q : ∀ L us H', H L = none → Same H H' → H' L = some (.lst us) → Al (PiV K H') us (spotsM ss) → Q (.ref L) H') (hvs : vs = [.ref a] := by rfl) : spSpots K vs H Q E := by
  unfold spSpots
  exact ⟨a, ss, n, hvs, h, hs, hn, q⟩
theorem mixed_stepP (P : Int → Prop) {c : Addr} {xs : List Int} (hb : Bag H c) (h : H a = some (.lst (xs.map V.int))) (hne : a ≠ c) (hl : xs.length ≤ 60) (hw : ∀ x ∈ xs, P x) (q : ∀ L (ys : List Int) H', H L = none → H' L = some (.lst (ys.map V.int)) → ys.length = xs.length → ys.sum = xs.sum → (∀ x ∈ ys, P x) → Bag H' c → KpG c H H' → Q (.ref L) H') (hvs : vs = [.ref c, .ref a] := by rfl) : spMixed K vs H Q E := by
  unfold spMixed
  exact ⟨c, a, xs, P, hvs, hb, h, hne, hl, hw, q⟩
theorem mixed_step {c : Addr} {xs : List Int} (hb : Bag H c) (h : H a = some (.lst (xs.map V.int))) (hne : a ≠ c) (hl : xs.length ≤ 12) (hw : ∀ x ∈ xs, 1 ≤ x ∧ x ≤ 400000) (q : ∀ L (ys : List Int) H', H L = none → H' L = some (.lst (ys.map V.int)) → ys.length = xs.length → ys.sum = xs.sum → (∀ x ∈ ys, 1 ≤ x ∧ x ≤ 400000) → Bag H' c → KpG c H H' → Q (.ref L) H') (hvs : vs = [.ref c, .ref a] := by rfl) : spMixed K vs H Q E :=
  mixed_stepP _ hb h hne (by omega) hw q hvs
end
theorem cut_lo {ws : List Int} {first : Nat} {hi : Int} (e : hi = first) : cutV (ws.map V.int) none (some hi) = (ws.take first).map V.int := by
  unfold cutV
  rw [e, HT.sIx_none, HT.sIx_nat, List.drop_zero, Nat.sub_zero, List.length_map, ← List.map_take]
  congr 1
  rcases Nat.le_total first ws.length with h | h
  · rw [Nat.min_eq_left h]
  · rw [Nat.min_eq_right h, List.take_length, List.take_of_length_le h]
theorem cut_hi {ws : List Int} {at' : Nat} {lo : Int} (e : lo = at') (h : at' ≤ ws.length) : cutV (ws.map V.int) (some lo) none = (ws.drop at').map V.int := by
  unfold cutV
  rw [e, HT.sIx_none, HT.sIx_nat, List.length_map, Nat.min_eq_left h, List.map_drop]
  exact List.take_of_length_le (by rw [List.length_drop, List.length_map]; exact Nat.le_refl _)
theorem rowShape_of {b : Bx} {ws ws' : List Int} {f f' size : Nat} {d : Bool} (h1 : ws'.sum = ws.sum) (h2 : rowM ws' f' size = rowM ws f size) : rowShape b ws' f' size d = rowShape b ws f size d := by
  unfold rowShape
  rw [h1, h2]
theorem sum_erase : ∀ {xs : List Int} {k : Nat} {y : Int}, xs[k]? = some y → (xs.eraseIdx k).sum + y = xs.sum
  | [], k, y, h => by simp at h
  | x :: r, 0, y, h => by
    cases h
    rw [List.eraseIdx_cons_zero, List.sum_cons]
    omega
  | x :: r, k + 1, y, h => by
    rw [List.getElem?_cons_succ] at h
    have ih := sum_erase h
    rw [List.eraseIdx_cons_succ, List.sum_cons, List.sum_cons]
    omega
theorem map_erase (xs : List Int) (k : Nat) : (xs.map V.int).eraseIdx k = (xs.eraseIdx k).map V.int := by
  induction xs generalizing k with
  | nil => rfl
  | cons x r ih =>
    cases k with
    | zero => rfl
    | succ k => rw [List.map_cons, List.eraseIdx_cons_succ, List.eraseIdx_cons_succ, List.map_cons, ih]
end Cc
namespace Cc
open PySem PySem.Spec PyProof.Rows L2
/-! ### a dict of shapes, by the rows' ends -/
theorem u1 {n : Nat} (h : n + 64 < cLine) : n + 1 < cLine := by omega
def ky (i j : Nat) : List Key := [.inl (i : Int), .inl (j : Int)]
theorem ky_inj {i j i' j' : Nat} (h : ky i j = ky i' j') : i = i' ∧ j = j' := by
  unfold ky at h
  simp only [List.cons.injEq, Sum.inl.injEq, Int.natCast_inj, and_true] at h
  exact h
/-- all rows of n things -/
def AllR (n : Nat) (i j : Nat) : Prop := i < j ∧ j ≤ n
def DSh (K : PySem.W.Frag) (N : Nat) (C : Nat → Nat → Prop) (f : Nat → Nat → Rat) (m : Nat) (H : Hp) (a : Addr) : Prop := ∃ kvs : List (List Key × V), H a = some (.dT kvs) ∧ kvs.length ≤ m ∧ (∀ kv ∈ kvs, ∃ i j, kv.1 = ky i j ∧ AllR N i j) ∧ ∀ i j, C i j → ∃ v, valV kvs (ky i j) = some v ∧ PtV K H v (f i j)
section
variable {K : PySem.W.Frag} {C : Nat → Nat → Prop} {f : Nat → Nat → Rat} {m N : Nat} {H H' : Hp} {a : Addr}
theorem DSh.same (x : DSh K N C f m H a) (e : Same H H') : DSh K N C f m H' a := by
  obtain ⟨kvs, h1, h2, hk, h3⟩ := x
  refine ⟨kvs, e _ _ h1, h2, hk, fun i j c => ?_⟩
  obtain ⟨v, h4, h5⟩ := h3 i j c
  exact ⟨v, h4, h5.same e⟩
theorem DSh.ne (x : DSh K N C f m H a) {b : Addr} {ys : List V} (hb : H b = some (.lst ys)) : a ≠ b := fun z => by
  obtain ⟨kvs, h1, _⟩ := x
  rw [z, hb] at h1
  cases h1
theorem DSh.bag {b : Addr} (x : DSh K N C f m H a) (e : Kp b H H') (hb : Bag H b) : DSh K N C f m H' a := by
  obtain ⟨ys, hy⟩ := hb.lst
  have hn := x.ne hy
  obtain ⟨kvs, h1, h2, hk, h3⟩ := x
  refine ⟨kvs, e _ _ h1 hn, h2, hk, fun i j c => ?_⟩
  obtain ⟨v, h4, h5⟩ := h3 i j c
  exact ⟨v, h4, h5.bag e hb⟩
theorem DSh.mono {C' : Nat → Nat → Prop} {m' : Nat} (x : DSh K N C f m H a) (h : ∀ i j, C' i j → C i j) (hm : m ≤ m') : DSh K N C' f m' H a := by
  obtain ⟨kvs, h1, h2, hk, h3⟩ := x
  exact ⟨kvs, h1, Nat.le_trans h2 hm, hk, fun i j c => h3 i j (h i j c)⟩
theorem seqT_kpD {b a : Addr} {xs : List V} {kvs : List (List Key × V)} (e : Kp b H H') (hb : H b = some (.dT kvs)) (h : SqT K H a xs) : SqT K H' a xs := by
  rcases h with (h | ⟨o, h⟩) | h
  · exact .inl (.inl (e _ _ h (ne_of h hb (by intro z; cases z))))
  · exact .inl (.inr ⟨o, e _ _ h (ne_of h hb (by intro z; cases z))⟩)
  · exact .inr h
theorem PtV.kpD {b : Addr} {kvs : List (List Key × V)} {v : V} {q : Rat} (h : PtV K H v q) (e : Kp b H H') (hb : H b = some (.dT kvs)) : PtV K H' v q := by
  obtain ⟨a, rfl, h⟩ := h
  exact ⟨a, rfl, seqT_kpD e hb h⟩
theorem putK_len' {kvs : List (List Key × V)} {k : List Key} {v : V} : (putK kvs k v).length ≤ kvs.length + 1 := by
  unfold putK
  split
  · rw [List.length_map]
    omega
  · rw [List.length_append]
    exact Nat.le_refl _
/-- one shape more -/
theorem mem_putK {kvs : List (List Key × V)} {k : List Key} {v : V} {kv : List Key × V} (h : kv ∈ putK kvs k v) : kv.1 = k ∨ kv.1 ∈ kvs.map (·.1) := by
  unfold putK at h
  split at h
  · obtain ⟨y, hy, e⟩ := List.mem_map.mp h
    by_cases z : y.1 = k
    · rw [if_pos z] at e
      rw [← e]
      first | exact .inl rfl | exact .inl z
    · rw [if_neg z] at e
      rw [← e]
      exact .inr (List.mem_map.mpr ⟨y, hy, rfl⟩)
  · rcases List.mem_append.mp h with h | h
    · exact .inr (List.mem_map.mpr ⟨kv, h, rfl⟩)
    · rw [List.mem_singleton.mp h]
      exact .inl rfl
theorem DSh.put {i j : Nat} {v : V} (x : DSh K N C f m H a) (hN : AllR N i j) (hm : m < 900) (hv : PtV K H v (f i j)) (p : Addr) (hp : H p = some (.tup [.int i, .int j])) :
    ∃ H4, DPut H a (.ref p) v H4 ∧ Kp a H H4 ∧ DSh K N (fun i' j' => C i' j' ∨ (i' = i ∧ j' = j)) f (m + 1) H4 a := by
  obtain ⟨kvs, h1, h2, hk, h3⟩ := x
  refine ⟨upd H a (.dT (putK kvs (ky i j) v)), DPut.t h1 hp (small1000 (by omega)), Kp.upd, _, upd_same, Nat.le_trans putK_len' (by omega), fun kv hkv => ?_, fun i' j' c => ?_⟩
  · rcases mem_putK hkv with e | e
    · exact ⟨i, j, e, hN⟩
    · obtain ⟨kv', h4, h5⟩ := List.mem_map.mp e
      obtain ⟨i', j', h6, h7⟩ := hk kv' h4
      exact ⟨i', j', by rw [← h5]; exact h6, h7⟩
  rw [valV_put]
  by_cases e : ky i' j' = ky i j
  · obtain ⟨rfl, rfl⟩ := ky_inj e
    rw [if_pos rfl]
    exact ⟨v, rfl, hv.kpD Kp.upd h1⟩
  · rw [if_neg e]
    rcases c with c | ⟨rfl, rfl⟩
    · obtain ⟨w, h4, h5⟩ := h3 i' j' c
      exact ⟨w, h4, h5.kpD Kp.upd h1⟩
    · exact absurd rfl e
/-- a shape looked up -/
theorem DSh.get {i j : Nat} (x : DSh K N C f m H a) (c : C i j) (p : Addr) (hp : H p = some (.tup [.int i, .int j])) : ∃ v, DGet H a (.ref p) (some v) ∧ PtV K H v (f i j) := by
  obtain ⟨kvs, h1, h2, hk, h3⟩ := x
  obtain ⟨v, h4, h5⟩ := h3 i j c
  refine ⟨v, ?_, h5⟩
  rw [← h4]
  exact DGet.t h1 hp
end
def fSh (b : Bx) (ws : List Int) (d : Bool) (i j : Nat) : Rat := rowShape b ws i (j - i) d
@[irreducible] def spShapes (K : PySem.W.Frag) : Sp := fun vs H Q _ => ∃ (v : V) (a : Addr) (b : Bx) (ws : List Int) (d : Bool), vs = [v, .ref a, .str (sd d)] ∧ BxV K H v b ∧ b.Ok 450 ∧ SqL K H a (ws.map V.int) ∧ WOk ws ∧ ∀ D H', H D = none → Same H H' → DSh K ws.length (AllR ws.length) (fSh b ws d) 200 H' D → Q (.ref D) H'
theorem shapes_step {K : PySem.W.Frag} {H : Hp} {a : Addr} {ws : List Int} {Q : VK} {E : XK} {vs : List V} {b : Bx} {v : V} {d : Bool} {n : Nat} (hv : BxV K H v b) (hb : b.Ok n) (hn : n ≤ 450) (h : SqL K H a (ws.map V.int)) (hw : WOk ws) (q : ∀ D H', H D = none → Same H H' → DSh K ws.length (AllR ws.length) (fSh b ws d) 200 H' D → Q (.ref D) H') (hvs : vs = [v, .ref a, .str (sd d)] := by rfl) : spShapes K vs H Q E := by
  unfold spShapes
  exact ⟨v, a, b, ws, d, hvs, hv, hb.mono hn, h, hw, q⟩
@[irreducible] def spShapesI (K : PySem.W.Frag) : Sp := fun vs H Q _ => ∃ (v : V) (a : Addr) (b : Bx) (ws : List Int) (d : Bool), vs = [v, .ref a, .str (sd d)] ∧ BxV K H v b ∧ b.Ok 450 ∧ IntsV K H a ws ∧ WOk ws ∧ ∀ D H', H D = none → Same H H' → DSh K ws.length (AllR ws.length) (fSh b ws d) 200 H' D → Q (.ref D) H'
theorem shapesI_step {K : PySem.W.Frag} {H : Hp} {a : Addr} {ws : List Int} {Q : VK} {E : XK} {vs : List V} {b : Bx} {v : V} {d : Bool} {n : Nat} (hv : BxV K H v b) (hb : b.Ok n) (hn : n ≤ 450) (h : IntsV K H a ws) (hw : WOk ws) (q : ∀ D H', H D = none → Same H H' → DSh K ws.length (AllR ws.length) (fSh b ws d) 200 H' D → Q (.ref D) H') (hvs : vs = [v, .ref a, .str (sd d)] := by rfl) : spShapesI K vs H Q E := by
  unfold spShapesI
  exact ⟨v, a, b, ws, d, hvs, hv, hb.mono hn, h, hw, q⟩
/-! ### greedy sizes -/
def gEnd (f : Nat → Nat → Rat) (n b e : Nat) : Nat := if e < n ∧ ¬ f b e < f b (e + 1) then gEnd f n b (e + 1) else e
termination_by n - e
theorem gEnd_go {f : Nat → Nat → Rat} {n b e : Nat} (h : e < n ∧ ¬ f b e < f b (e + 1)) : gEnd f n b e = gEnd f n b (e + 1) := by
  rw [gEnd, if_pos h]
theorem gEnd_stop {f : Nat → Nat → Rat} {n b e : Nat} (h : ¬ (e < n ∧ ¬ f b e < f b (e + 1))) : gEnd f n b e = e := by
  rw [gEnd, if_neg h]
theorem gEnd_ge (f : Nat → Nat → Rat) (n b : Nat) : ∀ k e, n - e ≤ k → e ≤ gEnd f n b e
  | 0, e, h => by
    rw [gEnd_stop (by omega)]
    exact Nat.le_refl _
  | k + 1, e, h => by
    by_cases c : e < n ∧ ¬ f b e < f b (e + 1)
    · rw [gEnd_go c]
      have := gEnd_ge f n b k (e + 1) (by omega)
      omega
    · rw [gEnd_stop c]
      exact Nat.le_refl _
theorem gEnd_le (f : Nat → Nat → Rat) (n b : Nat) : ∀ k e, n - e ≤ k → e ≤ n → gEnd f n b e ≤ n
  | 0, e, h, h2 => by
    rw [gEnd_stop (by omega)]
    exact h2
  | k + 1, e, h, h2 => by
    by_cases c : e < n ∧ ¬ f b e < f b (e + 1)
    · rw [gEnd_go c]
      exact gEnd_le f n b k (e + 1) (by omega) (by omega)
    · rw [gEnd_stop c]
      exact h2
def greedyL (f : Nat → Nat → Rat) (n b : Nat) : List Int := if b < n then ((gEnd f n b (b + 1) - b : Nat) : Int) :: greedyL f n (gEnd f n b (b + 1)) else []
termination_by n - b
decreasing_by
  have := gEnd_ge f n b (n - (b + 1)) (b + 1) (Nat.le_refl _)
  omega
theorem greedyL_go {f : Nat → Nat → Rat} {n b : Nat} (h : b < n) : greedyL f n b = ((gEnd f n b (b + 1) - b : Nat) : Int) :: greedyL f n (gEnd f n b (b + 1)) := by
  rw [greedyL, if_pos h]
theorem greedyL_stop {f : Nat → Nat → Rat} {n b : Nat} (h : ¬ b < n) : greedyL f n b = [] := by
  rw [greedyL, if_neg h]
/-- greedy sizes are sizes -/
theorem greedy_ok (f : Nat → Nat → Rat) (n : Nat) : ∀ k b, n - b ≤ k → b ≤ n → (∀ x ∈ greedyL f n b, 1 ≤ x) ∧ (greedyL f n b).sum = (n : Int) - b
  | 0, b, h, hb => by
    rw [greedyL_stop (by omega)]
    refine ⟨by simp, ?_⟩
    rw [List.sum_nil]
    omega
  | k + 1, b, h, hb => by
    by_cases c : b < n
    · have g1 := gEnd_ge f n b (n - (b + 1)) (b + 1) (Nat.le_refl _)
      have g2 := gEnd_le f n b (n - (b + 1)) (b + 1) (Nat.le_refl _) (by omega)
      obtain ⟨h1, h2⟩ := greedy_ok f n k (gEnd f n b (b + 1)) (by omega) g2
      rw [greedyL_go c]
      refine ⟨fun x hx => ?_, ?_⟩
      · rcases List.mem_cons.mp hx with rfl | hx
        · omega
        · exact h1 x hx
      · rw [List.sum_cons, h2]
        omega
    · rw [greedyL_stop c]
      refine ⟨by simp, ?_⟩
      rw [List.sum_nil]
      omega
theorem greedy_sok (f : Nat → Nat → Rat) (n : Nat) : SOk (greedyL f n 0) n := by
  obtain ⟨h1, h2⟩ := greedy_ok f n n 0 (by omega) (by omega)
  exact ⟨h1, by rw [h2]; omega⟩
@[irreducible] def spGreedy (K : PySem.W.Frag) : Sp := fun vs H Q _ => ∃ (v : V) (a : Addr) (b : Bx) (ws : List Int) (d : Bool), vs = [v, .ref a, .str (sd d)] ∧ BxV K H v b ∧ b.Ok 450 ∧ SqL K H a (ws.map V.int) ∧ WOk ws ∧ ∀ t H', Same H H' → H' t = some (.tup ((greedyL (fSh b ws d) ws.length 0).map V.int)) → Q (.ref t) H'
@[irreducible] def spLGreedy (K : PySem.W.Frag) : Sp := fun vs H Q _ => ∃ (D : Addr) (n : Nat) (f : Nat → Nat → Rat) (m : Nat), vs = [.ref D, .int n] ∧ DSh K n (AllR n) f m H D ∧ n ≤ 12 ∧ (∀ i j, AllR n i j → Sz 3900 (f i j)) ∧ ∀ t H', Same H H' → H' t = some (.tup ((greedyL f n 0).map V.int)) → Q (.ref t) H'
section
variable {K : PySem.W.Frag} {H : Hp} {a : Addr} {ws : List Int} {Q : VK} {E : XK} {vs : List V} {b : Bx} {v : V} {d : Bool} {n m : Nat}
theorem greedy_step (hv : BxV K H v b) (hb : b.Ok n) (hn : n ≤ 450) (h : SqL K H a (ws.map V.int)) (hw : WOk ws) (q : ∀ t H', Same H H' → H' t = some (.tup ((greedyL (fSh b ws d) ws.length 0).map V.int)) → Q (.ref t) H') (hvs : vs = [v, .ref a, .str (sd d)] := by rfl) : spGreedy K vs H Q E := by
  unfold spGreedy
  exact ⟨v, a, b, ws, d, hvs, hv, hb.mono hn, h, hw, q⟩
theorem lgreedy_step {D : Addr} {f : Nat → Nat → Rat} (h : DSh K n (AllR n) f m H D) (hn : n ≤ 12) (hz : ∀ i j, AllR n i j → Sz 3900 (f i j)) (q : ∀ t H', Same H H' → H' t = some (.tup ((greedyL f n 0).map V.int)) → Q (.ref t) H') (hvs : vs = [.ref D, .int n] := by rfl) : spLGreedy K vs H Q E := by
  unfold spLGreedy
  exact ⟨D, n, f, m, hvs, h, hn, hz, q⟩
end
theorem sz_fSh {b : Bx} {ws : List Int} {n : Nat} (hb : b.Ok n) (hW : WOk ws) (d : Bool) (hn : n ≤ 450) : ∀ i j, AllR ws.length i j → Sz 3900 (fSh b ws d i j) := fun i j h => by
  have h1 := h.1
  have h2 := h.2
  exact (sz_rowShape hb hW (by omega) (by omega) d).mono (by omega)
theorem same_kp {H H3 H4 : Hp} {F : Addr} (nF : H F = none) (s : Same H H3) (k : Kp F H3 H4) : Same H H4 := fun b u e => k b u (s b u e) (ne_of_none e nF)
/-- the shape of a thing of a row, as a law reckons it -/
theorem shp_own {L W : Rat} {R T x : Int} (hL : 0 < L) (hW : 0 < W) (hR : 0 < R) (hT : 0 < T) (hx : 0 < x) :
    gr ((L * Rat.divInt R T) / (W * Rat.divInt x R)) ((W * Rat.divInt x R) / (L * Rat.divInt R T)) = shpX (W / L * Rat.divInt T (R * R)) x := by
  have r0 := int_pos hR
  have t0 := int_pos hT
  have rr := Int.mul_pos hR hR
  have mulr : ∀ {a c : Int}, 0 < c → Rat.divInt a c * (c : Rat) = (a : Rat) := fun {a c} h => by
    have := int_pos h
    rw [Rat.divInt_eq_div, Rat.div_def, Rat.mul_assoc, Rat.inv_mul_cancel _ (by grind), Rat.mul_one]
  have e3 : Rat.divInt T (R * R) * ((R : Rat) * (R : Rat)) = (T : Rat) := by
    have := mulr (a := T) rr
    rw [Rat.intCast_mul] at this
    exact this
  obtain ⟨f1, f2⟩ := shp_form hW hL (divInt_pos hR hT) (divInt_pos hx hR) r0 (mulr hR) (mulr hT) e3
  unfold shpX
  rw [f1, f2, gr_comm]
end Cc
namespace Cc
open PySem PySem.Spec PyProof.Rows L2
/-! ### t * 1 is t -/
theorem tuple_mul1 (l : Addr) (items : Array Value) (n : Nat) (dd : Option Addr) (sl : Array (Option Value)) (u : Tok) :
    Meets (Builtin.«tuple.__mul__» ⟨[.ref l, .int 1 u], []⟩) (fun _ R s => s.heap.get? l = some { cls := .type "tuple", dict := dd, data := .seq items n, slots := sl } ∧ R (.ok (.ret (Value.ref l))) s) :=
  .of_wp fun prog w A R s h => by
    obtain ⟨hp, g, d, tk, os⟩ := s
    obtain ⟨hl, h⟩ := h
    have f1 := AutoSeq1.idx_int
    have c1 : (items.isEmpty || (1 : Int) == 1) = true := by simp
    wp_walk using wpAny_loadPart' hl
    repeat (first
      | (refine wpAny_ite_true (decide_eq_true (by rw [c1])) ?_; wp_walk using wpAny_loadPart' hl)
      | (refine wpAny_ite_true (by rw [c1]) ?_; wp_walk using wpAny_loadPart' hl))
    exact ⟨_, rfl, h⟩
def rRepT1 (K : PySem.W.Frag) : R2 := fun x y H Q => ∃ l xs, x = .ref l ∧ y = .int 1 ∧ SqT K H l xs ∧ Q (.ref l) H
theorem op_repT1 {X : Cx} : OpR X (binaryOp .Mult) (rRepT1 X.K) := by
  intro pins s σ H x y v u Q I rx ry h
  obtain ⟨l, xs, rfl, rfl, hT, q⟩ := h
  cases rx
  obtain ⟨t, rfl⟩ := ry
  obtain ⟨its, r, ⟨⟨cls, dd, data, sl⟩, ho, hc, n, hd⟩, hs⟩ := I.tuple hT
  simp only at hc hd
  subst hc hd
  refine wpAny_binaryOp_repeat_ref (T := "tuple") (U := "int") (by decide) ⟨_, ho, rfl⟩ (fun s' => typeIs_int s' 1 t) noFill_tuple_mul F.fills_int_mul F.slot_int_rmul repeat_tuple F.slot_int_index.lookup
    (call_meets F.slot_int_rmul (typeIs_int s 1 t) F.entry_int_rmul (F.args_int_rmul_2 _ _) (int_rmul_tuple 1 t l its.toArray n dd sl)
      ⟨ho, rfl, ⟨_, ho, rfl⟩, call_meets F.slot_tuple_mul ⟨_, ho, rfl⟩ F.entry_tuple_mul (F.args_tuple_mul_2 _ _) (tuple_mul1 l its.toArray n dd sl t) ⟨ho, ?_⟩⟩)
  exact ⟨.ref l, H, I, rfl, q⟩
theorem op_or2 {X : Cx} {f : Value → Value → Sem Value} {r1 r2 : R2} (h1 : OpR X f r1) (h2 : OpR X f r2) : OpR X f (fun x y H Q => r1 x y H Q ∨ r2 x y H Q) := by
  intro pins s σ H x y v u Q I rx ry h
  rcases h with h | h
  · exact h1 pins s σ H x y v u Q I rx ry h
  · exact h2 pins s σ H x y v u Q I rx ry h
/-! ### the least of parts -/
def leastL (qs : List Rat) : Rat := qs.foldl ls (qs.headD 0)
theorem ls_or (x y : Rat) : ls x y = x ∨ ls x y = y := by
  unfold ls
  split
  · exact .inl rfl
  · exact .inr rfl
theorem ls_le (x y : Rat) : ls x y ≤ x ∧ ls x y ≤ y := by
  unfold ls
  split <;> constructor <;> grind
theorem foldl_ls_mem : ∀ (l : List Rat) (x : Rat), l.foldl ls x = x ∨ l.foldl ls x ∈ l
  | [], _ => .inl rfl
  | y :: r, x => by
    rw [List.foldl_cons]
    rcases foldl_ls_mem r (ls x y) with h | h
    · rcases ls_or x y with e | e
      · exact .inl (h.trans e)
      · rw [h, e]
        exact .inr List.mem_cons_self
    · exact .inr (List.mem_cons_of_mem _ h)
theorem foldl_ls_le : ∀ (l : List Rat) (x : Rat), l.foldl ls x ≤ x ∧ ∀ q ∈ l, l.foldl ls x ≤ q
  | [], x => ⟨by rw [List.foldl_nil]; exact Rat.le_refl, fun q hq => by cases hq⟩
  | y :: r, x => by
    have ih := foldl_ls_le r (ls x y)
    have g := ls_le x y
    rw [List.foldl_cons]
    refine ⟨Rat.le_trans ih.1 g.1, fun q hq => ?_⟩
    rcases List.mem_cons.mp hq with rfl | hq
    · exact Rat.le_trans ih.1 g.2
    · exact ih.2 q hq
theorem leastL_mem {qs : List Rat} (h : qs ≠ []) : leastL qs ∈ qs := by
  cases qs with
  | nil => exact absurd rfl h
  | cons x r =>
    unfold leastL
    rw [List.headD_cons]
    rcases foldl_ls_mem (x :: r) x with e | e
    · rw [e]
      exact List.mem_cons_self
    · exact e
theorem leastL_le {qs : List Rat} {q : Rat} (h : q ∈ qs) : leastL qs ≤ q := (foldl_ls_le qs _).2 q h
theorem least_take {qs : List Rat} {i : Nat} {q x : Rat} (h : qs[i]? = some q) : (qs.take (i + 1)).foldl ls x = ls ((qs.take i).foldl ls x) q := by
  rw [List.take_add_one, h, List.foldl_append]
  rfl
theorem least_take_mem {qs : List Rat} {i : Nat} (h : qs ≠ []) : (qs.take i).foldl ls (qs.headD 0) ∈ qs := by
  rcases foldl_ls_mem (qs.take i) (qs.headD 0) with e | e
  · rw [e]
    cases qs with
    | nil => exact absurd rfl h
    | cons x r => exact List.mem_cons_self
  · exact List.mem_of_mem_take e
@[irreducible] def spLeastOf (K : PySem.W.Frag) : Sp := fun vs H Q _ => ∃ (L : Addr) (us : List V) (qs : List Rat), vs = [.ref L] ∧ SqL K H L us ∧ Al (PtV K H) us qs ∧ qs ≠ [] ∧ (∀ q ∈ qs, Sz 3900 q) ∧ ∀ u H', Same H H' → PtV K H' u (leastL qs) → Q u H'
theorem leastof_step {K : PySem.W.Frag} {H : Hp} {Q : VK} {E : XK} {vs : List V} {n : Nat} {L : Addr} {us : List V} {qs : List Rat} (hL : SqL K H L us) (hA : Al (PtV K H) us qs) (h0 : qs ≠ []) (hz : ∀ q ∈ qs, Sz n q) (hn : n ≤ 3900) (q : ∀ u H', Same H H' → PtV K H' u (leastL qs) → Q u H') (hvs : vs = [.ref L] := by rfl) : spLeastOf K vs H Q E := by
  unfold spLeastOf
  exact ⟨L, us, qs, hvs, hL, hA, h0, fun q hq => (hz q hq).mono hn, q⟩
/-! ### the least worst shape behind each place -/
structure Bst (f : Nat → Nat → Rat) (n i : Nat) (g : Nat → Rat) : Prop where
  e : g n = 1
  hit : ∀ b, i ≤ b → b < n → ∃ e, b < e ∧ e ≤ n ∧ g b = gr (f b e) (g e)
  le : ∀ b, i ≤ b → b < n → ∀ e, b < e → e ≤ n → g b ≤ gr (f b e) (g e)
theorem Bst.mono {f : Nat → Nat → Rat} {n i j : Nat} {g : Nat → Rat} (h : Bst f n i g) (hij : i ≤ j) : Bst f n j g := ⟨h.e, fun b h1 h2 => h.hit b (by omega) h2, fun b h1 h2 => h.le b (by omega) h2⟩
/-- sizes have no lesser worst shape -/
theorem Bst.low {f : Nat → Nat → Rat} {n : Nat} {g : Nat → Rat} {ss : List Int} {M : Rat} (h : Bst f n 0 g) (hS : SOk ss n) (h1 : 1 ≤ M) (hM : ∀ j, j < ss.length → f (off ss j) (off ss (j + 1)) ≤ M) : ∀ k, k ≤ ss.length → g (off ss (ss.length - k)) ≤ M
  | 0, _ => by
    rw [Nat.sub_zero, hS.off_len, h.e]
    exact h1
  | k + 1, hk => by
    have ih := Bst.low h hS h1 hM k (by omega)
    have hj : ss.length - (k + 1) < ss.length := by omega
    have e : ss.length - k = ss.length - (k + 1) + 1 := by omega
    have hs := hS.off_succ hj
    have hg := hS.getD hj
    have hl := hS.off_le (ss.length - (k + 1) + 1)
    rw [e] at ih
    have h2 := h.le (off ss (ss.length - (k + 1))) (by omega) (by omega) (off ss (ss.length - (k + 1) + 1)) (by omega) hl
    have h3 := hM (ss.length - (k + 1)) hj
    rcases gr_or (f (off ss (ss.length - (k + 1))) (off ss (ss.length - (k + 1) + 1))) (g (off ss (ss.length - (k + 1) + 1))) with e2 | e2
    · rw [e2] at h2
      exact Rat.le_trans h2 h3
    · rw [e2] at h2
      exact Rat.le_trans h2 ih
theorem shpX_ge {g : Rat} {x : Int} (h : 0 < g * (x : Rat)) : 1 ≤ shpX g x := by
  unfold shpX
  have g1 := gr_ge (g * (x : Rat)) (1 / (g * (x : Rat)))
  by_cases e : 1 ≤ g * (x : Rat)
  · exact Rat.le_trans e g1.1
  · have h2 := inv_le h (show g * (x : Rat) ≤ 1 by grind)
    have e1 : (1 : Rat) / 1 = 1 := by rw [Rat.div_def]; grind
    rw [e1] at h2
    exact Rat.le_trans h2 g1.2
theorem rowShape_ge {b : Bx} {ws : List Int} {first size n : Nat} (hb : b.Ok n) (hW : WOk ws) (h0 : 1 ≤ size) (h : first + size ≤ ws.length) (d : Bool) : 1 ≤ rowShape b ws first size d := by
  have hr := rowM_ok hW h0 h
  have hl := hr.l0
  have hm : rowShape b ws first size d ∈ (rowM ws first size).map (shpX (gform b ws.sum (rowM ws first size) d)) := mostL_mem (fun z => by
    have z2 := congrArg List.length z
    rw [List.length_map, List.length_nil] at z2
    omega)
  obtain ⟨x, hx, e⟩ := List.mem_map.mp hm
  rw [← e]
  exact shpX_ge (Rat.mul_pos (gform_pos hb hW.sum.1 hr.sum.1 d) (int_pos (by have := hr.g.mem hx; omega)))
theorem Bst.worst {b : Bx} {ws ss : List Int} {m : Nat} {d : Bool} {g : Nat → Rat} (hb : b.Ok m) (hW : WOk ws) (h : Bst (fSh b ws d) ws.length 0 g) (hS : SOk ss ws.length) : ¬ worstM b ws ss d < g 0 := by
  have key : ∀ j, j < ss.length → fSh b ws d (off ss j) (off ss (j + 1)) = rowShape b ws (off ss j) (ss.getD j 0).toNat d := fun j hj => by
    unfold fSh
    rw [hS.off_succ hj, Nat.add_sub_cancel_left]
  have hM : ∀ j, j < ss.length → rowShape b ws (off ss j) (ss.getD j 0).toNat d ≤ worstM b ws ss d := fun j hj => by
    unfold worstM shapesM
    exact mostL_ge (List.mem_map.mpr ⟨j, List.mem_range.mpr hj, rfl⟩)
  have h0 := hS.ne hW.l0
  have hg := hS.getD (show 0 < ss.length by omega)
  have h1 : 1 ≤ worstM b ws ss d := Rat.le_trans (rowShape_ge hb hW (by omega) (hS.size_le (show 0 < ss.length by omega)) d) (hM 0 (by omega))
  have := Bst.low h hS h1 (fun j hj => by rw [key j hj]; exact hM j hj) ss.length (Nat.le_refl _)
  rw [Nat.sub_self] at this
  have e : off ss 0 = 0 := by simp [off]
  rw [e] at this
  grind
@[irreducible] def spLeastB (K : PySem.W.Frag) : Sp := fun vs H Q _ => ∃ (D : Addr) (n m : Nat) (f : Nat → Nat → Rat), vs = [.ref D, .int n] ∧ DSh K n (AllR n) f m H D ∧ n ≤ 12 ∧ (∀ i j, AllR n i j → Sz 3900 (f i j)) ∧ ∀ L us g H', H L = none → Same H H' → H' L = some (.lst us) → Bst f n 0 g → (∀ e, e ≤ n → Sz 3900 (g e) ∧ ∃ v, us[e]? = some v ∧ PtV K H' v (g e)) → Q (.ref L) H'
@[irreducible] def spLeast (K : PySem.W.Frag) : Sp := fun vs H Q _ => ∃ (v : V) (a : Addr) (b : Bx) (ws : List Int) (d : Bool), vs = [v, .ref a, .str (sd d)] ∧ BxV K H v b ∧ b.Ok 450 ∧ SqL K H a (ws.map V.int) ∧ WOk ws ∧ ∀ u g H', Same H H' → Bst (fSh b ws d) ws.length 0 g → Sz 3900 (g 0) → PtV K H' u (g 0) → Q u H'
section
variable {K : PySem.W.Frag} {H : Hp} {a : Addr} {ws : List Int} {Q : VK} {E : XK} {vs : List V} {b : Bx} {v : V} {d : Bool} {n m : Nat}
theorem leastb_step {D : Addr} {f : Nat → Nat → Rat} (h : DSh K n (AllR n) f m H D) (hn : n ≤ 12) (hz : ∀ i j, AllR n i j → Sz 3900 (f i j)) (q : ∀ L us g H', H L = none → Same H H' → H' L = some (.lst us) → Bst f n 0 g → (∀ e, e ≤ n → Sz 3900 (g e) ∧ ∃ v, us[e]? = some v ∧ PtV K H' v (g e)) → Q (.ref L) H') (hvs : vs = [.ref D, .int n] := by rfl) : spLeastB K vs H Q E := by
  unfold spLeastB
  exact ⟨D, n, m, f, hvs, h, hn, hz, q⟩
theorem least_step (hv : BxV K H v b) (hb : b.Ok n) (hn : n ≤ 450) (h : SqL K H a (ws.map V.int)) (hw : WOk ws) (q : ∀ u g H', Same H H' → Bst (fSh b ws d) ws.length 0 g → Sz 3900 (g 0) → PtV K H' u (g 0) → Q u H') (hvs : vs = [v, .ref a, .str (sd d)] := by rfl) : spLeast K vs H Q E := by
  unfold spLeast
  exact ⟨v, a, b, ws, d, hvs, hv, hb.mono hn, h, hw, q⟩
end
/-! ### what greedy sizes are like -/
theorem gEnd_no {f : Nat → Nat → Rat} {n b : Nat} : ∀ k e, n - e ≤ k → ∀ e', e ≤ e' → e' < gEnd f n b e → ¬ f b e' < f b (e' + 1)
  | 0, e, h, e', h1, h2 => by
    rw [gEnd_stop (by omega)] at h2
    omega
  | k + 1, e, h, e', h1, h2 => by
    by_cases c : e < n ∧ ¬ f b e < f b (e + 1)
    · rw [gEnd_go c] at h2
      by_cases z : e' = e
      · rw [z]
        exact c.2
      · exact gEnd_no k (e + 1) (by omega) e' (by omega) h2
    · rw [gEnd_stop c] at h2
      omega
theorem gEnd_end {f : Nat → Nat → Rat} {n b : Nat} : ∀ k e, n - e ≤ k → gEnd f n b e < n → f b (gEnd f n b e) < f b (gEnd f n b e + 1)
  | 0, e, h, h2 => by
    rw [gEnd_stop (by omega)] at h2
    omega
  | k + 1, e, h, h2 => by
    by_cases c : e < n ∧ ¬ f b e < f b (e + 1)
    · rw [gEnd_go c] at h2 ⊢
      exact gEnd_end k (e + 1) (by omega) h2
    · rw [gEnd_stop c] at h2 ⊢
      by_cases z : f b e < f b (e + 1)
      · exact z
      · exact absurd ⟨h2, z⟩ c
theorem greedy_at (f : Nat → Nat → Rat) (n : Nat) : ∀ k b, n - b ≤ k → b ≤ n → ∀ j, j < (greedyL f n b).length → ∃ o : Nat, (o : Int) = b + ((greedyL f n b).take j).sum ∧ o < n ∧ (greedyL f n b).getD j 0 = ((gEnd f n o (o + 1) - o : Nat) : Int)
  | 0, b, h, hb, j, hj => by
    rw [greedyL_stop (by omega)] at hj
    simp at hj
  | k + 1, b, h, hb, j, hj => by
    by_cases c : b < n
    · have g1 := gEnd_ge f n b (n - (b + 1)) (b + 1) (Nat.le_refl _)
      have g2 := gEnd_le f n b (n - (b + 1)) (b + 1) (Nat.le_refl _) (by omega)
      rw [greedyL_go c] at hj ⊢
      cases j with
      | zero => exact ⟨b, by simp, c, rfl⟩
      | succ j =>
        rw [List.length_cons] at hj
        obtain ⟨o, h1, h2, h3⟩ := greedy_at f n k (gEnd f n b (b + 1)) (by omega) g2 j (by omega)
        refine ⟨o, ?_, h2, ?_⟩
        · rw [List.take_succ_cons, List.sum_cons, h1]
          omega
        · rw [List.getD_cons_succ]
          exact h3
    · rw [greedyL_stop c] at hj
      simp at hj
/-- sizes of one row; sizes of one each -/
theorem sok_one {n : Nat} (h : 1 ≤ n) : SOk [(n : Int)] n := ⟨fun x hx => by rw [List.mem_singleton.mp hx]; omega, by simp⟩
theorem sok_ones : ∀ n : Nat, SOk (List.replicate n (1 : Int)) n
  | 0 => ⟨by simp, by simp⟩
  | n + 1 => by
    obtain ⟨h1, h2⟩ := sok_ones n
    refine ⟨fun x hx => ?_, ?_⟩
    · rw [List.replicate_succ] at hx
      rcases List.mem_cons.mp hx with rfl | hx
      · decide
      · exact h1 x hx
    · rw [List.replicate_succ, List.sum_cons, h2]
      omega
theorem rep1 {α : Type} (x : α) : ∀ k : Nat, (List.replicate k [x]).flatten = List.replicate k x
  | 0 => rfl
  | k + 1 => by
    rw [List.replicate_succ, List.flatten_cons, rep1 x k, List.replicate_succ]
    rfl
theorem ixN_n {n j : Nat} (hj : j < n) : ixN n (j : Int) = some j := by
  unfold ixN
  rw [if_pos (by omega), if_pos (by omega)]
  simp
/-- (1,) * n -/
def rOnes (K : PySem.W.Frag) : R2 := fun x y H Q => ∃ (l : Addr) (n : Nat), x = .ref l ∧ y = .int n ∧ SqT K H l [.int 1] ∧ 1 ≤ n ∧ n ≤ 1000 ∧ ∀ p H', Same H H' → SqT K H' p ((List.replicate n (1 : Int)).map V.int) → Q (.ref p) H'
theorem op_ones {X : Cx} : OpR X (binaryOp .Mult) (rOnes X.K) := by
  intro pins s σ H x y v u Q I rx ry h
  obtain ⟨l, n, rfl, rfl, hT, h0, h1, q⟩ := h
  by_cases e : n = 1
  · subst e
    exact op_repT1 pins s σ H _ _ v u Q I rx ry ⟨l, _, rfl, rfl, hT, q l H (Same.refl H) hT⟩
  · refine op_repT pins s σ H _ _ v u Q I rx ry ⟨l, n, [.int 1], rfl, rfl, hT, by simp, by omega, by omega, by simp, fun p np => ?_⟩
    refine q p _ (same_new np) ?_
    rw [show ((n : Nat) : Int).toNat = n from rfl, rep1, show (List.replicate n (1 : Int)).map V.int = List.replicate n (V.int 1) from List.map_replicate]
    exact SqT.of upd_same
theorem ne_bl {x y : V} (h : x = y) : V.bl (!decide (x = y)) = V.bl false := by
  subst h
  simp
theorem atI_neg1 {α : Type} {xs : List α} {v : α} (h : xs[xs.length - 1]? = some v) : atI xs (-1) = some v := by
  have hl := (List.getElem?_eq_some_iff.mp h).1
  have e : xs = xs.dropLast ++ [v] := by
    have hne : xs ≠ [] := fun z => by
      rw [z] at hl
      simp at hl
    have h2 := List.dropLast_concat_getLast hne
    rw [List.getLast_eq_getElem] at h2
    rw [List.getElem?_eq_getElem hl] at h
    rw [Option.some.inj h] at h2
    exact h2.symm
  rw [e]
  exact atI_last _ _
theorem any_false (n : Nat) : (List.replicate n false).any id = false := by
  induction n with
  | zero => rfl
  | succ n ih => rw [List.replicate_succ, List.any_cons, ih]; rfl
end Cc
namespace Cc
open PySem PySem.Spec PyProof.Rows L2
/-! ### max(t), min(t), t a tuple of ints -/
section
variable {X : Cx}
def rMaxA (K : PySem.W.Frag) : List V → Hp → VK → Prop := fun vs H Q => ∃ (a : Addr) (ns : List Int), vs = [V.ref a] ∧ IntsV K H a ns ∧ 0 < ns.length ∧ ∀ m, m ∈ ns → (∀ y, y ∈ ns → y ≤ m) → Q (.int m) H
def rMinA (K : PySem.W.Frag) : List V → Hp → VK → Prop := fun vs H Q => ∃ (a : Addr) (ns : List Int), vs = [V.ref a] ∧ IntsV K H a ns ∧ 0 < ns.length ∧ ∀ m, m ∈ ns → (∀ y, y ∈ ns → m ≤ y) → Q (.int m) H
theorem nth_in {ns : List Int} {k : Nat} (h : k < ns.length) : nth ns k ∈ ns := by
  rw [nth_get h]
  exact List.getElem_mem h
theorem in_nth {ns : List Int} {y : Int} (h : y ∈ ns) : ∃ k, k < ns.length ∧ nth ns k = y := by
  obtain ⟨k, hk, e⟩ := List.getElem_of_mem h
  exact ⟨k, hk, by rw [nth_get hk, e]⟩
theorem cr_maxA (hc : X.calm = true) : CallR X (.builtin "max") (rMaxA X.K) := fun pins s σ H vs us Q I r ⟨a, ns, ev, hs, hne, q⟩ => by
  subst ev
  rcases hs with hs | hs
  · exact cr_max hc pins s σ H _ us Q I r ⟨a, ns, rfl, hs, hne, q⟩
  obtain ⟨its, rv, hl, _⟩ := I.tuple hs
  have len := ints_len rv
  rw [Vals.ref1 r]
  refine call_max_walkH (PySem.W.iter_tupleW (A := X.A.in1) (I.ok.hd hc) hl fun s2 e W st hb hw hk => ?_)
  refine ⟨_, _, _, _, _, _, _, s.heap, fun i j => decide (nth ns i > nth ns j), rfl, W, st, hb, by rw [len]; exact hne, hw, hk, fun i j vi vj z P F _ hi hj => CmpOf.ints_gt (nth ns) (ints_at rv) i j vi vj z P F hi hj, fun v s' hv m => ?_⟩
  obtain ⟨h', tk, rfl, old⟩ := PySem.W.moved_old e rfl m
  obtain ⟨t, rfl⟩ := ints_at rv _ v hv
  have b := argBest_gt (nth ns) (its.toArray.size - 1)
  refine ⟨.int _, H, I.kept old, ⟨t, rfl⟩, q _ (nth_in (by omega)) fun y hy => ?_⟩
  obtain ⟨k, hk, rfl⟩ := in_nth hy
  exact b.2 k (by omega)
theorem cr_minA (hc : X.calm = true) : CallR X (.builtin "min") (rMinA X.K) := fun pins s σ H vs us Q I r ⟨a, ns, ev, hs, hne, q⟩ => by
  subst ev
  rcases hs with hs | hs
  · exact cr_min hc pins s σ H _ us Q I r ⟨a, ns, rfl, hs, hne, q⟩
  obtain ⟨its, rv, hl, _⟩ := I.tuple hs
  have len := ints_len rv
  rw [Vals.ref1 r]
  refine call_min_walkH (PySem.W.iter_tupleW (A := X.A.in1) (I.ok.hd hc) hl fun s2 e W st hb hw hk => ?_)
  refine ⟨_, _, _, _, _, _, _, s.heap, fun i j => decide (nth ns i < nth ns j), rfl, W, st, hb, by rw [len]; exact hne, hw, hk, fun i j vi vj z P F _ hi hj => CmpOf.ints_lt (nth ns) (ints_at rv) i j vi vj z P F hi hj, fun v s' hv m => ?_⟩
  obtain ⟨h', tk, rfl, old⟩ := PySem.W.moved_old e rfl m
  obtain ⟨t, rfl⟩ := ints_at rv _ v hv
  have b := argBest_lt (nth ns) (its.toArray.size - 1)
  refine ⟨.int _, H, I.kept old, ⟨t, rfl⟩, q _ (nth_in (by omega)) fun y hy => ?_⟩
  obtain ⟨k, hk, rfl⟩ := in_nth hy
  exact b.2 k (by omega)
end
/-! ### sorted(d), the keys of d pairs of ints -/
section
variable {prog : Program} {w : World} {A : Around} {E : Value → Shared → Prop} {s : Shared}
/-- sorted(x): x is something that can be collected, and what is collected can be sorted -/
theorem sorted_of {x : Value} {Q : Value → Shared → Prop} (P : List Value → Prop) (small : ∀ vs, P vs → vs.length ≤ sizeLine)
    (col : ∀ R : List Value → Shared → Prop, (∀ g t vs, (∀ b o, s.heap.get? b = some o → g.get? b = some o) → P vs → R vs { s with heap := g, toks := t }) → wpAny (model prog w) A.in1 (collect x) R E s)
    (ord : ∀ vs, P vs → 2 ≤ vs.length → ∀ (z : Shared) (a : Addr), z.heap.get? a = some (seqObj "list" vs.toArray 0) → (∀ b o, s.heap.get? b = some o → z.heap.get? b = some o) → Srt.Sortable prog w A.in1.in1 z a vs)
    (fin : ∀ (vs out : List Value) (g g2 : Heap) (t : Nat), P vs → out.Perm vs → (∀ b o, s.heap.get? b = some o → g.get? b = some o) → (∀ b o, g.get? b = some o → g2.get? b = some o) → (∃ n, g2.get? g.objs.size = some (seqObj "list" out.toArray n)) → Q (.ref g.objs.size) { s with heap := g2, toks := t }) :
    wpAny (model prog w) A (call (.builtin "sorted") [x]) Q E s := by
  apply Calls.call_function_entry kind_sorted plain_sorted entry_sorted (args_sorted1 x)
  unfold Builtin.«sorted»
  refine wpAny_bind (wpAny_pure (wpAny_bind (col _ fun g t vs old hp => wpAny_bind (wpAny_newList ?_ (small vs hp)))))
  have at0 : (g.push (seqObj "list" vs.toArray 0)).get? g.objs.size = some (seqObj "list" vs.toArray 0) := Heap.get?_push_size _ rfl
  have up : ∀ b o, s.heap.get? b = some o → (g.push (seqObj "list" vs.toArray 0)).get? b = some o := fun b o e => Heap.get?_push_of_some _ (old b o e)
  refine wpAny_bind (wpAny_holding (wpAny_call_entry slot_list_sort ⟨_, at0, rfl⟩ entry_list_sort (Srt.list_sort_any (s := { s with heap := g.push (seqObj "list" vs.toArray 0), toks := t }) at0 (small vs hp) (fun two => ord vs hp two _ _ at0 up) fun out perm => ⟨_, rfl, wpAny_pure ⟨_, rfl, ?_⟩⟩) (args_list_sort _)))
  refine fin vs out g _ t hp perm old (fun b o e => ?_) (sortedHeap_at at0)
  have lt := Heap.lt_size e
  rw [sortedHeap_old (Nat.ne_of_lt lt) (by rw [size_push']; exact Nat.lt_succ_of_lt lt)]
  exact Heap.get?_push_of_some _ e
theorem items_keys {es : Array DictEntry} {acc : Array Value} (it : ItemsOf (fun i v => ∃ en : DictEntry, es[i]? = some en ∧ v = en.key) acc es.size) : acc = es.map (·.key) := by
  refine Array.ext (by simpa using it.1) fun i h1 h2 => ?_
  obtain ⟨en, e1, e2⟩ := it.2 i acc[i] (Array.getElem?_eq_getElem h1)
  rw [Array.getElem?_eq_getElem (show i < es.size by simpa using h2)] at e1
  cases e1
  rw [e2, Array.getElem_map]
end
theorem pair_keys {H : Hp} : ∀ {kvs : List (List Key × V)} {bs : List Addr}, Paired (fun p b => H b = some (.tup (p.1.map kV))) kvs bs → (∀ kv ∈ kvs, ∃ i j : Int, kv.1 = [.inl i, .inl j]) → ∀ b ∈ bs, ∃ i j : Int, H b = some (.tup [.int i, .int j])
  | _, _, .nil, _, b, hb => nomatch hb
  | _, _, .cons h t, hq, b, hb => by
    cases hb with
    | head =>
      obtain ⟨i, j, e⟩ := hq _ (List.mem_cons_self ..)
      exact ⟨i, j, by rw [h, e]; rfl⟩
    | tail _ hb => exact pair_keys t (fun kv hkv => hq kv (List.mem_cons_of_mem _ hkv)) b hb
section
variable {X : Cx}
theorem call_sortedDT (hc : X.calm = true) : CallR X (.builtin "sorted") (fun xs H Q => ∃ (d : Addr) (kvs : List (List Key × V)), xs = [.ref d] ∧ Rd H d (.dT kvs) ∧ (∀ kv ∈ kvs, ∃ i j : Int, kv.1 = [.inl i, .inl j]) ∧
    ∀ (bs : List Addr) (ys : List V) (p : Addr), IsKeys H kvs bs → ys.Perm (bs.map V.ref) → H p = none → Q (.ref p) (upd H p (.lst ys))) := fun pins s σ H xs us Q I r ⟨d, kvs, ex, hd, hpair, q⟩ => by
  subst ex
  rw [Vals.ref1 r]
  obtain ⟨z, hs, ks, pr, o, es, ep, ho, hx, hdt, he, -⟩ := (show ObjOk X.prog X.w H s.heap d (.dT kvs) from hd.ok I.hok)
  have keys := isKeys_of pr
  have many : es.size ≤ sizeLine := by rw [size_of_entries he, ← Paired.length pr]; exact z
  have all := pair_keys keys hpair
  generalize hB : ks.map (fun x => x.2.1) = bs at keys all
  have hE : (es.map (·.key)).toList = bs.map Value.ref := by
    rw [← hB, Array.toList_map, he, List.map_map, List.map_map]
    rfl
  have cnt : (bs.map Value.ref).length ≤ sizeLine := by rw [← hE, Array.length_toList, Array.size_map]; exact many
  refine sorted_of (fun vs => vs = bs.map Value.ref) (fun vs e => e ▸ cnt) (fun R h => ?_) (fun vs e two y a ha up => ?_) fun vs out g g2 t e perm up up2 hg => ?_
  · exact PySem.W.kdu_collect (kdl_raw hs hx hdt) (I.ok.hd hc) ho many fun g t acc up it => h g t _ up (by rw [items_keys it, hE])
  · subst e
    refine Srt.pairs_sortable (by omega) (fun v hv => ?_) fun o' e' cl => ?_
    · obtain ⟨b, hb, rfl⟩ := List.mem_map.mp hv
      obtain ⟨i, j, hij⟩ := all b hb
      obtain ⟨_, cs, rc, oc, h1, h2, n, h3⟩ := I.hok _ _ hij
      obtain ⟨c1, c2, rfl, ⟨t1, rfl⟩, t2, rfl⟩ := vals2 rc
      exact ⟨i, j, b, oc, t1, t2, n, rfl, up _ _ h1, h2, h3⟩
    · rw [ha] at e'
      cases e'
      exact absurd (Value.type.inj cl) (by decide)
  · subst e
    have refs : ∀ u ∈ out, ∃ a, u = Value.ref a := fun u hu => by
      obtain ⟨b, -, rfl⟩ := List.mem_map.mp (perm.mem_iff.mp hu)
      exact ⟨b, rfl⟩
    obtain ⟨n, hg⟩ := hg
    have len : (out.map backV).length ≤ sizeLine := by rw [List.length_map, perm.length_eq]; exact cnt
    have I1 : Inv X pins σ H { s with heap := g } := I.kept (t' := s.toks) up
    refine ⟨.ref g.objs.size, upd H g.objs.size (.lst (out.map backV)), I1.laid (t' := t) up2 (Nat.le_refl _) (show ObjOk X.prog X.w _ _ _ (.lst (out.map backV)) from ⟨len, out, n, vals_back refs, hg⟩), rfl, q bs _ _ keys ?_ (I1.hok.fresh (Nat.le_refl _))⟩
    rw [show bs.map V.ref = (bs.map Value.ref).map backV by rw [List.map_map]; rfl]
    exact perm.map backV
end
/-! ### beginnings -/
def begL (f : Nat → Nat → Rat) (bound : Rat) : Nat → List Nat
  | 0 => [0]
  | k + 1 => if (begL f bound k).any (fun b => decide (f b (k + 1) < bound)) = true then begL f bound k ++ [k + 1] else begL f bound k
theorem begL_le (f : Nat → Nat → Rat) (bound : Rat) : ∀ k, ∀ b ∈ begL f bound k, b ≤ k
  | 0, b, h => by
    rw [show begL f bound 0 = [0] from rfl, List.mem_singleton] at h
    omega
  | k + 1, b, h => by
    rw [begL] at h
    split at h
    · rcases List.mem_append.mp h with h | h
      · have := begL_le f bound k b h
        omega
      · rw [List.mem_singleton] at h
        omega
    · have := begL_le f bound k b h
      omega
theorem begL_len (f : Nat → Nat → Rat) (bound : Rat) : ∀ k, (begL f bound k).length ≤ k + 1
  | 0 => Nat.le_refl _
  | k + 1 => by
    have ih := begL_len f bound k
    rw [begL]
    split
    · rw [List.length_append]
      show _ + 1 ≤ _
      omega
    · omega
def natV (xs : List Nat) : List V := xs.map fun i : Nat => V.int (i : Int)
@[irreducible] def spCheckB (K : PySem.W.Frag) : Sp := fun vs H Q _ => ∃ (v : V) (x : Rat), vs = [v] ∧ PtV K H v x ∧ Sz 3900 x ∧ ¬ x < 1 ∧ ∀ r H', Same H H' → r = V.non → Q r H'
@[irreducible] def spBegs (K : PySem.W.Frag) : Sp := fun vs H Q _ => ∃ (v u : V) (a : Addr) (b : Bx) (ws : List Int) (bound : Rat) (d : Bool), vs = [v, .ref a, u, .str (sd d)] ∧ BxV K H v b ∧ b.Ok 450 ∧ IntsV K H a ws ∧ WOk ws ∧ PtV K H u bound ∧ Sz 3900 bound ∧ ¬ bound < 1 ∧ ∀ L H', H L = none → Same H H' → H' L = some (.lst (natV (begL (fSh b ws d) bound ws.length))) → Q (.ref L) H'
@[irreducible] def spLBegs (K : PySem.W.Frag) : Sp := fun vs H Q _ => ∃ (u : V) (D : Addr) (n m : Nat) (f : Nat → Nat → Rat) (bound : Rat), vs = [.ref D, .int n, u] ∧ DSh K n (AllR n) f m H D ∧ n ≤ 12 ∧ (∀ i j, AllR n i j → Sz 3900 (f i j)) ∧ PtV K H u bound ∧ Sz 3900 bound ∧ ∀ L H', H L = none → Same H H' → H' L = some (.lst (natV (begL f bound n))) → Q (.ref L) H'
@[irreducible] def spBound (K : PySem.W.Frag) : Sp := fun vs H Q _ => ∃ c : Addr, vs = [.ref c] ∧ Bag H c ∧ ∀ v q H', PtV K H' v q → ¬ q < 1 → Sz 200 q → Bag H' c → Kp c H H' → Q v H'
section
variable {K : PySem.W.Frag} {H : Hp} {a : Addr} {ws : List Int} {Q : VK} {E : XK} {vs : List V} {b : Bx} {v u : V} {d : Bool} {n m : Nat}
theorem checkb_step {x : Rat} (hv : PtV K H v x) (hz : Sz n x) (hn : n ≤ 3900) (h1 : ¬ x < 1) (q : ∀ H', Same H H' → Q .non H') (hvs : vs = [v] := by rfl) : spCheckB K vs H Q E := by
  unfold spCheckB
  exact ⟨v, x, hvs, hv, hz.mono hn, h1, fun r H' s e => by rw [e]; exact q H' s⟩
theorem begs_step {bound : Rat} (hv : BxV K H v b) (hb : b.Ok n) (hn : n ≤ 450) (h : IntsV K H a ws) (hw : WOk ws) (hu : PtV K H u bound) (hz : Sz m bound) (hm : m ≤ 3900) (h1 : ¬ bound < 1) (q : ∀ L H', H L = none → Same H H' → H' L = some (.lst (natV (begL (fSh b ws d) bound ws.length))) → Q (.ref L) H') (hvs : vs = [v, .ref a, u, .str (sd d)] := by rfl) : spBegs K vs H Q E := by
  unfold spBegs
  exact ⟨v, u, a, b, ws, bound, d, hvs, hv, hb.mono hn, h, hw, hu, hz.mono hm, h1, q⟩
theorem lbegs_step {D : Addr} {f : Nat → Nat → Rat} {bound : Rat} {k : Nat} (h : DSh K n (AllR n) f m H D) (hn : n ≤ 12) (hz : ∀ i j, AllR n i j → Sz 3900 (f i j)) (hu : PtV K H u bound) (zb : Sz k bound) (hk : k ≤ 3900) (q : ∀ L H', H L = none → Same H H' → H' L = some (.lst (natV (begL f bound n))) → Q (.ref L) H') (hvs : vs = [.ref D, .int n, u] := by rfl) : spLBegs K vs H Q E := by
  unfold spLBegs
  exact ⟨u, D, n, m, f, bound, hvs, h, hn, hz, hu, zb.mono hk, q⟩
theorem bound_step {c : Addr} (hb : Bag H c) (q : ∀ v q H', PtV K H' v q → ¬ q < 1 → Sz 200 q → Bag H' c → Kp c H H' → Q v H') (hvs : vs = [.ref c] := by rfl) : spBound K vs H Q E := by
  unfold spBound
  exact ⟨c, hvs, hb, q⟩
end
theorem fSh_ge {b : Bx} {ws : List Int} {n : Nat} (hb : b.Ok n) (hW : WOk ws) (d : Bool) {i j : Nat} (h : AllR ws.length i j) : ¬ fSh b ws d i j < 1 := by
  have h1 := h.1
  have h2 := h.2
  have := rowShape_ge hb hW (first := i) (size := j - i) (by omega) (by omega) d
  unfold fSh
  grind
theorem divInt_ge1 {a c : Int} (h0 : 0 < c) (h : c ≤ a) : ¬ Rat.divInt a c < 1 := by
  have c0 := int_pos h0
  have e : Rat.divInt a c * (c : Rat) = (a : Rat) := by
    rw [Rat.divInt_eq_div, Rat.div_def, Rat.mul_assoc, Rat.inv_mul_cancel _ (by grind), Rat.mul_one]
  have a1 : (c : Rat) ≤ (a : Rat) := Rat.intCast_le_intCast.mpr h
  intro z
  have := Rat.mul_lt_mul_of_pos_right z c0
  grind
theorem one_ge : ¬ (1 : Rat) < 1 := by decide
/-- all the shapes that a dict holds, by its keys -/
theorem DSh.all {K : PySem.W.Frag} {N : Nat} {f : Nat → Nat → Rat} {m : Nat} {H : Hp} {D : Addr} (x : DSh K N (AllR N) f m H D) :
    ∃ kvs : List (List Key × V), H D = some (.dT kvs) ∧ kvs.length ≤ m ∧ (1 ≤ N → kvs ≠ []) ∧ (∀ kv ∈ kvs, ∃ i j : Int, kv.1 = [.inl i, .inl j]) ∧ ∀ kv ∈ kvs, ∃ i j, kv.1 = ky i j ∧ AllR N i j := by
  obtain ⟨kvs, h1, h2, hk, h3⟩ := x
  refine ⟨kvs, h1, h2, fun hN z => ?_, fun kv hkv => ?_, hk⟩
  · subst z
    obtain ⟨v, h4, _⟩ := h3 0 1 ⟨by omega, hN⟩
    cases h4
  · obtain ⟨i, j, e, _⟩ := hk kv hkv
    exact ⟨i, j, e⟩
theorem isKeys_mem {H : Hp} : ∀ {kvs : List (List Key × V)} {bs : List Addr}, IsKeys H kvs bs → ∀ b ∈ bs, ∃ kv ∈ kvs, H b = some (.tup (kv.1.map kV)) := by
  intro kvs bs hp
  unfold IsKeys at hp
  induction hp with
  | nil => intro b hb; cases hb
  | cons hh _ ih =>
    intro b hb
    rcases List.mem_cons.mp hb with rfl | hb
    · exact ⟨_, List.mem_cons_self, hh⟩
    · obtain ⟨kv, h1, h2⟩ := ih b hb
      exact ⟨kv, List.mem_cons_of_mem _ h1, h2⟩
theorem isKeys_len {H : Hp} {kvs : List (List Key × V)} {bs : List Addr} (h : IsKeys H kvs bs) : kvs.length = bs.length := Paired.length h
end Cc
namespace Cc
open PySem PySem.Spec PyProof.Rows L2
/-! ### k in xs, xs a list of ints -/
theorem all_flat : ∀ xs : List Int, (xs.map V.int).all flatV = true
  | [] => rfl
  | x :: r => by
    rw [List.map_cons, List.all_cons, all_flat r]
    rfl
theorem inV_ints (k : Int) : ∀ xs : List Int, inV (.int k) (xs.map V.int) = decide (k ∈ xs)
  | [] => rfl
  | x :: r => by
    have ih := inV_ints k r
    unfold inV at ih ⊢
    rw [List.map_cons, List.any_cons, ih]
    show ((x == k) || decide (k ∈ r)) = decide (k ∈ x :: r)
    by_cases e : x = k
    · subst e
      simp
    · have e2 : ¬ k = x := fun z => e z.symm
      simp [e, e2]
def rInI (K : PySem.W.Frag) : R2 := fun x y H Q => ∃ (k : Int) (p : Addr) (xs : List Int), x = .int k ∧ y = .ref p ∧ SqL K H p (xs.map V.int) ∧ ∀ r, r = decide (k ∈ xs) → Q (.bl r) H
def rNotInI (K : PySem.W.Frag) : R2 := fun x y H Q => ∃ (k : Int) (p : Addr) (xs : List Int), x = .int k ∧ y = .ref p ∧ SqL K H p (xs.map V.int) ∧ ∀ r, r = (!decide (k ∈ xs)) → Q (.bl r) H
theorem op_inI {X : Cx} : OpR X (compareOp .In) (rInI X.K) := by
  intro pins s σ H x y v u Q I rx ry h
  obtain ⟨k, p, xs, rfl, rfl, hs, q⟩ := h
  refine op_in_seq pins s σ H _ _ v u Q I rx ry ⟨p, _, rfl, .inl hs, rfl, all_flat xs, ?_⟩
  show Q (.bl (inV (.int k) (xs.map V.int))) H
  exact q _ (inV_ints k xs)
theorem op_notInI {X : Cx} : OpR X (compareOp .NotIn) (rNotInI X.K) := by
  intro pins s σ H x y v u Q I rx ry h
  obtain ⟨k, p, xs, rfl, rfl, hs, q⟩ := h
  refine op_notIn_seq pins s σ H _ _ v u Q I rx ry ⟨p, _, rfl, .inl hs, rfl, all_flat xs, ?_⟩
  show Q (.bl (!inV (.int k) (xs.map V.int))) H
  exact q _ (by rw [inV_ints])
/-! ### what shuts a bound -/
def ShutP (f : Nat → Nat → Rat) (n : Nat) (bound : Rat) (xs : List Int) : Prop := (0 : Int) ∈ xs ∧ (n : Int) ∉ xs ∧ ∀ i j, AllR n i j → (i : Int) ∈ xs → (j : Int) ∉ xs → ¬ f i j < bound
@[irreducible] def spShuts (K : PySem.W.Frag) : Sp := fun vs H Q _ => ∃ (v u : V) (a S : Addr) (b : Bx) (ws xs : List Int) (bound : Rat) (d : Bool), vs = [v, .ref a, u, .ref S, .str (sd d)] ∧ BxV K H v b ∧ b.Ok 450 ∧ SqL K H a (ws.map V.int) ∧ WOk ws ∧ PtV K H u bound ∧ Sz 3900 bound ∧ ¬ bound < 1 ∧ SqL K H S (xs.map V.int) ∧ xs.length ≤ 60 ∧ ∀ (k : Bool) H', Same H H' → (k = true ↔ ShutP (fSh b ws d) ws.length bound xs) → Q (.bl k) H'
@[irreducible] def spLShut (K : PySem.W.Frag) : Sp := fun vs H Q _ => ∃ (u : V) (D S : Addr) (n m : Nat) (f : Nat → Nat → Rat) (bound : Rat) (xs : List Int), vs = [.ref D, .int n, u, .ref S] ∧ DSh K n (AllR n) f m H D ∧ n ≤ 12 ∧ (∀ i j, AllR n i j → Sz 3900 (f i j)) ∧ PtV K H u bound ∧ Sz 3900 bound ∧ SqL K H S (xs.map V.int) ∧ ∀ (k : Bool) H', Same H H' → (k = true ↔ ShutP f n bound xs) → Q (.bl k) H'
section
variable {K : PySem.W.Frag} {H : Hp} {a S : Addr} {ws xs : List Int} {Q : VK} {E : XK} {vs : List V} {b : Bx} {v u : V} {d : Bool} {n m : Nat}
theorem shuts_step {bound : Rat} (hv : BxV K H v b) (hb : b.Ok n) (hn : n ≤ 450) (h : SqL K H a (ws.map V.int)) (hw : WOk ws) (hu : PtV K H u bound) (hz : Sz m bound) (hm : m ≤ 3900) (h1 : ¬ bound < 1) (hS : SqL K H S (xs.map V.int)) (hx : xs.length ≤ 60) (q : ∀ (k : Bool) H', Same H H' → (k = true ↔ ShutP (fSh b ws d) ws.length bound xs) → Q (.bl k) H') (hvs : vs = [v, .ref a, u, .ref S, .str (sd d)] := by rfl) : spShuts K vs H Q E := by
  unfold spShuts
  exact ⟨v, u, a, S, b, ws, xs, bound, d, hvs, hv, hb.mono hn, h, hw, hu, hz.mono hm, h1, hS, hx, q⟩
theorem lshut_step {D : Addr} {f : Nat → Nat → Rat} {bound : Rat} {k : Nat} (h : DSh K n (AllR n) f m H D) (hn : n ≤ 12) (hz : ∀ i j, AllR n i j → Sz 3900 (f i j)) (hu : PtV K H u bound) (zb : Sz k bound) (hk : k ≤ 3900) (hS : SqL K H S (xs.map V.int)) (q : ∀ (k : Bool) H', Same H H' → (k = true ↔ ShutP f n bound xs) → Q (.bl k) H') (hvs : vs = [.ref D, .int n, u, .ref S] := by rfl) : spLShut K vs H Q E := by
  unfold spLShut
  exact ⟨u, D, S, n, m, f, bound, xs, hvs, h, hn, hz, hu, zb.mono hk, hS, q⟩
end
theorem isKeys_get {H : Hp} : ∀ {kvs : List (List Key × V)} {bs : List Addr}, IsKeys H kvs bs → ∀ kv ∈ kvs, ∃ b ∈ bs, H b = some (.tup (kv.1.map kV)) := by
  intro kvs bs hp
  unfold IsKeys at hp
  induction hp with
  | nil => intro b hb; cases hb
  | cons hh _ ih =>
    intro kv hkv
    rcases List.mem_cons.mp hkv with rfl | hkv
    · exact ⟨_, List.mem_cons_self, hh⟩
    · obtain ⟨b, h1, h2⟩ := ih kv hkv
      exact ⟨b, List.mem_cons_of_mem _ h1, h2⟩
theorem valV_mem {kvs : List (List Key × V)} {k : List Key} {v : V} (h : valV kvs k = some v) : ∃ kv ∈ kvs, kv.1 = k := by
  have e := valV_any k kvs
  rw [h] at e
  obtain ⟨kv, h1, h2⟩ := List.any_eq_true.mp e
  exact ⟨kv, h1, of_decide_eq_true h2⟩
end Cc
set_option exponentiation.threshold 10000
set_option maxHeartbeats 20000000
namespace Cc
open PySem PySem.Spec PyProof.Rows L2
local macro_rules | `(tactic| walk_at "sd") => `(tactic| first
  | exact cmul_r ⟨by decide, by decide⟩
  | exact cmul_l ⟨by decide, by decide⟩
  | exact cmul_l ⟨by omega, by omega⟩
  | exact cmul_w (by assumption) (by assumption) (by decide)
  | exact (show CPow 10 18 from ⟨by decide, by decide, by decide⟩)
  | exact (show (0 : Int) < 2147483629 by decide)
  | exact (show CDiv _ _ from ⟨by decide, by decide⟩)
  | exact (show CDiv _ _ from ⟨by assumption, by assumption⟩)
  | assumption)
local macro_rules | `(tactic| walk_at "rd") => `(tactic| first
  | refine ⟨_, rfl, ?_⟩
  | refine ⟨_, _, rfl, rfl, ?_⟩
  | (refine ⟨_, ?_, _, ?_, rfl, rfl, ?_, ?_, ?_⟩; rotate_left 2; (first | exact SqL.of (by assumption) | (show SqT _ _ _ _; assumption) | (show SqL _ _ _ _; assumption)); (first | exact rfl | assumption))
  | (refine ⟨_, ?_, rfl, ?_, ?_⟩; rotate_left 1; (first | exact .inl (SqL.of (by assumption)) | exact .inl (SqL.of upd_same)))
  | (refine And.intro ?_ ?_; (focus (walk_at "sd"))))
def top (i : Nat) : Stmt := PySem.Challenge.pw_calmcuts_k21_greedy_sizes.main.body.getD i (.Pass ⟨0, 0, 0, 0⟩)
abbrev s_is_number : Stmt := top 10
abbrev ps_is_number : List Str := ["thing"]
theorem sc_is_number : FnScope ["thing"] ps_is_number (defScope s_is_number) := ⟨rfl, rfl, rfl, by decide +kernel, rfl, by decide +kernel, by decide +kernel⟩
abbrev s_is_part : Stmt := top 11
abbrev ps_is_part : List Str := ["thing"]
theorem sc_is_part : FnScope ["thing", "above", "below"] ps_is_part (defScope s_is_part) := ⟨rfl, rfl, rfl, by decide +kernel, rfl, by decide +kernel, by decide +kernel⟩
abbrev s_part : Stmt := top 12
abbrev ps_part : List Str := ["above", "below"]
theorem sc_part : FnScope ["above", "below", "common"] ps_part (defScope s_part) := ⟨rfl, rfl, rfl, by decide +kernel, rfl, by decide +kernel, by decide +kernel⟩
abbrev s_times : Stmt := top 13
abbrev ps_times : List Str := ["one", "other"]
theorem sc_times : FnScope ["one", "other"] ps_times (defScope s_times) := ⟨rfl, rfl, rfl, by decide +kernel, rfl, by decide +kernel, by decide +kernel⟩
abbrev s_over : Stmt := top 14
abbrev ps_over : List Str := ["one", "other"]
theorem sc_over : FnScope ["one", "other"] ps_over (defScope s_over) := ⟨rfl, rfl, rfl, by decide +kernel, rfl, by decide +kernel, by decide +kernel⟩
abbrev s_less : Stmt := top 15
abbrev ps_less : List Str := ["one", "other"]
theorem sc_less : FnScope ["one", "other"] ps_less (defScope s_less) := ⟨rfl, rfl, rfl, by decide +kernel, rfl, by decide +kernel, by decide +kernel⟩
abbrev s_greater : Stmt := top 16
abbrev ps_greater : List Str := ["one", "other"]
theorem sc_greater : FnScope ["one", "other"] ps_greater (defScope s_greater) := ⟨rfl, rfl, rfl, by decide +kernel, rfl, by decide +kernel, by decide +kernel⟩
abbrev s_is_box : Stmt := top 22
abbrev ps_is_box : List Str := ["thing"]
theorem sc_is_box : FnScope ["thing", "number"] ps_is_box (defScope s_is_box) := ⟨rfl, rfl, rfl, by decide +kernel, rfl, by decide +kernel, by decide +kernel⟩
abbrev s_check_box : Stmt := top 23
abbrev ps_check_box : List Str := ["thing"]
theorem sc_check_box : FnScope ["thing"] ps_check_box (defScope s_check_box) := ⟨rfl, rfl, rfl, by decide +kernel, rfl, by decide +kernel, by decide +kernel⟩
abbrev s_check_weights : Stmt := top 24
abbrev ps_check_weights : List Str := ["thing"]
theorem sc_check_weights : FnScope ["thing", "weight"] ps_check_weights (defScope s_check_weights) := ⟨rfl, rfl, rfl, by decide +kernel, rfl, by decide +kernel, by decide +kernel⟩
abbrev s_is_side : Stmt := top 25
abbrev ps_is_side : List Str := ["thing"]
theorem sc_is_side : FnScope ["thing"] ps_is_side (defScope s_is_side) := ⟨rfl, rfl, rfl, by decide +kernel, rfl, by decide +kernel, by decide +kernel⟩
abbrev s_check_side : Stmt := top 26
abbrev ps_check_side : List Str := ["thing"]
theorem sc_check_side : FnScope ["thing"] ps_check_side (defScope s_check_side) := ⟨rfl, rfl, rfl, by decide +kernel, rfl, by decide +kernel, by decide +kernel⟩
abbrev s_check_split : Stmt := top 27
abbrev ps_check_split : List Str := ["box", "weights", "side"]
theorem sc_check_split : FnScope ["box", "weights", "side"] ps_check_split (defScope s_check_split) := ⟨rfl, rfl, rfl, by decide +kernel, rfl, by decide +kernel, by decide +kernel⟩
abbrev s_row_shapes : Stmt := top 29
abbrev ps_row_shapes : List Str := ["box", "weights", "side"]
theorem sc_row_shapes : FnScope ["box", "weights", "side", "many", "found", "begin", "end"] ps_row_shapes (defScope s_row_shapes) := ⟨rfl, rfl, rfl, by decide +kernel, rfl, by decide +kernel, by decide +kernel⟩
abbrev s__shape_between : Stmt := top 30
abbrev ps__shape_between : List Str := ["box", "weights", "begin", "end", "side"]
theorem sc__shape_between : FnScope ["box", "weights", "begin", "end", "side", "row", "along", "by_weight", "longest", "shortest"] ps__shape_between (defScope s__shape_between) := ⟨rfl, rfl, rfl, by decide +kernel, rfl, by decide +kernel, by decide +kernel⟩
abbrev s_greedy : Stmt := top 32
abbrev ps_greedy : List Str := ["box", "weights", "side"]
theorem sc_greedy : FnScope ["box", "weights", "side", "shapes", "sizes", "begin", "end"] ps_greedy (defScope s_greedy) := ⟨rfl, rfl, rfl, by decide +kernel, rfl, by decide +kernel, by decide +kernel⟩
abbrev s__law_bag : Stmt := top 34
abbrev ps__law_bag : List Str := ["_law_script"]
theorem sc__law_bag : FnScope ["_law_script"] ps__law_bag (defScope s__law_bag) := ⟨rfl, rfl, rfl, by decide +kernel, rfl, by decide +kernel, by decide +kernel⟩
abbrev s__law_get : Stmt := top 35
abbrev ps__law_get : List Str := ["_law_bag_here", "_law_most_here"]
theorem sc__law_get : FnScope ["_law_bag_here", "_law_most_here", "_law_cell", "_law_got", "_law_before"] ps__law_get (defScope s__law_get) := ⟨rfl, rfl, rfl, by decide +kernel, rfl, by decide +kernel, by decide +kernel⟩
abbrev s__law_far : Stmt := top 36
abbrev ps__law_far : List Str := ["_law_bag_here", "_law_steps"]
theorem sc__law_far : FnScope ["_law_bag_here", "_law_steps", "_law_found", "_law_step"] ps__law_far (defScope s__law_far) := ⟨rfl, rfl, rfl, by decide +kernel, rfl, by decide +kernel, by decide +kernel⟩
abbrev s__law_same : Stmt := top 37
abbrev ps__law_same : List Str := ["_law_found", "_law_due"]
theorem sc__law_same : FnScope ["_law_found", "_law_due", "_law_key_now", "_law_one", "_law_other"] ps__law_same (defScope s__law_same) := ⟨rfl, rfl, rfl, by decide +kernel, rfl, by decide +kernel, by decide +kernel⟩
abbrev s__law_gcd : Stmt := top 38
abbrev ps__law_gcd : List Str := ["_law_one", "_law_other"]
theorem sc__law_gcd : FnScope ["_law_one", "_law_other"] ps__law_gcd (defScope s__law_gcd) := ⟨rfl, rfl, rfl, by decide +kernel, rfl, by decide +kernel, by decide +kernel⟩
abbrev s__law_part : Stmt := top 39
abbrev ps__law_part : List Str := ["_law_above_here", "_law_below"]
theorem sc__law_part : FnScope ["_law_above_here", "_law_below", "_law_by"] ps__law_part (defScope s__law_part) := ⟨rfl, rfl, rfl, by decide +kernel, rfl, by decide +kernel, by decide +kernel⟩
abbrev s__law_times : Stmt := top 40
abbrev ps__law_times : List Str := ["_law_one", "_law_other"]
theorem sc__law_times : FnScope ["_law_one", "_law_other"] ps__law_times (defScope s__law_times) := ⟨rfl, rfl, rfl, by decide +kernel, rfl, by decide +kernel, by decide +kernel⟩
abbrev s__law_over : Stmt := top 41
abbrev ps__law_over : List Str := ["_law_one", "_law_other"]
theorem sc__law_over : FnScope ["_law_one", "_law_other"] ps__law_over (defScope s__law_over) := ⟨rfl, rfl, rfl, by decide +kernel, rfl, by decide +kernel, by decide +kernel⟩
abbrev s__law_less : Stmt := top 42
abbrev ps__law_less : List Str := ["_law_one", "_law_other"]
theorem sc__law_less : FnScope ["_law_one", "_law_other"] ps__law_less (defScope s__law_less) := ⟨rfl, rfl, rfl, by decide +kernel, rfl, by decide +kernel, by decide +kernel⟩
abbrev s__law_most : Stmt := top 43
abbrev ps__law_most : List Str := ["_law_parts"]
theorem sc__law_most : FnScope ["_law_parts", "_law_chief", "_law_one"] ps__law_most (defScope s__law_most) := ⟨rfl, rfl, rfl, by decide +kernel, rfl, by decide +kernel, by decide +kernel⟩
abbrev s__law_number : Stmt := top 44
abbrev ps__law_number : List Str := ["_law_bag_here"]
theorem sc__law_number : FnScope ["_law_bag_here", "_law_kind"] ps__law_number (defScope s__law_number) := ⟨rfl, rfl, rfl, by decide +kernel, rfl, by decide +kernel, by decide +kernel⟩
abbrev s__law_some_part : Stmt := top 45
abbrev ps__law_some_part : List Str := ["_law_bag_here"]
theorem sc__law_some_part : FnScope ["_law_bag_here", "_law_below"] ps__law_some_part (defScope s__law_some_part) := ⟨rfl, rfl, rfl, by decide +kernel, rfl, by decide +kernel, by decide +kernel⟩
abbrev s__law_above : Stmt := top 46
abbrev ps__law_above : List Str := ["_law_bag_here"]
theorem sc__law_above : FnScope ["_law_bag_here", "_law_one"] ps__law_above (defScope s__law_above) := ⟨rfl, rfl, rfl, by decide +kernel, rfl, by decide +kernel, by decide +kernel⟩
abbrev s__law_small_box : Stmt := top 47
abbrev ps__law_small_box : List Str := ["_law_bag_here"]
theorem sc__law_small_box : FnScope ["_law_bag_here", "_law_x", "_law_y"] ps__law_small_box (defScope s__law_small_box) := ⟨rfl, rfl, rfl, by decide +kernel, rfl, by decide +kernel, by decide +kernel⟩
abbrev s__law_box : Stmt := top 48
abbrev ps__law_box : List Str := ["_law_bag_here"]
theorem sc__law_box : FnScope ["_law_bag_here"] ps__law_box (defScope s__law_box) := ⟨rfl, rfl, rfl, by decide +kernel, rfl, by decide +kernel, by decide +kernel⟩
abbrev s__law_weight : Stmt := top 49
abbrev ps__law_weight : List Str := ["_law_bag_here", "_law_kind"]
theorem sc__law_weight : FnScope ["_law_bag_here", "_law_kind"] ps__law_weight (defScope s__law_weight) := ⟨rfl, rfl, rfl, by decide +kernel, rfl, by decide +kernel, by decide +kernel⟩
abbrev s__law_weights : Stmt := top 50
abbrev ps__law_weights : List Str := ["_law_bag_here", "_law_most_here"]
theorem sc__law_weights : FnScope ["_law_bag_here", "_law_most_here", "_law_many", "_law_kind", "_law_k"] ps__law_weights (defScope s__law_weights) := ⟨rfl, rfl, rfl, by decide +kernel, rfl, by decide +kernel, by decide +kernel⟩
abbrev s__law_lean : Stmt := top 51
abbrev ps__law_lean : List Str := ["_law_bag_here"]
theorem sc__law_lean : FnScope ["_law_bag_here"] ps__law_lean (defScope s__law_lean) := ⟨rfl, rfl, rfl, by decide +kernel, rfl, by decide +kernel, by decide +kernel⟩
abbrev s__law_shape : Stmt := top 52
abbrev ps__law_shape : List Str := ["_law_wide", "_law_high"]
theorem sc__law_shape : FnScope ["_law_wide", "_law_high"] ps__law_shape (defScope s__law_shape) := ⟨rfl, rfl, rfl, by decide +kernel, rfl, by decide +kernel, by decide +kernel⟩
abbrev s__law_shapes : Stmt := top 53
abbrev ps__law_shapes : List Str := ["_law_box_here", "_law_weights_here", "_law_lean_here"]
theorem sc__law_shapes : FnScope ["_law_box_here", "_law_weights_here", "_law_lean_here", "_law_length", "_law_width", "_law_found", "_law_first", "_law_end", "_law_row", "_law_deep", "_law_along", "_law_one"] ps__law_shapes (defScope s__law_shapes) := ⟨rfl, rfl, rfl, by decide +kernel, rfl, by decide +kernel, by decide +kernel⟩
abbrev s__law_greedy : Stmt := top 54
abbrev ps__law_greedy : List Str := ["_law_shapes_now", "_law_many"]
theorem sc__law_greedy : FnScope ["_law_shapes_now", "_law_many", "_law_found", "_law_first", "_law_size", "_law_grows"] ps__law_greedy (defScope s__law_greedy) := ⟨rfl, rfl, rfl, by decide +kernel, rfl, by decide +kernel, by decide +kernel⟩
abbrev s_law : Stmt := top 55
abbrev ps_law : List Str := ["_law_script"]
theorem sc_law : FnScope ["_law_script", "_law_bag_here", "_law_turn", "_law_box_here", "_law_weights_here", "_law_lean_here", "_law_due"] ps_law (defScope s_law) := ⟨rfl, rfl, rfl, by decide +kernel, rfl, by decide +kernel, by decide +kernel⟩
/-- all that the top has left -/
structure Tops (K : PySem.W.Frag) (mg : Str → Option Value) : Prop where
  d_is_number : DefAt K mg "is_number" s_is_number ps_is_number
  d_is_part : DefAt K mg "is_part" s_is_part ps_is_part
  d_part : DefAt K mg "part" s_part ps_part
  d_times : DefAt K mg "times" s_times ps_times
  d_over : DefAt K mg "over" s_over ps_over
  d_less : DefAt K mg "less" s_less ps_less
  d_greater : DefAt K mg "greater" s_greater ps_greater
  d_is_box : DefAt K mg "is_box" s_is_box ps_is_box
  d_check_box : DefAt K mg "check_box" s_check_box ps_check_box
  d_check_weights : DefAt K mg "check_weights" s_check_weights ps_check_weights
  d_is_side : DefAt K mg "is_side" s_is_side ps_is_side
  d_check_side : DefAt K mg "check_side" s_check_side ps_check_side
  d_check_split : DefAt K mg "check_split" s_check_split ps_check_split
  d_row_shapes : DefAt K mg "row_shapes" s_row_shapes ps_row_shapes
  d_shape_between : DefAt K mg "_shape_between" s__shape_between ps__shape_between
  d_greedy : DefAtS K mg "greedy" s_greedy ps_greedy 2 (.str "down")
  d_law_bag : DefAt K mg "_law_bag" s__law_bag ps__law_bag
  d_law_get : DefAt K mg "_law_get" s__law_get ps__law_get
  d_law_far : DefAt K mg "_law_far" s__law_far ps__law_far
  d_law_same : DefAt K mg "_law_same" s__law_same ps__law_same
  d_law_gcd : DefAt K mg "_law_gcd" s__law_gcd ps__law_gcd
  d_law_part : DefAt K mg "_law_part" s__law_part ps__law_part
  d_law_times : DefAt K mg "_law_times" s__law_times ps__law_times
  d_law_over : DefAt K mg "_law_over" s__law_over ps__law_over
  d_law_less : DefAt K mg "_law_less" s__law_less ps__law_less
  d_law_most : DefAt K mg "_law_most" s__law_most ps__law_most
  d_law_number : DefAt K mg "_law_number" s__law_number ps__law_number
  d_law_some_part : DefAt K mg "_law_some_part" s__law_some_part ps__law_some_part
  d_law_above : DefAt K mg "_law_above" s__law_above ps__law_above
  d_law_small_box : DefAt K mg "_law_small_box" s__law_small_box ps__law_small_box
  d_law_box : DefAt K mg "_law_box" s__law_box ps__law_box
  d_law_weight : DefAt K mg "_law_weight" s__law_weight ps__law_weight
  d_law_weights : DefAt K mg "_law_weights" s__law_weights ps__law_weights
  d_law_lean : DefAt K mg "_law_lean" s__law_lean ps__law_lean
  d_law_shape : DefAt K mg "_law_shape" s__law_shape ps__law_shape
  d_law_shapes : DefAt K mg "_law_shapes" s__law_shapes ps__law_shapes
  d_law_greedy : DefAt K mg "_law_greedy" s__law_greedy ps__law_greedy
  m_abs : mg "abs" = none
  m_all : mg "all" = none
  m_bool : mg "bool" = none
  m_dict : mg "dict" = none
  m_int : mg "int" = none
  m_isinstance : mg "isinstance" = none
  m_len : mg "len" = none
  m_list : mg "list" = none
  m_max : mg "max" = none
  m_min : mg "min" = none
  m_range : mg "range" = none
  m_str : mg "str" = none
  m_sum : mg "sum" = none
  m_tuple : mg "tuple" = none
  m_zip : mg "zip" = none
  m_ACROSS : ∃ t, mg "ACROSS" = some (.str "across" t)
  m_DOWN : ∃ t, mg "DOWN" = some (.str "down" t)
  m_MOST_CHILDREN : ∃ t, mg "MOST_CHILDREN" = some (.int 12 t)
  m_MOST_WEIGHT : ∃ t, mg "MOST_WEIGHT" = some (.int 400000 t)
  m_NOUGHT : NoughtAt K mg
  m_ONE : OneAt K mg
  m_gcd : mg "gcd" = some (.builtin "math.gcd")
section
variable {P : Program} {w : World} {K : PySem.W.Frag} {mg : Str → Option Value} {base : Heap}
theorem ok_is_number (T : Tops K mg)  : DefOk P w K mg base 1 "is_number" ps_is_number spIsNum := by
  refine T.d_is_number.ok sc_is_number (fun vs H Q E h => ?_) (fun f cdv A outer s H vs Q E hr h => ?_)
  · unfold spIsNum at h
    obtain ⟨_, rfl, _⟩ := h
    rfl
  · unfold spIsNum at h
    obtain ⟨i, rfl, q⟩ := h
    refine ⟨_, (pss_one (ps_ret (pe_and (pe_callB call_isiI (by rfl) T.m_isinstance (by decide +kernel) (pa_cons (pv 0) (pa_cons (pe_bltn (v := V.ty "int") (u := Value.type "int") (by rfl) T.m_int (by decide +kernel) rfl) pa_nil))) (pe_one (pe_not (pe_callB call_isiI (by rfl) T.m_isinstance (by decide +kernel) (pa_cons (pv 0) (pa_cons (pe_bltn (v := V.ty "bool") (u := Value.type "bool") (by rfl) T.m_bool (by decide +kernel) rfl) pa_nil)))))))), ?_⟩
    have hi : Dp K H (.int i) (.int i) := .int i
    refine ⟨_, rfl, isi_step "int" "int" true hi rfl (by decide +kernel) ⟨true, rfl, ?_⟩⟩
    refine ⟨_, rfl, isi_step "int" "bool" false hi rfl (by decide +kernel) ⟨false, rfl, q _ rfl⟩⟩
theorem ok_is_part (T : Tops K mg) (D_is_number : DefOk P w K mg base 1 "is_number" ps_is_number spIsNum) : DefOk P w K mg base 2 "is_part" ps_is_part (spIsPart K) := by
  refine T.d_is_part.ok sc_is_part (fun vs H Q E h => ?_) (fun f cdv A outer s H vs Q E hr h => ?_)
  · unfold spIsPart at h
    obtain ⟨_, _, rfl, _⟩ := h
    rfl
  · unfold spIsPart at h
    obtain ⟨v, x, rfl, ⟨a, rfl, ha⟩, q⟩ := h
    refine ⟨_, (pss_cons (ps_if (PW.pt (pw_or (pt_not (pt_val (pe_callB call_isiI (by rfl) T.m_isinstance (by decide +kernel) (pa_cons (pv 0) (pa_cons (pe_bltn (v := V.ty "tuple") (u := Value.type "tuple") (by rfl) T.m_tuple (by decide +kernel) rfl) pa_nil))))) (pw_or1 (pt_cmpR op_ne (pe_callB call_len_seq (by rfl) T.m_len PySem.boot_len (pa_cons (pv 0) pa_nil)) pe_int (nomark _))))) (pss_one (ps_ret pe_bl)) pss_nil) (pss_cons (ps_asg (pv 0) (pg_tup rfl (pgs_cons (pg_name (i := 1) sc_is_part.nd rfl (.inl rfl)) (pgs_cons (pg_name (i := 2) sc_is_part.nd rfl (.inl rfl)) pgs_nil)))) (pss_one (ps_ret (pe_and (pe_callD D_is_number hr (by decide) (by rfl) (pa_cons (pv 1) pa_nil)) (pe_and (pe_callD D_is_number hr (by decide) (by rfl) (pa_cons (pv 2) pa_nil)) (pe_and (pe_cmpR op_gt (pv 2) pe_int (nomark _)) (pe_one (pe_cmpR op_eq (pe_callBfun cr_gcd (by rfl) T.m_gcd (pa_cons (pv 1) (pa_cons (pv 2) pa_nil))) pe_int (nomark _)))))))))), ?_⟩
    have hd : Dp K H (.ref a) (dPart x) := PtV.dp ⟨a, rfl, ha⟩
    refine ⟨_, rfl, isi_step "tuple" "tuple" true hd rfl (by decide +kernel) ⟨_, rfl, ?_⟩⟩
    refine ⟨_, rfl, a, _, rfl, .inr ha, rfl, _, rfl, ?_⟩
    refine ⟨_, rfl, a, _, rfl, ha, rfl, _, _, rfl, _, _, rfl, rfl, ?_⟩
    refine ⟨_, rfl, isnum_step ⟨true, rfl, ?_⟩⟩
    refine ⟨_, rfl, isnum_step ⟨true, rfl, ?_⟩⟩
    refine ⟨_, rfl, _, _, rfl, rfl, true, congrArg V.bl (decide_eq_true (den_pos x)), ?_⟩
    refine ⟨_, rfl, _, rfl, _, _, rfl, rfl, ?_⟩
    refine q _ (congrArg V.bl (decide_eq_true (congrArg V.int ?_)))
    have e := x.reduced
    show ((Nat.gcd x.num.natAbs ((x.den : Int)).natAbs : Nat) : Int) = 1
    rw [Int.natAbs_natCast]
    exact congrArg Int.ofNat e
theorem ok_part (T : Tops K mg)  : DefOk P w K mg base 1 "part" ps_part (spPart K) := by
  refine T.d_part.ok sc_part (fun vs H Q E h => ?_) (fun f cdv A outer s H vs Q E hr h => ?_)
  · obtain ⟨a, c, rfl, _⟩ := h
    rfl
  · obtain ⟨a, c, rfl, hc0, ha, hc, q⟩ := h
    refine ⟨_, (pss_cons (ps_if (pt_cmpR op_eq (pv 1) pe_int (nomark _)) (pss_one ps_never) pss_nil) (pss_cons (ps_set (i := 2) sc_part.nd rfl (.inl rfl) (pe_callBfun cr_gcd (by rfl) T.m_gcd (pa_cons (pv 0) (pa_cons (pv 1) pa_nil)))) (pss_cons (ps_if (pt_cmpR op_lt (pv 1) pe_int (nomark _)) (pss_one (ps_set (i := 2) sc_part.nd rfl (.inl rfl) (pe_un un_neg (pv 2)))) pss_nil) (pss_one (ps_ret (pe_tup (pa_cons (pe_op op_fdivA (pv 0) (pv 2)) (pa_cons (pe_op op_fdivA (pv 1) (pv 2)) pa_nil)))))))), ?_⟩
    have g0 : (0 : Int) < ((Int.gcd a c : Nat) : Int) := by
      have := Int.gcd_pos_of_ne_zero_right a hc0
      omega
    have g1 : Int.gcd a c ≤ c.natAbs := Int.gcd_le_natAbs_right a hc0
    have gw1 : CDivA a ((Int.gcd a c : Nat) : Int) := ⟨by omega, Nat.lt_of_le_of_lt (show _ ≤ c.natAbs by omega) (pow_mono_lt hc (by decide))⟩
    have gw2 : CDivA a (-((Int.gcd a c : Nat) : Int)) := ⟨by omega, Nat.lt_of_le_of_lt (show _ ≤ c.natAbs by omega) (pow_mono_lt hc (by decide))⟩
    refine ⟨_, rfl, rfl, _, rfl, ?_⟩
    refine iteD (fun hd => absurd (V.int.inj hd) hc0) (fun _ => ?_)
    refine ⟨_, rfl, _, rfl, a, c, rfl, ?_⟩
    repeat (walk_at "rd")
    refine iteD (fun hd => ?_) (fun hd => ?_)
    · refine ⟨_, rfl, _, rfl, _, rfl, _, rfl, _, _, rfl, rfl, gw2, _, rfl, _, rfl, _, _, rfl, rfl, gw2, (show 2 ≤ sizeLine by decide), fun p np => ?_⟩
      obtain ⟨e1, e2⟩ := divInt_num_neg (a := a) hd
      exact q _ _ (same_new np) (PtV.new e1 e2)
    · refine ⟨_, rfl, _, rfl, _, _, rfl, rfl, gw1, _, rfl, _, rfl, _, _, rfl, rfl, gw1, (show 2 ≤ sizeLine by decide), fun p np => ?_⟩
      obtain ⟨e1, e2⟩ := divInt_num_eq (a := a) (show 0 < c by omega)
      refine q _ _ (same_new np) (PtV.new ?_ ?_)
      · exact e1.trans (Int.fdiv_eq_ediv_of_nonneg a (by exact Int.le_of_lt g0)).symm
      · exact e2.trans (Int.fdiv_eq_ediv_of_nonneg c (by exact Int.le_of_lt g0)).symm
theorem ok_times (T : Tops K mg) (D_part : DefOk P w K mg base 1 "part" ps_part (spPart K)) : DefOk P w K mg base 2 "times" ps_times (spTwo K (fun _ _ => True) fun x y => x * y) := by
  refine T.d_times.ok sc_times (fun vs H Q E h => ?_) (fun f cdv A outer s H vs Q E hr h => ?_)
  · unfold spTwo at h
    obtain ⟨_, _, _, _, rfl, _⟩ := h
    rfl
  · unfold spTwo at h
    obtain ⟨v, u, x, y, rfl, ⟨a, rfl, ha⟩, ⟨b, rfl, hb⟩, sx, sy, _, q⟩ := h
    refine ⟨_, (pss_one (ps_ret (pe_callD D_part hr (by decide) (by rfl) (pa_cons (pe_op op_mulA (pe_ix ix_tup (pv 0) pe_int (fun _ _ => rfl)) (pe_ix ix_tup (pv 1) pe_int (fun _ _ => rfl))) (pa_cons (pe_op op_mulA (pe_ix ix_tup (pv 0) pe_int (fun _ _ => rfl)) (pe_ix ix_tup (pv 1) pe_int (fun _ _ => rfl))) pa_nil))))), ?_⟩
    obtain ⟨x1, x2⟩ := sz_abs sx
    obtain ⟨y1, y2⟩ := sz_abs sy
    repeat (walk_at "rd")
    refine ⟨_, _, rfl, Int.ne_of_gt (Int.mul_pos (den_pos x) (den_pos y)), pow_mono_lt (natAbs_mul_lt x1 y1) (by decide), pow_mono_lt (natAbs_mul_lt x2 y2) (by decide), fun v H' s hv => q v H' s ?_⟩
    rw [dv_mul] at hv
    exact hv
theorem ok_over (T : Tops K mg) (D_part : DefOk P w K mg base 1 "part" ps_part (spPart K)) : DefOk P w K mg base 2 "over" ps_over (spTwo K (fun _ y => y ≠ 0) fun x y => x / y) := by
  refine T.d_over.ok sc_over (fun vs H Q E h => ?_) (fun f cdv A outer s H vs Q E hr h => ?_)
  · unfold spTwo at h
    obtain ⟨_, _, _, _, rfl, _⟩ := h
    rfl
  · unfold spTwo at h
    obtain ⟨v, u, x, y, rfl, ⟨a, rfl, ha⟩, ⟨b, rfl, hb⟩, sx, sy, hy, q⟩ := h
    refine ⟨_, (pss_one (ps_ret (pe_callD D_part hr (by decide) (by rfl) (pa_cons (pe_op op_mulA (pe_ix ix_tup (pv 0) pe_int (fun _ _ => rfl)) (pe_ix ix_tup (pv 1) pe_int (fun _ _ => rfl))) (pa_cons (pe_op op_mulA (pe_ix ix_tup (pv 0) pe_int (fun _ _ => rfl)) (pe_ix ix_tup (pv 1) pe_int (fun _ _ => rfl))) pa_nil))))), ?_⟩
    obtain ⟨x1, x2⟩ := sz_abs sx
    obtain ⟨y1, y2⟩ := sz_abs sy
    repeat (walk_at "rd")
    refine ⟨_, _, rfl, Int.mul_ne_zero (Int.ne_of_gt (den_pos x)) (fun z => hy ((num_zero_iff y).mp z)), pow_mono_lt (natAbs_mul_lt x1 y2) (by decide), pow_mono_lt (natAbs_mul_lt x2 y1) (by decide), fun v H' s hv => q v H' s ?_⟩
    rw [dv_div] at hv
    exact hv
theorem ok_less (T : Tops K mg)  : DefOk P w K mg base 1 "less" ps_less (spLess K) := by
  refine T.d_less.ok sc_less (fun vs H Q E h => ?_) (fun f cdv A outer s H vs Q E hr h => ?_)
  · unfold spLess at h
    obtain ⟨_, _, _, _, rfl, _⟩ := h
    rfl
  · unfold spLess at h
    obtain ⟨v, u, x, y, rfl, ⟨a, rfl, ha⟩, ⟨b, rfl, hb⟩, sx, sy, q⟩ := h
    refine ⟨_, (pss_one (ps_ret (pe_cmpR op_lt (pe_op op_mulA (pe_ix ix_tup (pv 0) pe_int (fun _ _ => rfl)) (pe_ix ix_tup (pv 1) pe_int (fun _ _ => rfl))) (pe_op op_mulA (pe_ix ix_tup (pv 1) pe_int (fun _ _ => rfl)) (pe_ix ix_tup (pv 0) pe_int (fun _ _ => rfl))) (nomark _)))), ?_⟩
    obtain ⟨x1, x2⟩ := sz_abs sx
    obtain ⟨y1, y2⟩ := sz_abs sy
    repeat (walk_at "rd")
    have e : decide (x < y) = decide (x.num * y.den < y.num * x.den) := decide_eq_decide.mpr (Rat.lt_iff x y)
    refine q _ ?_
    rw [e]
theorem ok_greater (T : Tops K mg) (D_less : DefOk P w K mg base 1 "less" ps_less (spLess K)) : DefOk P w K mg base 2 "greater" ps_greater (spTwo K (fun _ _ => True) fun x y => gr x y) := by
  refine T.d_greater.ok sc_greater (fun vs H Q E h => ?_) (fun f cdv A outer s H vs Q E hr h => ?_)
  · unfold spTwo at h
    obtain ⟨_, _, _, _, rfl, _⟩ := h
    rfl
  · unfold spTwo at h
    obtain ⟨v, u, x, y, rfl, hx, hy, sx, sy, _, q⟩ := h
    refine ⟨_, (pss_one (ps_ret (pe_ifExp (pt_val (pe_callD D_less hr (by decide) (by rfl) (pa_cons (pv 0) (pa_cons (pv 1) pa_nil)))) (pv 1) (pv 0)))), ?_⟩
    refine ⟨_, rfl, _, rfl, less_step hx hy sx sy (Nat.le_refl _) (Nat.le_refl _) ⟨_, rfl, ?_⟩⟩
    refine iteD (fun e => ?_) (fun e => ?_)
    · refine ⟨_, rfl, q _ H (Same.refl H) ?_⟩
      show PtV K H _ (gr x y)
      rw [show gr x y = y from if_pos e]
      exact hy
    · refine ⟨_, rfl, q _ H (Same.refl H) ?_⟩
      show PtV K H _ (gr x y)
      rw [show gr x y = x from if_neg e]
      exact hx
theorem ok_is_box (T : Tops K mg) (D_is_part : DefOk P w K mg base 2 "is_part" ps_is_part (spIsPart K)) (D_less : DefOk P w K mg base 1 "less" ps_less (spLess K)) : DefOk P w K mg base 3 "is_box" ps_is_box (spIsBox K) := by
  refine T.d_is_box.ok sc_is_box (fun vs H Q E h => ?_) (fun f cdv A outer s H vs Q E hr h => ?_)
  · unfold spIsBox at h
    obtain ⟨_, _, rfl, _⟩ := h
    rfl
  · unfold spIsBox at h
    obtain ⟨v, b, rfl, ⟨a, v1, v2, v3, v4, rfl, hB⟩, hO, q⟩ := h
    obtain ⟨na_NOUGHT, mg_NOUGHT, hN⟩ := T.m_NOUGHT
    refine ⟨_, (pss_cons (ps_if (PW.pt (pw_or (pt_not (pt_val (pe_callB call_isiI (by rfl) T.m_isinstance (by decide +kernel) (pa_cons (pv 0) (pa_cons (pe_bltn (v := V.ty "tuple") (u := Value.type "tuple") (by rfl) T.m_tuple (by decide +kernel) rfl) pa_nil))))) (pw_or1 (pt_cmpR op_ne (pe_callB call_len_seq (by rfl) T.m_len PySem.boot_len (pa_cons (pv 0) pa_nil)) pe_int (nomark _))))) (pss_one (ps_ret pe_bl)) pss_nil) (pss_cons (ps_if (pt_not (pt_val (pe_callB (cr_all rfl) (by rfl) T.m_all (by decide +kernel) (pa_cons (pe_lc (own := [("number", 1)]) (g := gName 1) (by rfl) sc_is_box.nd (pi_tup (pv 0)) (blkOk_by (own := [("number", 1)]) (N := ["thing", "number"]) (sc := defScope s_is_box) (by decide +kernel)) (fun _ _ _ _ _ => (pg_name (i := 1) sc_is_box.nd rfl (.inl rfl))) (fun _ _ _ _ _ => pts_nil) (fun _ _ _ _ _ => (pe_callD D_is_part hr (by decide) (by rfl) (pa_cons (pv 1) pa_nil)))) pa_nil)))) (pss_one (ps_ret pe_bl)) pss_nil) (pss_one (ps_ret (pe_and (pe_callD D_less hr (by decide) (by rfl) (pa_cons (pe_glob (v := V.ref na_NOUGHT) (by rfl) mg_NOUGHT rfl) (pa_cons (pe_ix ix_tup (pv 0) pe_int (fun _ _ => rfl)) pa_nil))) (pe_one (pe_callD D_less hr (by decide) (by rfl) (pa_cons (pe_glob (v := V.ref na_NOUGHT) (by rfl) mg_NOUGHT rfl) (pa_cons (pe_ix ix_tup (pv 0) pe_int (fun _ _ => rfl)) pa_nil))))))))), ?_⟩
    have ha := hB.1
    have hd : Dp K H (.ref a) (dBox b) := BxV.dp ⟨a, v1, v2, v3, v4, rfl, hB⟩
    refine ⟨_, rfl, isi_step "tuple" "tuple" true hd rfl (by decide +kernel) ⟨_, rfl, ?_⟩⟩
    refine ⟨_, rfl, a, _, rfl, .inr ha, rfl, _, rfl, ?_⟩
    -- all([is_part(number) for number in thing])
    refine ⟨_, rfl, a, rfl, ⟨_, ha⟩, fun D nD => ?_⟩
    refine lc_tup (xs := [v1, v2, v3, v4]) (fun i H' => Same H H' ∧ H' D = some (.lst ((List.replicate i true).map V.bl))) ⟨same_new nD, upd_same⟩ (fun i H' _ z => seqT_same z.1 ha) ?_ ?_
    · rintro i x H' hx ⟨sH, hD⟩
      have hp : ∃ q, PtV K H' x q := by
        have h := hB.same sH
        match i, hx with
        | 0, hx => cases hx; exact ⟨_, h.2.1⟩
        | 1, hx => cases hx; exact ⟨_, h.2.2.1⟩
        | 2, hx => cases hx; exact ⟨_, h.2.2.2.1⟩
        | 3, hx => cases hx; exact ⟨_, h.2.2.2.2⟩
      obtain ⟨q1, hq1⟩ := hp
      have hi : i < 4 := (List.getElem?_eq_some_iff.mp hx).1
      refine ⟨rfl, ⟨_, rfl, ispart_step hq1 ⟨_, hD, ?_, ?_, ?_⟩⟩⟩
      · rw [List.length_map, List.length_replicate]
        exact small1000 (by omega)
      · intro c o hc
        rw [upd_ne (ne_of_none hc nD)]
        exact sH _ _ hc
      · rw [upd_same, List.replicate_succ', List.map_append]
        rfl
    · rintro H' ⟨sH, hD⟩
      refine ⟨D, List.replicate 4 true, rfl, SqL.of hD, _, rfl, ?_⟩
      have hB' := hB.same sH
      have z0 : Sz 3900 (0 : Rat) := ⟨Nat.pow_pos (by decide), Nat.one_lt_two_pow (by decide)⟩
      refine ⟨_, rfl, a, _, _, _, rfl, rfl, hB'.1, rfl, less_step (hN H') hB'.2.2.2.1 z0 hO.sw (Nat.le_refl _) (Nat.le_refl _) ⟨true, congrArg V.bl (decide_eq_true hO.w0), ?_⟩⟩
      refine ⟨_, rfl, a, _, _, _, rfl, rfl, hB'.1, rfl, less_step (hN H') hB'.2.2.2.2 z0 hO.sh (Nat.le_refl _) (Nat.le_refl _) ?_⟩
      exact q _ _ sH (congrArg V.bl (decide_eq_true hO.h0))
theorem ok_check_box (T : Tops K mg) (D_is_box : DefOk P w K mg base 3 "is_box" ps_is_box (spIsBox K)) : DefOk P w K mg base 4 "check_box" ps_check_box (spCheck K) := by
  refine T.d_check_box.ok sc_check_box (fun vs H Q E h => ?_) (fun f cdv A outer s H vs Q E hr h => ?_)
  · unfold spCheck at h
    obtain ⟨_, _, rfl, _⟩ := h
    rfl
  · unfold spCheck at h
    obtain ⟨v, b, rfl, hB, hO, q⟩ := h
    refine ⟨_, (pss_one (ps_if (pt_not (pt_val (pe_callD D_is_box hr (by decide) (by rfl) (pa_cons (pv 0) pa_nil)))) (pss_one ps_never) pss_nil)), ?_⟩
    refine ⟨_, rfl, isbox_step hB hO (Nat.le_refl _) fun H' s1 => ⟨_, rfl, ?_⟩⟩
    exact q _ _ s1 rfl
theorem ok_check_weights (T : Tops K mg) (D_is_number : DefOk P w K mg base 1 "is_number" ps_is_number spIsNum) : DefOk P w K mg base 2 "check_weights" ps_check_weights (spCheckW K) := by
  refine T.d_check_weights.ok sc_check_weights (fun vs H Q E h => ?_) (fun f cdv A outer s H vs Q E hr h => ?_)
  · unfold spCheckW at h
    obtain ⟨_, _, rfl, _⟩ := h
    rfl
  · unfold spCheckW at h
    obtain ⟨a, ws, rfl, hI, hW, q⟩ := h
    obtain ⟨t_MC, mg_MOST_CHILDREN⟩ := T.m_MOST_CHILDREN
    obtain ⟨t_MW, mg_MOST_WEIGHT⟩ := T.m_MOST_WEIGHT
    refine ⟨_, (pss_cons (ps_if (PW.pt (pw_or (pt_not (pt_val (pe_callB call_isiTI (by rfl) T.m_isinstance (by decide +kernel) (pa_cons (pv 0) (pa_cons (pe_tup (pa_cons (pe_bltn (v := V.ty "list") (u := Value.type "list") (by rfl) T.m_list (by decide +kernel) rfl) (pa_cons (pe_bltn (v := V.ty "tuple") (u := Value.type "tuple") (by rfl) T.m_tuple (by decide +kernel) rfl) pa_nil))) pa_nil))))) (pw_or1 (pt_not (pt_chain op_le op_le pe_int (pe_callB call_len_seq (by rfl) T.m_len PySem.boot_len (pa_cons (pv 0) pa_nil)) (pe_glob (v := V.int 12) (by rfl) mg_MOST_CHILDREN ⟨_, rfl⟩)))))) (pss_one ps_never) pss_nil) (pss_one (ps_if (pt_not (pt_val (pe_callB (cr_all rfl) (by rfl) T.m_all (by decide +kernel) (pa_cons (pe_lc (own := [("weight", 1)]) (g := gName 1) (by rfl) sc_check_weights.nd (pi_or (pi_list (pv 0)) (pi_tup (pv 0))) (blkOk_by (own := [("weight", 1)]) (N := ["thing", "weight"]) (sc := defScope s_check_weights) (by decide +kernel)) (fun _ _ _ _ _ => (pg_name (i := 1) sc_check_weights.nd rfl (.inl rfl))) (fun _ _ _ _ _ => pts_nil) (fun _ _ _ _ _ => (pe_and (pe_callD D_is_number hr (by decide) (by rfl) (pa_cons (pv 1) pa_nil)) (pe_one (pe_chain op_le op_le pe_int (pv 1) (pe_glob (v := V.int 400000) (by rfl) mg_MOST_WEIGHT ⟨_, rfl⟩)))))) pa_nil)))) (pss_one ps_never) pss_nil))), ?_⟩
    refine ⟨_, rfl, (show 2 ≤ sizeLine by decide), fun p np => ?_⟩
    have s1 : Same H (upd H p (.tup [.ty "list", .ty "tuple"])) := same_new np
    have hI1 := hI.same s1
    have hl0 := hW.l0
    have hl1 := hW.l1
    refine hI1.isi upd_same ⟨_, rfl, ?_⟩
    refine ⟨_, rfl, a, _, rfl, hI1, _, _, rfl, rfl, true, congrArg V.bl (decide_eq_true (by rw [List.length_map]; omega)), ?_⟩
    refine ⟨_, _, rfl, rfl, true, congrArg V.bl (decide_eq_true (by rw [List.length_map]; omega)), ?_⟩
    rcases hI1 with hs | hs
    · refine .inl ⟨_, rfl, a, rfl, ⟨_, hs⟩, fun D nD => ?_⟩
      refine lc_list (xs := ws.map V.int) (fun i H' => Same (upd H p (.tup [.ty "list", .ty "tuple"])) H' ∧ H' D = some (.lst ((List.replicate i true).map V.bl))) ⟨same_new nD, upd_same⟩ (fun i H' _ z => seqL_same z.1 hs) ?_ ?_
      · rintro i x H' hx ⟨sH, hD⟩
        obtain ⟨w1, rfl, hw1, hi⟩ : ∃ w1, x = V.int w1 ∧ w1 ∈ ws ∧ i < ws.length := by
          rw [List.getElem?_map] at hx
          obtain ⟨w1, h1, h2⟩ := Option.map_eq_some_iff.mp hx
          exact ⟨w1, h2.symm, List.mem_of_getElem? h1, (List.getElem?_eq_some_iff.mp h1).1⟩
        have hw2 := hW.w w1 hw1
        refine ⟨rfl, _, rfl, isnum_step ⟨true, rfl, ?_⟩⟩
        refine ⟨_, rfl, _, _, rfl, rfl, true, congrArg V.bl (decide_eq_true hw2.1), ?_⟩
        refine ⟨_, _, rfl, rfl, ?_⟩
        refine ⟨_, hD, ?_, ?_, ?_⟩
        · rw [List.length_map, List.length_replicate]
          exact small1000 (by omega)
        · intro c o hc
          rw [upd_ne (ne_of_none hc nD)]
          exact sH _ _ hc
        · rw [upd_same, List.replicate_succ', List.map_append]
          show some (HO.lst ((List.replicate i true).map V.bl ++ [V.bl (decide (w1 ≤ 400000))])) = _
          rw [decide_eq_true hw2.2]
          rfl
      · rintro H' ⟨sH, hD⟩
        rw [List.length_map] at hD
        refine ⟨D, List.replicate ws.length true, rfl, SqL.of hD, _, rfl, ?_⟩
        rw [show (List.replicate ws.length true).all id = true from List.all_eq_true.mpr fun b hb => List.eq_of_mem_replicate hb]
        exact q _ _ (s1.trans sH) rfl
    · refine .inr ⟨_, rfl, a, rfl, ⟨_, hs⟩, fun D nD => ?_⟩
      refine lc_tup (xs := ws.map V.int) (fun i H' => Same (upd H p (.tup [.ty "list", .ty "tuple"])) H' ∧ H' D = some (.lst ((List.replicate i true).map V.bl))) ⟨same_new nD, upd_same⟩ (fun i H' _ z => seqT_same z.1 hs) ?_ ?_
      · rintro i x H' hx ⟨sH, hD⟩
        obtain ⟨w1, rfl, hw1, hi⟩ : ∃ w1, x = V.int w1 ∧ w1 ∈ ws ∧ i < ws.length := by
          rw [List.getElem?_map] at hx
          obtain ⟨w1, h1, h2⟩ := Option.map_eq_some_iff.mp hx
          exact ⟨w1, h2.symm, List.mem_of_getElem? h1, (List.getElem?_eq_some_iff.mp h1).1⟩
        have hw2 := hW.w w1 hw1
        refine ⟨rfl, _, rfl, isnum_step ⟨true, rfl, ?_⟩⟩
        refine ⟨_, rfl, _, _, rfl, rfl, true, congrArg V.bl (decide_eq_true hw2.1), ?_⟩
        refine ⟨_, _, rfl, rfl, ?_⟩
        refine ⟨_, hD, ?_, ?_, ?_⟩
        · rw [List.length_map, List.length_replicate]
          exact small1000 (by omega)
        · intro c o hc
          rw [upd_ne (ne_of_none hc nD)]
          exact sH _ _ hc
        · rw [upd_same, List.replicate_succ', List.map_append]
          show some (HO.lst ((List.replicate i true).map V.bl ++ [V.bl (decide (w1 ≤ 400000))])) = _
          rw [decide_eq_true hw2.2]
          rfl
      · rintro H' ⟨sH, hD⟩
        rw [List.length_map] at hD
        refine ⟨D, List.replicate ws.length true, rfl, SqL.of hD, _, rfl, ?_⟩
        rw [show (List.replicate ws.length true).all id = true from List.all_eq_true.mpr fun b hb => List.eq_of_mem_replicate hb]
        exact q _ _ (s1.trans sH) rfl
theorem ok_is_side (T : Tops K mg)  : DefOk P w K mg base 1 "is_side" ps_is_side (spIsSide K) := by
  refine T.d_is_side.ok sc_is_side (fun vs H Q E h => ?_) (fun f cdv A outer s H vs Q E hr h => ?_)
  · unfold spIsSide at h
    obtain ⟨_, _, rfl, _⟩ := h
    rfl
  · unfold spIsSide at h
    obtain ⟨v, d, rfl, hv, q⟩ := h
    obtain ⟨t_DOWN, mg_DOWN⟩ := T.m_DOWN
    obtain ⟨t_ACROSS, mg_ACROSS⟩ := T.m_ACROSS
    refine ⟨_, (pss_one (ps_ret (pe_and (pe_callB call_isiI (by rfl) T.m_isinstance (by decide +kernel) (pa_cons (pv 0) (pa_cons (pe_bltn (v := V.ty "str") (u := Value.type "str") (by rfl) T.m_str (by decide +kernel) rfl) pa_nil))) (pe_one (pe_cmpR op_in_seq (pv 0) (pe_tup (pa_cons (pe_glob (v := V.str "down") (by rfl) mg_DOWN ⟨_, rfl⟩) (pa_cons (pe_glob (v := V.str "across") (by rfl) mg_ACROSS ⟨_, rfl⟩) pa_nil))) (by rfl)))))), ?_⟩
    cases d with
    | str x =>
      obtain rfl : v = .str x := by
        cases hv
        rfl
      refine ⟨_, rfl, isi_step "str" "str" true hv rfl (by decide +kernel) ⟨true, rfl, ?_⟩⟩
      refine ⟨_, rfl, (show 2 ≤ sizeLine by decide), fun p np => ?_⟩
      refine ⟨p, [.str "down", .str "across"], rfl, .inr (SqT.of upd_same), rfl, rfl, ?_⟩
      have e : inV (V.str x) [.str "down", .str "across"] = isSd (.str x) := by
        show (decide _ || (decide _ || false)) = (decide (x = sd true) || decide (x = sd false))
        rw [Bool.or_false]
        congr 1 <;> exact decide_eq_decide.mpr ⟨fun z => z.symm, fun z => z.symm⟩
      show Q (V.bl (inV (V.str x) [.str "down", .str "across"])) _
      rw [e]
      exact q _ _ (same_new np) rfl
    | none => exact ⟨_, rfl, isi_step "NoneType" "str" false hv rfl (by decide +kernel) ⟨false, rfl, q _ _ (Same.refl _) rfl⟩⟩
    | bool _ => exact ⟨_, rfl, isi_step "bool" "str" false hv rfl (by decide +kernel) ⟨false, rfl, q _ _ (Same.refl _) rfl⟩⟩
    | int _ => exact ⟨_, rfl, isi_step "int" "str" false hv rfl (by decide +kernel) ⟨false, rfl, q _ _ (Same.refl _) rfl⟩⟩
    | list _ => exact ⟨_, rfl, isi_step "list" "str" false hv rfl (by decide +kernel) ⟨false, rfl, q _ _ (Same.refl _) rfl⟩⟩
    | tuple _ => exact ⟨_, rfl, isi_step "tuple" "str" false hv rfl (by decide +kernel) ⟨false, rfl, q _ _ (Same.refl _) rfl⟩⟩
    | dict _ => cases hv
theorem ok_check_side (T : Tops K mg) (D_is_side : DefOk P w K mg base 1 "is_side" ps_is_side (spIsSide K)) : DefOk P w K mg base 2 "check_side" ps_check_side spCheckS := by
  refine T.d_check_side.ok sc_check_side (fun vs H Q E h => ?_) (fun f cdv A outer s H vs Q E hr h => ?_)
  · unfold spCheckS at h
    obtain ⟨_, rfl, _⟩ := h
    rfl
  · unfold spCheckS at h
    obtain ⟨d, rfl, q⟩ := h
    refine ⟨_, (pss_one (ps_if (pt_not (pt_val (pe_callD D_is_side hr (by decide) (by rfl) (pa_cons (pv 0) pa_nil)))) (pss_one ps_never) pss_nil)), ?_⟩
    refine ⟨_, rfl, isside_step (d := d) fun H1 s1 => ⟨_, rfl, ?_⟩⟩
    exact q _ _ s1 rfl
theorem ok_check_split (T : Tops K mg) (D_check_box : DefOk P w K mg base 4 "check_box" ps_check_box (spCheck K)) (D_check_weights : DefOk P w K mg base 2 "check_weights" ps_check_weights (spCheckW K)) (D_check_side : DefOk P w K mg base 2 "check_side" ps_check_side spCheckS) : DefOk P w K mg base 5 "check_split" ps_check_split (spCheckSp K) := by
  refine T.d_check_split.ok sc_check_split (fun vs H Q E h => ?_) (fun f cdv A outer s H vs Q E hr h => ?_)
  · unfold spCheckSp at h
    obtain ⟨_, _, _, _, _, rfl, _⟩ := h
    rfl
  · unfold spCheckSp at h
    obtain ⟨v, a, b, ws, d, rfl, hV, hO, hI, hW, q⟩ := h
    refine ⟨_, (pss_cons (ps_expr (pe_callD D_check_box hr (by decide) (by rfl) (pa_cons (pv 0) pa_nil))) (pss_cons (ps_expr (pe_callD D_check_weights hr (by decide) (by rfl) (pa_cons (pv 1) pa_nil))) (pss_one (ps_expr (pe_callD D_check_side hr (by decide) (by rfl) (pa_cons (pv 2) pa_nil)))))), ?_⟩
    refine ⟨_, rfl, check_step hV hO (by decide) fun H1 s1 => ?_⟩
    refine ⟨_, rfl, checkw_step (hI.same s1) hW fun H2 s2 => ?_⟩
    refine ⟨_, rfl, checks_step (d := d) fun H3 s3 => ?_⟩
    exact q _ _ (s1.trans (s2.trans s3)) rfl
theorem ok_shape_between (T : Tops K mg) (D_part : DefOk P w K mg base 1 "part" ps_part (spPart K)) (D_times : DefOk P w K mg base 2 "times" ps_times (spTwo K (fun _ _ => True) fun x y => x * y)) (D_over : DefOk P w K mg base 2 "over" ps_over (spTwo K (fun _ y => y ≠ 0) fun x y => x / y)) (D_greater : DefOk P w K mg base 2 "greater" ps_greater (spTwo K (fun _ _ => True) fun x y => gr x y)) : DefOk P w K mg base 3 "_shape_between" ps__shape_between (spShapeB K) := by
  refine T.d_shape_between.ok sc__shape_between (fun vs H Q E h => ?_) (fun f cdv A outer s H vs Q E hr h => ?_)
  · unfold spShapeB at h
    obtain ⟨_, _, _, _, _, _, _, _, _, rfl, _⟩ := h
    rfl
  · unfold spShapeB at h
    obtain ⟨v, a, b, ws, lo, hi, first, size, d, rfl, hV, hO, hS, hW, e1, e2, h0, h1, q⟩ := h
    obtain ⟨t_DOWN, mg_DOWN⟩ := T.m_DOWN
    obtain ⟨na_ONE, mg_ONE, h1N⟩ := T.m_ONE
    refine ⟨_, (C8.pss_cut (ps_set (i := 5) sc__shape_between.nd rfl (.inl rfl) (pe_slice (SlR.or sl_list sl_tupA) (pv 1) (po_some (pv 2)) (po_some (pv 3)))) (C8.pss_cut (ps_set (i := 6) sc__shape_between.nd rfl (.inl rfl) (pe_ifExp (pt_cmpR op_eq (pv 4) (pe_glob (v := V.str "down") (by rfl) mg_DOWN ⟨_, rfl⟩) (nomark _)) (pe_callD D_over hr (by decide) (by rfl) (pa_cons (pe_ix ix_tup (pv 0) pe_int (fun _ _ => rfl)) (pa_cons (pe_ix ix_tup (pv 0) pe_int (fun _ _ => rfl)) pa_nil))) (pe_callD D_over hr (by decide) (by rfl) (pa_cons (pe_ix ix_tup (pv 0) pe_int (fun _ _ => rfl)) (pa_cons (pe_ix ix_tup (pv 0) pe_int (fun _ _ => rfl)) pa_nil))))) (pss_cons (ps_set (i := 7) sc__shape_between.nd rfl (.inl rfl) (pe_callD D_times hr (by decide) (by rfl) (pa_cons (pv 6) (pa_cons (pe_callD D_part hr (by decide) (by rfl) (pa_cons (pe_callB (cr_sumA rfl) (by rfl) T.m_sum (by decide +kernel) (pa_cons (pv 1) pa_nil)) (pa_cons (pe_op op_pow (pe_callB (cr_sumA rfl) (by rfl) T.m_sum (by decide +kernel) (pa_cons (pv 5) pa_nil)) pe_int) pa_nil))) pa_nil)))) (pss_cons (ps_set (i := 8) sc__shape_between.nd rfl (.inl rfl) (pe_callD D_times hr (by decide) (by rfl) (pa_cons (pv 7) (pa_cons (pe_tup (pa_cons (pe_callB (cr_maxA rfl) (by rfl) T.m_max (by decide +kernel) (pa_cons (pv 5) pa_nil)) (pa_cons pe_int pa_nil))) pa_nil)))) (pss_cons (ps_set (i := 9) sc__shape_between.nd rfl (.inl rfl) (pe_callD D_times hr (by decide) (by rfl) (pa_cons (pv 7) (pa_cons (pe_tup (pa_cons (pe_callB (cr_minA rfl) (by rfl) T.m_min (by decide +kernel) (pa_cons (pv 5) pa_nil)) (pa_cons pe_int pa_nil))) pa_nil)))) (pss_one (ps_ret (pe_callD D_greater hr (by decide) (by rfl) (pa_cons (pv 8) (pa_cons (pe_callD D_over hr (by decide) (by rfl) (pa_cons (pe_glob (v := V.ref na_ONE) (by rfl) mg_ONE rfl) (pa_cons (pv 9) pa_nil))) pa_nil)))))))))), ?_⟩
    have hr := rowM_ok hW h0 h1
    have hcut := cut_rowM e1 e2 h1
    obtain ⟨av, w1, w2, w3, w4, rfl, hA⟩ := hV
    refine ⟨fun σ' H' => ∃ p, σ' = [some (.ref av), some (.ref a), some (.int lo), some (.int hi), some (.str (sd d)), some (.ref p), none, none, none, none] ∧ Same H H' ∧ IntsV K H' p (rowM ws first size), ?_, ?_⟩
    · refine ⟨_, rfl, _, rfl, _, rfl, _, rfl, _, rfl, ?_⟩
      rcases hS with hs | hs
      · refine .inl ⟨a, _, rfl, hs, fun p np => ⟨p, rfl, same_new np, .inl ?_⟩⟩
        rw [← hcut]
        exact SqL.of upd_same
      · refine .inr ⟨a, _, rfl, hs, fun hw => ⟨a, rfl, Same.refl _, .inr ?_⟩, fun hw p np => ⟨p, rfl, same_new np, .inr ?_⟩⟩
        · have e : cutV (ws.map V.int) (some lo) (some hi) = ws.map V.int := by
            unfold cutV
            rw [hw.1, hw.2, List.drop_zero, Nat.sub_zero]
            exact List.take_of_length_le (Nat.le_refl _)
          rw [← hcut, e]
          exact hs
        · rw [← hcut]
          exact SqT.of upd_same
    rintro σ' H1 ⟨p, rfl, sp, hR⟩
    have hA1 := hA.same sp
    have nz : ∀ {x : Rat}, 0 < x → x ≠ 0 := fun h z => by
      rw [z] at h
      exact absurd h (by decide)
    have zal : Sz 1000 (if d then b.w / b.h else b.h / b.w) := by
      cases d with
      | true => exact sz_div hO.sw hO.sh (nz hO.h0) (by decide)
      | false => exact sz_div hO.sh hO.sw (nz hO.w0) (by decide)
    refine ⟨fun σ' H' => ∃ al, σ' = [some (.ref av), some (.ref a), some (.int lo), some (.int hi), some (.str (sd d)), some (.ref p), some al, none, none, none] ∧ Same H1 H' ∧ PtV K H' al (if d then b.w / b.h else b.h / b.w), ?_, ?_⟩
    · refine ⟨_, rfl, rfl, _, rfl, ?_⟩
      rw [sd_eq]
      cases d with
      | true => exact ⟨_, rfl, av, _, _, _, rfl, rfl, hA1.1, rfl, _, rfl, av, _, _, _, rfl, rfl, hA1.1, rfl, two_step hA1.2.2.2.1 hA1.2.2.2.2 hO.sw hO.sh (by decide) (by decide) (nz hO.h0) fun u H2 s2 hu => ⟨u, rfl, s2, hu⟩⟩
      | false => exact ⟨_, rfl, av, _, _, _, rfl, rfl, hA1.1, rfl, _, rfl, av, _, _, _, rfl, rfl, hA1.1, rfl, two_step hA1.2.2.2.2 hA1.2.2.2.1 hO.sh hO.sw (by decide) (by decide) (nz hO.w0) fun u H2 s2 hu => ⟨u, rfl, s2, hu⟩⟩
    rintro σ' H2 ⟨al, rfl, s2, hal⟩
    have hrs := hr.sum
    have hws := hW.sum
    have hR2 := hR.same s2
    have hpos := Int.mul_pos hrs.1 hrs.1
    have hle : (rowM ws first size).sum * (rowM ws first size).sum ≤ 4800000 * 4800000 := Int.mul_le_mul hrs.2 hrs.2 (by omega) (by omega)
    have epow : (rowM ws first size).sum ^ (2 : Int).toNat = (rowM ws first size).sum * (rowM ws first size).sum := by
      show (rowM ws first size).sum ^ 2 = _
      rw [Int.pow_succ, Int.pow_succ, Int.pow_zero, Int.one_mul]
    refine ⟨_, rfl, _, rfl, sum_step (hS.same (sp.trans s2)) ?_⟩
    refine ⟨_, rfl, sum_step hR2 ⟨_, _, rfl, rfl, ⟨by decide, by decide, Nat.lt_of_lt_of_le (show (rowM ws first size).sum.natAbs < 2 ^ 23 by omega) (by decide)⟩, ?_⟩⟩
    refine ⟨ws.sum, (rowM ws first size).sum * (rowM ws first size).sum, congrArg (fun z => [V.int ws.sum, V.int z]) epow, by omega, pow_mono_lt (sz23 (by omega)) (by decide), pow_mono_lt (show ((rowM ws first size).sum * (rowM ws first size).sum).natAbs < 2 ^ 46 by omega) (by decide), fun y H3 s3 hy => ?_⟩
    have zy : Sz 46 (Rat.divInt ws.sum ((rowM ws first size).sum * (rowM ws first size).sum)) := size_divInt (by omega) (show ws.sum.natAbs < 2 ^ 46 by omega) (by omega)
    refine two_step (hal.same s3) hy zal zy (by decide) (by decide) trivial fun bw H4 s4 hbw => ?_
    have zb : Sz 1046 (gform b ws.sum (rowM ws first size) d) := sz_mul zal zy (Nat.le_refl _)
    have hbw : PtV K H4 bw (gform b ws.sum (rowM ws first size) d) := hbw
    have hR4 := hR2.same (s3.trans s4)
    have hl0 := hr.l0
    refine ⟨_, rfl, _, rfl, p, _, rfl, hR4, hl0, fun M hM hM2 => ⟨(show 2 ≤ sizeLine by decide), fun p2 np2 => ?_⟩⟩
    have bM := hr.g.mem hM
    have sp2 := same_new (o := .tup [.int M, .int 1]) np2
    refine two_step (hbw.same sp2) (ptv_int np2 M) zb (sz_int (by omega)) (by decide) (by decide) trivial fun lg H5 s5 hlg => ?_
    have e45 := sp2.trans s5
    have hR5 := hR4.same e45
    refine ⟨_, rfl, _, rfl, p, _, rfl, hR5, hl0, fun m hm hm2 => ⟨(show 2 ≤ sizeLine by decide), fun p3 np3 => ?_⟩⟩
    have bm := hr.g.mem hm
    have sp3 := same_new (o := .tup [.int m, .int 1]) np3
    have zm : Sz 23 ((m : Int) : Rat) := sz_int (by omega)
    have zM : Sz 23 ((M : Int) : Rat) := sz_int (by omega)
    refine two_step ((hbw.same e45).same sp3) (ptv_int np3 m) zb zm (by decide) (by decide) trivial fun sh H6 s6 hsh => ?_
    have pm := Rat.mul_pos (gform_pos hO hws.1 hrs.1 d) (int_pos (i := m) (by omega))
    refine ⟨_, rfl, _, rfl, two_step (h1N H6) hsh sz_one (sz_mul zb zm (Nat.le_refl _)) (by decide) (by decide) (nz pm) fun iv H7 s7 hiv => ?_⟩
    refine two_step ((hlg.same (sp3.trans s6)).same s7) hiv (sz_mul zb zM (Nat.le_refl _)) (sz_div sz_one (sz_mul zb zm (Nat.le_refl _)) (nz pm) (Nat.le_refl _)) (by decide) (by decide) trivial fun u H8 s8 hu => ?_
    refine q u H8 (sp.trans (s2.trans (s3.trans (s4.trans (e45.trans (sp3.trans (s6.trans (s7.trans s8)))))))) ?_
    rw [rowShape_eq hO hW h0 h1 hM hM2 hm hm2]
    exact hu
theorem ok_row_shapes (T : Tops K mg) (D_shape_between : DefOk P w K mg base 3 "_shape_between" ps__shape_between (spShapeB K)) : DefOk P w K mg base 4 "row_shapes" ps_row_shapes (spShapesI K) := by
  refine T.d_row_shapes.ok sc_row_shapes (fun vs H Q E h => ?_) (fun f cdv A outer s H vs Q E hr h => ?_)
  · unfold spShapesI at h
    obtain ⟨_, _, _, _, _, rfl, _⟩ := h
    rfl
  · unfold spShapesI at h
    obtain ⟨v, a, b, ws, d, rfl, hV, hO, hS, hW, q⟩ := h
    refine ⟨_, (pss_cons (ps_set (i := 3) sc_row_shapes.nd rfl (.inl rfl) (pe_callB call_len_seq (by rfl) T.m_len PySem.boot_len (pa_cons (pv 1) pa_nil))) (pss_cons (ps_set (i := 4) sc_row_shapes.nd rfl (.inl rfl) pe_dnewT) (pss_cons (ps_for PassesOwn.never rfl (pi_range1 rfl T.m_range (pa_cons (pv 3) pa_nil)) (pg_name (i := 5) sc_row_shapes.nd rfl (.inl rfl)) (pss_one (ps_for PassesOwn.never rfl (pi_range2 rfl T.m_range (pa_cons (pe_op op_add (pv 5) pe_int) (pa_cons (pe_op op_add (pv 3) pe_int) pa_nil))) (pg_name (i := 6) sc_row_shapes.nd rfl (.inl rfl)) (pss_one (ps_dput (u1 hr.units) (pv 4) (pe_tup (pa_cons (pv 5) (pa_cons (pv 6) pa_nil))) (pe_callD D_shape_between hr (by decide) (by rfl) (pa_cons (pv 0) (pa_cons (pv 1) (pa_cons (pv 5) (pa_cons (pv 6) (pa_cons (pv 2) pa_nil)))))) rfl))))) (pss_one (ps_ret (pv 4)))))), ?_⟩
    have hl1 := hW.l1
    refine ⟨_, rfl, a, _, rfl, hS, ?_⟩
    rw [List.length_map]
    refine fun F nF => ?_
    have sF := same_new (o := .dT []) nF
    refine ⟨_, rfl, (ws.length : Int), rfl, by omega, by omega, ?_⟩
    refine for_range (lo := 0) (n := ws.length) (fun i σ H' => ∃ (v5 v6 : Option V), σ = [some v, some (.ref a), some (.str (sd d)), some (.int ws.length), some (.ref F), v5, v6] ∧ Same H H' ∧ DSh K ws.length (fun i' j => i' < i ∧ AllR ws.length i' j) (fSh b ws d) (13 * i) H' F) ⟨none, none, rfl, sF, [], upd_same, Nat.le_refl _, (fun kv h => by cases h), fun i j c => absurd c.1 (by omega)⟩ ?_ ?_
    · rintro i σ H1 hi ⟨v5, v6, rfl, s1, hD⟩
      have ei : (0 + (i : Int)) = ((i : Nat) : Int) := by omega
      rw [ei]
      refine ⟨_, rfl, _, _, rfl, rfl, _, rfl, _, _, rfl, rfl, _, _, rfl, ⟨by omega, by omega, by omega, by omega⟩, ?_⟩
      refine for_range (lo := (i : Int) + 1) (n := ((ws.length : Int) + 1 - ((i : Int) + 1)).toNat) (fun k σ H' => ∃ (v6 : Option V), σ = [some v, some (.ref a), some (.str (sd d)), some (.int ws.length), some (.ref F), some (.int (i : Int)), v6] ∧ Same H H' ∧ DSh K ws.length (fun i' j => (i' < i ∧ AllR ws.length i' j) ∨ (i' = i ∧ i < j ∧ j < i + 1 + k)) (fSh b ws d) (13 * i + k) H' F) ⟨_, rfl, s1, hD.mono (fun i' j c => by rcases c with c | c; exact c; omega) (by omega)⟩ ?_ ?_
      · rintro k σ H2 hk ⟨v6, rfl, s2, hD2⟩
        have e2 : (i : Int) + 1 + (k : Int) = ((i + 1 + k : Nat) : Int) := by omega
        rw [e2]
        refine ⟨_, rfl, _, rfl, _, rfl, _, rfl, _, rfl, shapebI_step (d := d) (lo := (i : Int)) (hi := ((i + 1 + k : Nat) : Int)) i (k + 1) (hV.same s2) hO (Nat.le_refl _) (hS.same s2) hW rfl (by omega) (by omega) (by omega) fun u H3 s3 hu => ?_⟩
        refine ⟨_, rfl, _, rfl, _, rfl, (show 2 ≤ sizeLine by decide), fun p np => ?_⟩
        have s4 := same_new (o := .tup [.int (i : Int), .int ((i + 1 + k : Nat) : Int)]) np
        have ef : fSh b ws d i (i + 1 + k) = rowShape b ws i (k + 1) d := by
          unfold fSh
          rw [show i + 1 + k - i = k + 1 by omega]
        rw [← ef] at hu
        obtain ⟨H5, h1, h2, h3⟩ := ((hD2.same s3).same s4).put ⟨by omega, by omega⟩ (by omega) (hu.same s4) p upd_same
        refine ⟨F, H5, rfl, h1, _, rfl, same_kp nF (s2.trans (s3.trans s4)) h2, h3.mono (fun i' j c => ?_) (by omega)⟩
        rcases c with c | ⟨c1, c2, c3⟩
        · exact .inl (.inl c)
        · by_cases z : j = i + 1 + k
          · exact .inr ⟨c1, z⟩
          · exact .inl (.inr ⟨c1, c2, by omega⟩)
      · rintro σ H2 ⟨v6, rfl, s2, hD2⟩
        refine ⟨_, _, rfl, s2, hD2.mono (fun i' j c => ?_) (by omega)⟩
        obtain ⟨c1, c2, c3⟩ := c
        by_cases z : i' = i
        · exact .inr ⟨z, by omega, by omega⟩
        · exact .inl ⟨by omega, c2, c3⟩
    · rintro σ H1 ⟨v5, v6, rfl, s1, hD⟩
      exact ⟨_, rfl, q F H1 nF s1 (hD.mono (fun i' j c => ⟨by have := c.1; have := c.2; omega, c⟩) (by omega))⟩
theorem ok_greedy (T : Tops K mg) (D_less : DefOk P w K mg base 1 "less" ps_less (spLess K)) (D_check_split : DefOk P w K mg base 5 "check_split" ps_check_split (spCheckSp K)) (D_row_shapes : DefOk P w K mg base 4 "row_shapes" ps_row_shapes (spShapesI K)) : DefOkS P w K mg base 6 "greedy" ps_greedy 2 (.str "down") (spGreedy K) := by
  refine T.d_greedy.ok sc_greedy (fun vs H Q E h => ?_) (fun f cdv A outer s H vs Q E hr h => ?_)
  · unfold spGreedy at h
    obtain ⟨_, _, _, _, _, rfl, _⟩ := h
    rfl
  · unfold spGreedy at h
    obtain ⟨v, a, b0, ws, d, rfl, hV, hO, hS, hW, q⟩ := h
    refine ⟨_, (pss_cons (ps_expr (pe_callD D_check_split hr (by decide) (by rfl) (pa_cons (pv 0) (pa_cons (pv 1) (pa_cons (pv 2) pa_nil))))) (pss_cons (ps_set (i := 3) sc_greedy.nd rfl (.inl rfl) (pe_callD D_row_shapes hr (by decide) (by rfl) (pa_cons (pv 0) (pa_cons (pv 1) (pa_cons (pv 2) pa_nil))))) (pss_cons (ps_set (i := 4) sc_greedy.nd rfl (.inl rfl) (pe_lst pa_nil)) (pss_cons (ps_set (i := 5) sc_greedy.nd rfl (.inl rfl) pe_int) (pss_cons (ps_while PassesOwn.never (pt_cmpR op_lt (pv 5) (pe_callB call_len_seq (by rfl) T.m_len PySem.boot_len (pa_cons (pv 1) pa_nil)) (nomark _)) (pss_cons (ps_set (i := 6) sc_greedy.nd rfl (.inl rfl) (pe_op op_add (pv 5) pe_int)) (pss_cons (ps_while PassesOwn.never (PW.pt (pw_and (pt_cmpR op_lt (pv 6) (pe_callB call_len_seq (by rfl) T.m_len PySem.boot_len (pa_cons (pv 1) pa_nil)) (nomark _)) (pw_and1 (pt_not (pt_val (pe_callD D_less hr (by decide) (by rfl) (pa_cons (pe_dget (u1 hr.units) (pv 3) (pe_tup (pa_cons (pv 5) (pa_cons (pv 6) pa_nil))) (fun _ _ => rfl)) (pa_cons (pe_dget (u1 hr.units) (pv 3) (pe_tup (pa_cons (pv 5) (pa_cons (pe_op op_add (pv 6) pe_int) pa_nil))) (fun _ _ => rfl)) pa_nil)))))))) (pss_one (ps_aug (i := 6) sc_greedy.nd rfl (.inl rfl) pe_int ip_add))) (pss_cons (ps_expr (pe_bm PySem.F.plainAttrs_list PySem.F.slot_list_append PySem.F.type_list_append mt_append (pv 4) (pa_cons (pe_op op_sub (pv 6) (pv 5)) pa_nil))) (pss_one (ps_set (i := 5) sc_greedy.nd rfl (.inl rfl) (pv 6))))))) (pss_one (ps_ret (pe_callTy call_tuple_of (by rfl) T.m_tuple (by decide +kernel) (pa_cons (pv 4) pa_nil))))))))), ?_⟩
    refine ⟨_, rfl, _, rfl, _, rfl, checksp_step (d := d) hV hO (by decide) (.inl hS) hW fun H0 s0 => ?_⟩
    refine ⟨_, rfl, _, rfl, _, rfl, shapesI_step (d := d) (hV.same s0) hO (Nat.le_refl _) (.inl (seqL_same s0 hS)) hW fun D H1 nD s1 hD => ?_⟩
    have hn := hW.l1
    have hz := sz_fSh hO hW d (Nat.le_refl _)
    have s01 := s0.trans s1
    have hS1 := seqL_same s01 hS
    generalize fSh b0 ws d = g at *
    obtain ⟨n, en⟩ : ∃ n, n = ws.length := ⟨_, rfl⟩
    rw [← en] at hD hz q hn
    refine ⟨Nat.zero_le _, fun F nF => ?_⟩
    have sF : Same H1 (upd H1 F (.lst [])) := same_new nF
    have hgl := (greedy_sok g n).len
    refine ⟨fun mm σ H' => ∃ (v6 : Option V) (b : Nat) (ss : List Int), σ = [some v, some (.ref a), some (.str (sd d)), some (.ref D), some (.ref F), some (.int b), v6] ∧ b ≤ n ∧ ss ++ greedyL g n b = greedyL g n 0 ∧ Same H1 H' ∧ H' F = some (.lst (ss.map V.int)) ∧ mm = n - b, ⟨_, none, 0, [], rfl, by omega, rfl, sF, upd_same, rfl⟩, ?_⟩
    rintro mm σ H2 ⟨v6, b, ss, rfl, hb, hss, s2, hF, hm⟩
    have hssl := congrArg List.length hss
    rw [List.length_append] at hssl
    refine ⟨_, rfl, _, rfl, a, _, rfl, .inl (seqL_same s2 hS1), _, _, rfl, rfl, _, rfl, ?_⟩
    refine ite2 (fun hd => ?_) (fun hd => ?_)
    · have hb' : b < n := by
        have := of_decide_eq_true hd
        rw [List.length_map] at this
        omega
      refine ⟨fun σ' H'' => ∃ (v6 : Option V) (b' : Nat) (ss : List Int), σ' = [some v, some (.ref a), some (.str (sd d)), some (.ref D), some (.ref F), some (.int b'), v6] ∧ b' ≤ n ∧ ss ++ greedyL g n b' = greedyL g n 0 ∧ Same H1 H'' ∧ H'' F = some (.lst (ss.map V.int)) ∧ n - b' < mm, fun σ' H'' h => ?_, ?_⟩
      · obtain ⟨v6, b', ss, rfl, h1, h2, h3, h4, h5⟩ := h
        exact ⟨_, h5, v6, b', ss, rfl, h1, h2, h3, h4, rfl⟩
      refine ⟨_, rfl, _, _, rfl, rfl, ?_⟩
      refine ⟨fun m2 σ H'' => ∃ e : Nat, σ = [some v, some (.ref a), some (.str (sd d)), some (.ref D), some (.ref F), some (.int b), some (.int e)] ∧ Same H1 H'' ∧ H'' F = some (.lst (ss.map V.int)) ∧ b + 1 ≤ e ∧ e ≤ n ∧ gEnd g n b (b + 1) = gEnd g n b e ∧ m2 = n - e, ⟨_, b + 1, rfl, s2, hF, by omega, by omega, rfl, rfl⟩, ?_⟩
      rintro m2 σ H3 ⟨e, rfl, s3, hF3, he1, he2, hg, hm2⟩
      have exit : ∀ H4, Same H1 H4 → H4 F = some (.lst (ss.map V.int)) → gEnd g n b (b + 1) = e → ss ++ [(((e - b : Nat) : Nat) : Int)] ++ greedyL g n e = greedyL g n 0 := fun H4 _ _ h => by
        have hgo := greedyL_go (f := g) hb'
        rw [h] at hgo
        rw [← hss, hgo, List.append_assoc]
        rfl
      by_cases c1 : (e : Int) < (n : Int)
      · refine ⟨_, rfl, _, rfl, a, _, rfl, .inl (seqL_same s3 hS1), _, _, rfl, rfl, true, congrArg V.bl (decide_eq_true (by rw [List.length_map]; omega)), ?_⟩
        have hD3 := hD.same s3
        refine ⟨_, rfl, _, rfl, _, rfl, (show 2 ≤ sizeLine by decide), fun p np => ?_⟩
        have sp := same_new (o := .tup [.int (b : Int), .int (e : Int)]) np
        have hD4 := hD3.same sp
        obtain ⟨u1', g1, g2⟩ := hD4.get (i := b) (j := e) ⟨by omega, by omega⟩ p upd_same
        refine ⟨D, u1', rfl, g1, ?_⟩
        refine ⟨_, rfl, _, rfl, _, rfl, _, _, rfl, rfl, (show 2 ≤ sizeLine by decide), fun p2 np2 => ?_⟩
        have sp2 := same_new (o := .tup [.int (b : Int), .int ((e + 1 : Nat) : Int)]) np2
        obtain ⟨u2', g3, g4⟩ := (hD4.same sp2).get (i := b) (j := e + 1) ⟨by omega, by omega⟩ p2 upd_same
        refine ⟨D, u2', rfl, g3, ?_⟩
        refine less_step (g2.same sp2) g4 (hz _ _ ⟨by omega, by omega⟩) (hz _ _ ⟨by omega, by omega⟩) (Nat.le_refl _) (Nat.le_refl _) ?_
        have s5 := s3.trans (sp.trans sp2)
        have hF5 := (sp.trans sp2) _ _ hF3
        refine ⟨_, rfl, ?_⟩
        by_cases c2 : g b e < g b (e + 1)
        · rw [decide_eq_true c2]
          refine iteF ?_
          have hx := exit _ s5 hF5 (hg.trans (gEnd_stop (fun z => z.2 c2)))
          refine ⟨_, rfl, .inl ⟨rfl, _, SqL.of hF5⟩, _, rfl, _, rfl, _, _, rfl, rfl, F, ss.map V.int, _, rfl, rfl, hF5, small1000 (by rw [List.length_map]; omega), ?_⟩
          refine ⟨_, rfl, _, e, ss ++ [((e - b : Nat) : Int)], rfl, he2, hx, same_write nF s5, ?_, by omega⟩
          rw [upd_same, List.map_append]
          show some (HO.lst (_ ++ [V.int ((e : Int) - (b : Int))])) = some (HO.lst (_ ++ [V.int ((e - b : Nat) : Int)]))
          rw [show (e : Int) - (b : Int) = ((e - b : Nat) : Int) by omega]
        · rw [decide_eq_false c2]
          refine iteT ?_
          refine ⟨fun σ' H'' => ∃ e : Nat, σ' = [some v, some (.ref a), some (.str (sd d)), some (.ref D), some (.ref F), some (.int b), some (.int e)] ∧ Same H1 H'' ∧ H'' F = some (.lst (ss.map V.int)) ∧ b + 1 ≤ e ∧ e ≤ n ∧ gEnd g n b (b + 1) = gEnd g n b e ∧ n - e < m2, fun σ' H'' h => ?_, ?_⟩
          · obtain ⟨e, rfl, a1, a2, a3, a4, a5, a6⟩ := h
            exact ⟨_, a6, e, rfl, a1, a2, a3, a4, a5, rfl⟩
          refine ⟨_, rfl, _, _, rfl, rfl, e + 1, rfl, s5, hF5, by omega, by omega, ?_, by omega⟩
          rw [hg]
          exact gEnd_go ⟨by omega, c2⟩
      · refine ⟨_, rfl, _, rfl, a, _, rfl, .inl (seqL_same s3 hS1), _, _, rfl, rfl, false, congrArg V.bl (decide_eq_false (by rw [List.length_map]; omega)), ?_⟩
        refine iteF ?_
        have hx := exit _ s3 hF3 (hg.trans (gEnd_stop (fun z => by have := z.1; omega)))
        refine ⟨_, rfl, .inl ⟨rfl, _, SqL.of hF3⟩, _, rfl, _, rfl, _, _, rfl, rfl, F, ss.map V.int, _, rfl, rfl, hF3, small1000 (by rw [List.length_map]; omega), ?_⟩
        refine ⟨_, rfl, _, e, ss ++ [((e - b : Nat) : Int)], rfl, he2, hx, same_write nF s3, ?_, by omega⟩
        rw [upd_same, List.map_append]
        show some (HO.lst (_ ++ [V.int ((e : Int) - (b : Int))])) = some (HO.lst (_ ++ [V.int ((e - b : Nat) : Int)]))
        rw [show (e : Int) - (b : Int) = ((e - b : Nat) : Int) by omega]
    · have hb' : b = n := by
        have : ¬ (b : Int) < ((ws.map V.int).length : Int) := fun z => hd (decide_eq_true z)
        rw [List.length_map] at this
        omega
      rw [greedyL_stop (by omega), List.append_nil] at hss
      refine ⟨_, rfl, F, _, rfl, .inl ⟨SqL.of hF, fun l nl => ?_⟩⟩
      have sl := same_new (o := .tup (ss.map V.int)) nl
      exact q l _ (s01.trans (s2.trans sl)) (by rw [← hss]; exact upd_same)
theorem ok_law_bag (T : Tops K mg)  : DefOk P w K mg base 1 "_law_bag" ps__law_bag (spBag K) := by
  refine T.d_law_bag.ok sc__law_bag (fun vs H Q E h => ?_) (fun f cdv A outer s H vs Q E hr h => ?_)
  · obtain ⟨a, ns, rfl, _⟩ := h
    rfl
  · obtain ⟨a, ns, rfl, hS, hlen, q⟩ := h
    refine ⟨_, (pss_one (ps_ret (pe_lst (pa_cons (pe_callTy call_list_of (by rfl) T.m_list (by decide +kernel) (pa_cons (pe_slice sl_list (pv 0) po_none (po_some pe_int)) pa_nil)) (pa_cons pe_int (pa_cons pe_int (pa_cons (pe_op op_add pe_int (pe_callB call_len_seq (by rfl) T.m_len PySem.boot_len (pa_cons (pe_slice sl_list (pv 0) po_none (po_some pe_int)) pa_nil))) (pa_cons pe_int pa_nil)))))))), ?_⟩
    have ec : cutV (ns.map V.int) none (some 63) = ns.map V.int := cut63 (by rw [List.length_map]; exact hlen)
    refine ⟨_, rfl, _, rfl, a, _, rfl, hS, fun p np => ⟨p, _, rfl, .inl (SqL.of upd_same), fun l nl => ?_⟩⟩
    rw [ec] at nl ⊢
    have s1 : Same H (upd H p (.lst (ns.map V.int))) := same_new np
    have s2 := s1.trans (same_new (o := .lst (ns.map V.int)) nl)
    refine ⟨_, rfl, _, rfl, a, _, rfl, s2.seq hS, fun p2 np2 => ⟨p2, _, rfl, .inl (SqL.of upd_same), ?_⟩⟩
    refine ⟨_, _, rfl, rfl, (show 5 ≤ sizeLine by decide), fun b nb => q b _ ?_ ?_ ?_⟩
    · exact (s2.trans (same_new np2)).free nb
    · exact (s2.trans (same_new np2)).trans (same_new nb)
    · have hl0 : (upd (upd H p (.lst (ns.map V.int))) l (.lst (ns.map V.int))) l = some (.lst (ns.map V.int)) := upd_same
      have s3 := (same_new (o := .lst (cutV (ns.map V.int) none (some 63))) np2).trans (same_new (o := HO.lst [V.ref l, V.int 0, V.int 0, V.int (9103 + ((cutV (ns.map V.int) none (some 63)).length : Nat)), V.int 0]) nb)
      refine ⟨l, ns, 0, 0, _, 0, upd_same, s3 _ _ hl0, ?_, hlen, Int.le_refl 0, ?_, ?_⟩
      · exact ne_of_none (same_new np2 _ _ hl0) nb
      all_goals
        rw [ec, List.length_map]
        omega
theorem ok_law_get (T : Tops K mg)  : DefOk P w K mg base 1 "_law_get" ps__law_get spGet := by
  refine T.d_law_get.ok sc__law_get (fun vs H Q E h => ?_) (fun f cdv A outer s H vs Q E hr h => ?_)
  · obtain ⟨a, c, rfl, _⟩ := h
    rfl
  · obtain ⟨b, m, rfl, hB, hm0, hm1, q⟩ := h
    refine ⟨_, (C8.pss_cut (ps_if (PW.pt (pw_and (pt_cmpR op_lt (pe_ix ix_list (pv 0) pe_int (fun _ _ => rfl)) (pv 1) (nomark _)) (pw_and1 (pt_cmpR op_lt (pe_ix ix_list (pv 0) pe_int (fun _ _ => rfl)) (pe_callB call_len_seq (by rfl) T.m_len PySem.boot_len (pa_cons (pe_ix ix_list (pv 0) pe_int (fun _ _ => rfl)) pa_nil)) (nomark _))))) (pss_cons (ps_set (i := 2) sc__law_get.nd rfl (.inl rfl) (pe_ix ix_list (pe_ix ix_list (pv 0) pe_int (fun _ _ => rfl)) (pe_ix ix_list (pv 0) pe_int (fun _ _ => rfl)) (fun _ _ => rfl))) (pss_cons (ps_asg (pe_op op_add (pe_ix ix_list (pv 0) pe_int (fun _ _ => rfl)) pe_int) (pg_sub (pv 0) pe_int set_list)) (pss_cons (ps_asg (pe_ifExp (pt_cmpR op_ge (pv 2) (pe_op op_pow pe_int pe_int) (nomark _)) (pe_op op_sub (pv 2) (pe_op op_pow pe_int pe_int)) pe_int) (pg_sub (pv 0) pe_int set_list)) (pss_one (ps_asg (pe_op op_mod (pe_op op_add (pe_op op_add (pe_op op_mulA (pe_ix ix_list (pv 0) pe_int (fun _ _ => rfl)) pe_int) (pe_op op_mulA (pv 2) pe_int)) (pe_op op_mulA pe_int (pe_ix ix_list (pv 0) pe_int (fun _ _ => rfl)))) pe_int) (pg_sub (pv 0) pe_int set_list)))))) pss_nil) (pss_cons (ps_if (pt_cmpR op_ge (pe_ix ix_list (pv 0) pe_int (fun _ _ => rfl)) (pv 1) (nomark _)) (pss_cons (ps_set (i := 3) sc__law_get.nd rfl (.inl rfl) (pe_op op_mod (pe_ix ix_list (pv 0) pe_int (fun _ _ => rfl)) (pv 1))) (pss_cons (ps_asg (pe_op op_fdiv (pe_ix ix_list (pv 0) pe_int (fun _ _ => rfl)) (pv 1)) (pg_sub (pv 0) pe_int set_list)) (pss_one (ps_ret (pv 3))))) pss_nil) (pss_cons (ps_asg (pe_op op_add (pe_ix ix_list (pv 0) pe_int (fun _ _ => rfl)) pe_int) (pg_sub (pv 0) pe_int set_list)) (pss_cons (ps_set (i := 4) sc__law_get.nd rfl (.inl rfl) (pe_ix ix_list (pv 0) pe_int (fun _ _ => rfl))) (pss_cons (ps_asg (pe_op op_mod (pe_op op_add (pe_op op_add (pe_op op_add (pe_op op_mulA (pv 4) (pv 4)) (pe_op op_mulA pe_int (pv 4))) (pe_op op_mulA pe_int (pe_ix ix_list (pv 0) pe_int (fun _ _ => rfl)))) pe_int) pe_int) (pg_sub (pv 0) pe_int set_list)) (pss_one (ps_ret (pe_op op_mod (pe_op op_add (pe_op op_fdiv (pe_ix ix_list (pv 0) pe_int (fun _ _ => rfl)) pe_int) (pe_op op_mulA (pe_op op_fdiv (pv 4) pe_int) pe_int)) (pv 1))))))))), ?_⟩
    obtain ⟨c, ns, p, r, x, z, hb, hc, hcb, hl, hp, hx0, hx1⟩ := id hB
    refine ⟨fun σ' H' => ∃ v2, σ' = [some (.ref b), some (.int m), v2, none, none] ∧ Bag H' b ∧ KpG b H H', ?_, ?_⟩
    · repeat (walk_at "rd")
      refine iteD (fun hd => ?_) (fun hd => ?_)
      · repeat (walk_at "rd")
        refine iteD (fun hd2 => ?_) (fun hd2 => ?_)
        · rw [List.length_map] at hd2
          have hp2 : p.toNat < ns.length := by omega
          have ecell : atI (ns.map V.int) p = some (.int ns[p.toNat]) := by
            have e : p = ((p.toNat : Nat) : Int) := by omega
            have h := atI_nat (xs := ns.map V.int) (j := p.toNat) (v := .int ns[p.toNat]) (by rw [List.getElem?_map, List.getElem?_eq_getElem hp2]; rfl)
            rw [← e] at h
            exact h
          repeat (walk_at "rd")
          refine setL_step (ys := [.ref c, .int (p + 1), .int r, .int x, .int z]) hb (by rfl) (by rfl) fun H1 hb1 k1 => ?_
          repeat (walk_at "rd")
          refine iteD (fun hd3 => ?_) (fun hd3 => ?_)
          all_goals
            repeat (walk_at "rd")
            refine setL_step (ys := [.ref c, .int (p + 1), .int _, .int x, .int z]) hb1 (by rfl) (by rfl) fun H2 hb2 k2 => ?_
            repeat (walk_at "rd")
            refine setL_step (ys := [.ref c, .int (p + 1), .int _, .int _, .int z]) hb2 (by rfl) (by rfl) fun H3 hb3 k3 => ?_
            exact ⟨_, rfl, ⟨c, ns, p + 1, _, _, z, hb3, k3 _ _ (k2 _ _ (k1 _ _ hc hcb) hcb) hcb, hcb, hl, by omega, Int.emod_nonneg _ (by decide), Int.emod_lt_of_pos _ (by decide)⟩, k1.trans (k2.trans k3), fun c' ⟨r', e⟩ => by rw [hb] at e; cases e; exact ⟨_, hb3⟩⟩
        · exact ⟨_, rfl, hB, Kp.refl _ _, fun _ h => h⟩
      · repeat (walk_at "rd")
        exact ⟨Kp.refl _ _, fun _ h => h⟩
    · rintro σ' H' ⟨v2, rfl, hB', kp⟩
      obtain ⟨c, ns, p, r, x, z, hb, hc, hcb, hl, hp, hx0, hx1⟩ := hB'
      repeat (walk_at "rd")
      refine iteD (fun hd => ?_) (fun hd => ?_)
      · repeat (walk_at "rd")
        refine setL_step (ys := [.ref c, .int p, .int _, .int x, .int z]) hb (by rfl) (by rfl) fun H1 hb1 k1 => ?_
        refine ⟨_, rfl, q _ H1 (Int.emod_nonneg _ (by omega)) (Int.emod_lt_of_pos _ hm0) ⟨c, ns, p, _, x, z, hb1, k1 _ _ hc hcb, hcb, hl, hp, hx0, hx1⟩ ⟨kp.trans k1, fun c' h => by obtain ⟨r', e⟩ := kp.hd c' h; rw [hb] at e; cases e; exact ⟨_, hb1⟩⟩⟩
      · refine ⟨_, rfl, ?_⟩
        repeat (walk_at "rd")
        refine setL_step (ys := [.ref c, .int p, .int r, .int x, .int (z + 1)]) hb (by rfl) (by rfl) fun H1 hb1 k1 => ?_
        repeat (walk_at "rd")
        refine setL_step (ys := [.ref c, .int p, .int r, .int _, .int (z + 1)]) hb1 (by rfl) (by rfl) fun H2 hb2 k2 => ?_
        repeat (walk_at "rd")
        refine q _ H2 (Int.emod_nonneg _ (by omega)) (Int.emod_lt_of_pos _ hm0) ⟨c, ns, p, r, _, _, hb2, k2 _ _ (k1 _ _ hc hcb) hcb, hcb, hl, hp, Int.emod_nonneg _ (by decide), Int.emod_lt_of_pos _ (by decide)⟩ ⟨kp.trans (k1.trans k2), fun c' h => by obtain ⟨r', e⟩ := kp.hd c' h; rw [hb] at e; cases e; exact ⟨_, hb2⟩⟩
theorem ok_law_far (T : Tops K mg) (D_law_get : DefOk P w K mg base 1 "_law_get" ps__law_get spGet) : DefOk P w K mg base 2 "_law_far" ps__law_far spFar := by
  refine T.d_law_far.ok sc__law_far (fun vs H Q E h => ?_) (fun f cdv A outer s H vs Q E hr h => ?_)
  · obtain ⟨a, c, rfl, _⟩ := h
    rfl
  · obtain ⟨b, k, rfl, hB, hk, q⟩ := h
    refine ⟨_, (pss_cons (ps_set (i := 2) sc__law_far.nd rfl (.inl rfl) pe_int) (pss_cons (ps_for PassesOwn.never rfl (pi_range1 rfl T.m_range (pa_cons (pv 1) pa_nil)) (pg_name (i := 3) sc__law_far.nd rfl (.inl rfl)) (pss_one (ps_set (i := 2) sc__law_far.nd rfl (.inl rfl) (pe_op op_add (pe_op op_mulA (pv 2) pe_int) (pe_callD D_law_get hr (by decide) (by rfl) (pa_cons (pv 0) (pa_cons pe_int pa_nil))))))) (pss_one (ps_ret (pv 2))))), ?_⟩
    refine ⟨_, rfl, (k : Int), rfl, by omega, by omega, for_range (lo := 0) (n := k) (fun i σ H' => ∃ (r : Int) (v3 : Option V), σ = [some (.ref b), some (.int k), some (.int r), v3] ∧ 0 ≤ r ∧ r < 1000 ^ i ∧ Bag H' b ∧ Kp b H H') ⟨0, none, rfl, by decide, by decide, hB, Kp.refl _ _⟩ ?_ ?_⟩
    · rintro i σ H1 hi ⟨r, v3, rfl, h0, h1, hB1, k1⟩
      repeat (walk_at "rd")
      refine ⟨b, 1000, rfl, hB1, by decide, by decide, fun r' H2 h0' h1' hB2 k2 => ?_⟩
      refine ⟨_, _, rfl, rfl, _, _, rfl, ?_, ?_, hB2, k1.trans k2⟩
      · show 0 ≤ r * 1000 + r'
        omega
      · show r * 1000 + r' < 1000 ^ (i + 1)
        rw [Int.pow_succ]
        generalize (1000 : Int) ^ i = p at *
        omega
    · rintro σ H1 ⟨r, v3, rfl, h0, h1, hB1, k1⟩
      exact ⟨_, rfl, q r H1 h0 h1 hB1 k1⟩
theorem ok_law_same (T : Tops K mg)  : ∀ n, DefOk P w K mg base n "_law_same" ps__law_same (spSame K n)
  | 0 => defOk_none T.d_law_same fun vs H Q E z => by
    unfold spSame at z
    obtain ⟨_, _, d, _, _, _, h, _⟩ := z
    exact Bool.noConfusion h
  | n + 1 => by
    have D_law_same := ok_law_same T n
    refine T.d_law_same.ok sc__law_same (fun vs H Q E h => ?_) (fun f cdv A outer s H vs Q E hr h => ?_)
    · unfold spSame at h
      obtain ⟨_, _, _, rfl, _⟩ := h
      rfl
    · unfold spSame at h
      obtain ⟨v, u, d, rfl, hv, hu, hd, q⟩ := h
      refine ⟨_, (pss_cons (ps_if (pt_val (pe_callB call_isiI (by rfl) T.m_isinstance (by decide +kernel) (pa_cons (pv 1) (pa_cons (pe_bltn (v := V.ty "dict") (u := Value.type "dict") (by rfl) T.m_dict (by decide +kernel) rfl) pa_nil)))) (pss_cons ps_never (pss_one ps_never)) pss_nil) (pss_cons (ps_if (pt_val (pe_callB call_isiTI (by rfl) T.m_isinstance (by decide +kernel) (pa_cons (pv 1) (pa_cons (pe_tup (pa_cons (pe_bltn (v := V.ty "list") (u := Value.type "list") (by rfl) T.m_list (by decide +kernel) rfl) (pa_cons (pe_bltn (v := V.ty "tuple") (u := Value.type "tuple") (by rfl) T.m_tuple (by decide +kernel) rfl) pa_nil))) pa_nil)))) (pss_cons (ps_if (PW.pt (pw_or (pt_cmpR op_ne (pe_callB call_isiI (by rfl) T.m_isinstance (by decide +kernel) (pa_cons (pv 0) (pa_cons (pe_bltn (v := V.ty "tuple") (u := Value.type "tuple") (by rfl) T.m_tuple (by decide +kernel) rfl) pa_nil))) (pe_callB call_isiI (by rfl) T.m_isinstance (by decide +kernel) (pa_cons (pv 1) (pa_cons (pe_bltn (v := V.ty "tuple") (u := Value.type "tuple") (by rfl) T.m_tuple (by decide +kernel) rfl) pa_nil))) (nomark _)) (pw_or1 (pt_cmpR op_ne (pe_callB call_isiI (by rfl) T.m_isinstance (by decide +kernel) (pa_cons (pv 0) (pa_cons (pe_bltn (v := V.ty "list") (u := Value.type "list") (by rfl) T.m_list (by decide +kernel) rfl) pa_nil))) (pe_callB call_isiI (by rfl) T.m_isinstance (by decide +kernel) (pa_cons (pv 1) (pa_cons (pe_bltn (v := V.ty "list") (u := Value.type "list") (by rfl) T.m_list (by decide +kernel) rfl) pa_nil))) (nomark _))))) (pss_one (ps_ret pe_bl)) pss_nil) (pss_one (ps_ret (pe_and (pe_cmpR op_eq (pe_callB call_len_seq (by rfl) T.m_len PySem.boot_len (pa_cons (pv 0) pa_nil)) (pe_callB call_len_seq (by rfl) T.m_len PySem.boot_len (pa_cons (pv 1) pa_nil)) (nomark _)) (pe_one (pe_callB (cr_all rfl) (by rfl) T.m_all (by decide +kernel) (pa_cons (pe_lc (own := [("_law_one", 3), ("_law_other", 4)]) (g := gTup K 2 (gCons (gName 3) (gCons (gName 4) gNil))) (by rfl) sc__law_same.nd (RZ.pi_zipA (by rfl) T.m_zip (pa_cons (pv 0) (pa_cons (pv 1) pa_nil))) (blkOk_by (own := [("_law_one", 3), ("_law_other", 4)]) (N := ["_law_found", "_law_due", "_law_key_now", "_law_one", "_law_other"]) (sc := defScope s__law_same) (by decide +kernel)) (fun _ _ _ _ _ => (pg_tup rfl (pgs_cons (pg_name (i := 3) sc__law_same.nd rfl (.inl rfl)) (pgs_cons (pg_name (i := 4) sc__law_same.nd rfl (.inl rfl)) pgs_nil)))) (fun _ _ _ _ _ => pts_nil) (fun _ _ _ _ _ => (pe_callD D_law_same hr (Nat.le_refl _) (by rfl) (pa_cons (pv 3) (pa_cons (pv 4) pa_nil))))) pa_nil))))))) pss_nil) (pss_cons (ps_if (PW.pt (pw_or (pt_cmpR op_ne (pe_callB call_isiI (by rfl) T.m_isinstance (by decide +kernel) (pa_cons (pv 1) (pa_cons (pe_bltn (v := V.ty "bool") (u := Value.type "bool") (by rfl) T.m_bool (by decide +kernel) rfl) pa_nil))) (pe_callB call_isiI (by rfl) T.m_isinstance (by decide +kernel) (pa_cons (pv 0) (pa_cons (pe_bltn (v := V.ty "bool") (u := Value.type "bool") (by rfl) T.m_bool (by decide +kernel) rfl) pa_nil))) (nomark _)) (pw_or1 (pt_cmpR op_ne (pe_callB call_isiI (by rfl) T.m_isinstance (by decide +kernel) (pa_cons (pv 1) (pa_cons (pe_bltn (v := V.ty "str") (u := Value.type "str") (by rfl) T.m_str (by decide +kernel) rfl) pa_nil))) (pe_callB call_isiI (by rfl) T.m_isinstance (by decide +kernel) (pa_cons (pv 0) (pa_cons (pe_bltn (v := V.ty "str") (u := Value.type "str") (by rfl) T.m_str (by decide +kernel) rfl) pa_nil))) (nomark _))))) (pss_one (ps_ret pe_bl)) pss_nil) (pss_cons (ps_if (pt_cmpR op_ne (pe_callB call_isiI (by rfl) T.m_isinstance (by decide +kernel) (pa_cons (pv 1) (pa_cons (pe_bltn (v := V.ty "int") (u := Value.type "int") (by rfl) T.m_int (by decide +kernel) rfl) pa_nil))) (pe_callB call_isiI (by rfl) T.m_isinstance (by decide +kernel) (pa_cons (pv 0) (pa_cons (pe_bltn (v := V.ty "int") (u := Value.type "int") (by rfl) T.m_int (by decide +kernel) rfl) pa_nil))) (nomark _)) (pss_one (ps_ret pe_bl)) pss_nil) (pss_one (ps_ret (pe_and (pe_cmpR op_eq (pe_cmpR op_isN (pv 1) pe_non (nomark _)) (pe_cmpR op_isN (pv 0) pe_non (nomark _)) (nomark _)) (pe_one (pe_cmpR (op_eqD hr.units) (pv 0) (pv 1) (nomark _)))))))))), ?_⟩
      have nodict : kitB (tyN d) "dict" = some false := by
        cases d with
        | dict _ => exact Bool.noConfusion hd
        | none => exact (show kitB "NoneType" "dict" = some false by decide +kernel)
        | bool _ => exact (show kitB "bool" "dict" = some false by decide +kernel)
        | int _ => exact (show kitB "int" "dict" = some false by decide +kernel)
        | str _ => exact (show kitB "str" "dict" = some false by decide +kernel)
        | list _ => exact (show kitB "list" "dict" = some false by decide +kernel)
        | tuple _ => exact (show kitB "tuple" "dict" = some false by decide +kernel)
      refine ⟨_, rfl, isi_step _ "dict" false hu rfl nodict ⟨_, rfl, ?_⟩⟩
      have go : ∀ (t : String) (b c : Bool), tyN d = t → kitB t "list" = some b → kitB t "tuple" = some c → ∀ p, H p = none → ∀ (R : VK), R (.bl (b || c)) (upd H p (.tup [.ty "list", .ty "tuple"])) → rIsiTI K [u, .ref p] (upd H p (.tup [.ty "list", .ty "tuple"])) R :=
        fun t b c ht hb hc p np R q => isiT_step (Dp.mono (same_new np) _ _ hu) ht upd_same hb hc q
      refine ⟨_, rfl, (show 2 ≤ sizeLine by decide), fun p np => ?_⟩
      have s1 : Same H (upd H p (.tup [.ty "list", .ty "tuple"])) := same_new np
      have hv1 := Dp.mono s1 _ _ hv
      have hu1 := Dp.mono s1 _ _ hu
      cases d with
      | none =>
        refine go "NoneType" false false rfl (by decide +kernel) (by decide +kernel) p np _ ⟨_, rfl, ?_⟩
        refine ⟨_, rfl, isi_step "NoneType" "bool" false hu1 rfl (by decide +kernel) ⟨_, rfl, isi_step "NoneType" "bool" false hv1 rfl (by decide +kernel) ⟨rfl, _, rfl, iteNS rfl ?_⟩⟩⟩
        refine ⟨_, rfl, isi_step "NoneType" "str" false hu1 rfl (by decide +kernel) ⟨_, rfl, isi_step "NoneType" "str" false hv1 rfl (by decide +kernel) ⟨rfl, _, rfl, iteNS rfl ?_⟩⟩⟩
        refine ⟨_, rfl, isi_step "NoneType" "int" false hu1 rfl (by decide +kernel) ⟨_, rfl, isi_step "NoneType" "int" false hv1 rfl (by decide +kernel) ⟨rfl, _, rfl, iteNS rfl ?_⟩⟩⟩
        refine ⟨_, rfl, rfl, _, rfl, rfl, rfl, true, congrArg V.bl (decide_eq_true (by cases hv; cases hu; rfl)), ?_⟩
        refine ⟨_, rfl, _, rfl, _, _, hv1, hu1, rfl, rfl, q _ _ s1 (congrArg V.bl (show _ = true from rfl))⟩
      | bool b =>
        refine go "bool" false false rfl (by decide +kernel) (by decide +kernel) p np _ ⟨_, rfl, ?_⟩
        refine ⟨_, rfl, isi_step "bool" "bool" true hu1 rfl (by decide +kernel) ⟨_, rfl, isi_step "bool" "bool" true hv1 rfl (by decide +kernel) ⟨rfl, _, rfl, iteNS rfl ?_⟩⟩⟩
        refine ⟨_, rfl, isi_step "bool" "str" false hu1 rfl (by decide +kernel) ⟨_, rfl, isi_step "bool" "str" false hv1 rfl (by decide +kernel) ⟨rfl, _, rfl, iteNS rfl ?_⟩⟩⟩
        refine ⟨_, rfl, isi_step "bool" "int" true hu1 rfl (by decide +kernel) ⟨_, rfl, isi_step "bool" "int" true hv1 rfl (by decide +kernel) ⟨rfl, _, rfl, iteNS rfl ?_⟩⟩⟩
        refine ⟨_, rfl, rfl, _, rfl, rfl, rfl, true, congrArg V.bl (decide_eq_true (by cases hv; cases hu; rfl)), ?_⟩
        refine ⟨_, rfl, _, rfl, _, _, hv1, hu1, rfl, rfl, q _ _ s1 (congrArg V.bl (show _ = true from by cases b <;> rfl))⟩
      | int i =>
        refine go "int" false false rfl (by decide +kernel) (by decide +kernel) p np _ ⟨_, rfl, ?_⟩
        refine ⟨_, rfl, isi_step "int" "bool" false hu1 rfl (by decide +kernel) ⟨_, rfl, isi_step "int" "bool" false hv1 rfl (by decide +kernel) ⟨rfl, _, rfl, iteNS rfl ?_⟩⟩⟩
        refine ⟨_, rfl, isi_step "int" "str" false hu1 rfl (by decide +kernel) ⟨_, rfl, isi_step "int" "str" false hv1 rfl (by decide +kernel) ⟨rfl, _, rfl, iteNS rfl ?_⟩⟩⟩
        refine ⟨_, rfl, isi_step "int" "int" true hu1 rfl (by decide +kernel) ⟨_, rfl, isi_step "int" "int" true hv1 rfl (by decide +kernel) ⟨rfl, _, rfl, iteNS rfl ?_⟩⟩⟩
        refine ⟨_, rfl, rfl, _, rfl, rfl, rfl, true, congrArg V.bl (decide_eq_true (by cases hv; cases hu; rfl)), ?_⟩
        refine ⟨_, rfl, _, rfl, _, _, hv1, hu1, rfl, rfl, q _ _ s1 (congrArg V.bl (show _ = true from beq_self_eq_true i))⟩
      | str x =>
        refine go "str" false false rfl (by decide +kernel) (by decide +kernel) p np _ ⟨_, rfl, ?_⟩
        refine ⟨_, rfl, isi_step "str" "bool" false hu1 rfl (by decide +kernel) ⟨_, rfl, isi_step "str" "bool" false hv1 rfl (by decide +kernel) ⟨rfl, _, rfl, iteNS rfl ?_⟩⟩⟩
        refine ⟨_, rfl, isi_step "str" "str" true hu1 rfl (by decide +kernel) ⟨_, rfl, isi_step "str" "str" true hv1 rfl (by decide +kernel) ⟨rfl, _, rfl, iteNS rfl ?_⟩⟩⟩
        refine ⟨_, rfl, isi_step "str" "int" false hu1 rfl (by decide +kernel) ⟨_, rfl, isi_step "str" "int" false hv1 rfl (by decide +kernel) ⟨rfl, _, rfl, iteNS rfl ?_⟩⟩⟩
        refine ⟨_, rfl, rfl, _, rfl, rfl, rfl, true, congrArg V.bl (decide_eq_true (by cases hv; cases hu; rfl)), ?_⟩
        refine ⟨_, rfl, _, rfl, _, _, hv1, hu1, hd, hd, q _ _ s1 (congrArg V.bl (show _ = true from beq_self_eq_true x))⟩
      | list ds =>
        have hd2 : ds.length ≤ 1000 ∧ ∀ e ∈ ds, dle n e = true := by
          have h := hd
          simp only [dle, Bool.and_eq_true, decide_eq_true_eq, List.all_eq_true] at h
          exact h
        refine go "list" true false rfl (by decide +kernel) (by decide +kernel) p np _ ⟨_, rfl, ?_⟩
        refine ⟨_, rfl, isi_step "list" "tuple" false hv1 rfl (by decide +kernel) ⟨_, rfl, isi_step "list" "tuple" false hu1 rfl (by decide +kernel) ⟨rfl, _, rfl, iteNS rfl ?_⟩⟩⟩
        refine ⟨_, rfl, isi_step "list" "list" true hv1 rfl (by decide +kernel) ⟨_, rfl, isi_step "list" "list" true hu1 rfl (by decide +kernel) ⟨rfl, _, rfl, iteNS rfl ?_⟩⟩⟩
        cases hv1 with
        | @lst a xs _ ha hxs =>
        cases hu1 with
        | @lst b ys _ hb hys =>
        have lx := dpAll_len hxs
        have ly := dpAll_len hys
        refine ⟨_, rfl, a, xs, rfl, .inl ha, _, rfl, b, ys, rfl, .inl hb, rfl, true, congrArg V.bl (decide_eq_true (by rw [lx, ly])), ?_⟩
        refine ⟨_, rfl, _, rfl, a, b, xs, ys, rfl, .inl ⟨ha, hb, fun D nD => ?_⟩⟩
        refine ⟨fun i m H' => i + m = ds.length ∧ Same (upd H p (.tup [.ty "list", .ty "tuple"])) H' ∧ H' D = some (.lst ((List.replicate i true).map V.bl)), ⟨ds.length, by omega, same_new nD, upd_same⟩, ?_⟩
        rintro i m H' ⟨him, sH, hD⟩
        have ha' := seqL_same sH ha
        have hb' := seqL_same sH hb
        by_cases hi : i < ds.length
        · refine .inr ⟨⟨xs, ys, xs[i], ys[i], ha', hb', List.getElem?_eq_getElem (by omega), List.getElem?_eq_getElem (by omega)⟩, fun H2 => (i + 1) + (m - 1) = ds.length ∧ Same (upd H p (.tup [.ty "list", .ty "tuple"])) H2 ∧ H2 D = some (.lst ((List.replicate (i + 1) true).map V.bl)), fun H2 z => ⟨m - 1, by omega, z⟩, ?_⟩
          rintro z H2 ⟨t, x, y, rfl, nt, rfl, hx, hy⟩
          have hx := hx xs ha'
          have hy := hy ys hb'
          obtain ⟨e, he, hxe⟩ := dpAll_get hxs hx
          obtain ⟨e', he', hye⟩ := dpAll_get hys hy
          rw [he] at he'
          cases he'
          have s2 : Same (upd H p (.tup [.ty "list", .ty "tuple"])) (upd H' t (.tup [x, y])) := sH.trans (same_new nt)
          have ntD : D ≠ t := ne_of_none hD nt
          refine ⟨t, [x, y], rfl, SqT.of upd_same, rfl, x, [y], rfl, y, [], rfl, rfl, rfl, ?_⟩
          refine ⟨_, rfl, _, rfl, same_step (Dp.mono s2 _ _ hxe) (Dp.mono s2 _ _ hye) (hd2.2 e (List.mem_of_getElem? he)) fun H3 s3 => ?_⟩
          have hD3 : H3 D = some (.lst ((List.replicate i true).map V.bl)) := s3 _ _ (by rw [upd_ne ntD]; exact hD)
          refine ⟨_, hD3, ?_, by omega, ?_, ?_⟩
          · rw [List.length_map, List.length_replicate]
            exact small1000 (by omega)
          · intro b o hbo
            have hbD : b ≠ D := ne_of_none hbo nD
            rw [upd_ne hbD]
            exact s3 _ _ (s2 _ _ hbo)
          · rw [upd_same, List.replicate_succ', List.map_append]
            rfl
        · refine .inl ⟨⟨xs, ys, ha', hb', .inl (by omega)⟩, ?_⟩
          have ei : i = ds.length := by omega
          refine ⟨D, List.replicate i true, rfl, SqL.of hD, q _ _ (s1.trans sH) ?_⟩
          rw [show (List.replicate i true).all id = true from List.all_eq_true.mpr fun b hb => List.eq_of_mem_replicate hb]
      | tuple ds =>
        have hd2 : ds.length ≤ 1000 ∧ ∀ e ∈ ds, dle n e = true := by
          have h := hd
          simp only [dle, Bool.and_eq_true, decide_eq_true_eq, List.all_eq_true] at h
          exact h
        refine go "tuple" false true rfl (by decide +kernel) (by decide +kernel) p np _ ⟨_, rfl, ?_⟩
        refine ⟨_, rfl, isi_step "tuple" "tuple" true hv1 rfl (by decide +kernel) ⟨_, rfl, isi_step "tuple" "tuple" true hu1 rfl (by decide +kernel) ⟨rfl, _, rfl, iteNS rfl ?_⟩⟩⟩
        refine ⟨_, rfl, isi_step "tuple" "list" false hv1 rfl (by decide +kernel) ⟨_, rfl, isi_step "tuple" "list" false hu1 rfl (by decide +kernel) ⟨rfl, _, rfl, iteNS rfl ?_⟩⟩⟩
        cases hv1 with
        | @tup a xs _ ha hxs =>
        cases hu1 with
        | @tup b ys _ hb hys =>
        have lx := dpAll_len hxs
        have ly := dpAll_len hys
        refine ⟨_, rfl, a, xs, rfl, .inr ha, _, rfl, b, ys, rfl, .inr hb, rfl, true, congrArg V.bl (decide_eq_true (by rw [lx, ly])), ?_⟩
        refine ⟨_, rfl, _, rfl, a, b, xs, ys, rfl, .inr ⟨ha, hb, fun D nD => ?_⟩⟩
        refine ⟨fun i m H' => i + m = ds.length ∧ Same (upd H p (.tup [.ty "list", .ty "tuple"])) H' ∧ H' D = some (.lst ((List.replicate i true).map V.bl)), ⟨ds.length, by omega, same_new nD, upd_same⟩, ?_⟩
        rintro i m H' ⟨him, sH, hD⟩
        have ha' := seqT_same sH ha
        have hb' := seqT_same sH hb
        by_cases hi : i < ds.length
        · refine .inr ⟨⟨xs, ys, xs[i], ys[i], ha', hb', List.getElem?_eq_getElem (by omega), List.getElem?_eq_getElem (by omega)⟩, fun H2 => (i + 1) + (m - 1) = ds.length ∧ Same (upd H p (.tup [.ty "list", .ty "tuple"])) H2 ∧ H2 D = some (.lst ((List.replicate (i + 1) true).map V.bl)), fun H2 z => ⟨m - 1, by omega, z⟩, ?_⟩
          rintro z H2 ⟨t, x, y, rfl, nt, rfl, hx, hy⟩
          have hx := hx xs ha'
          have hy := hy ys hb'
          obtain ⟨e, he, hxe⟩ := dpAll_get hxs hx
          obtain ⟨e', he', hye⟩ := dpAll_get hys hy
          rw [he] at he'
          cases he'
          have s2 : Same (upd H p (.tup [.ty "list", .ty "tuple"])) (upd H' t (.tup [x, y])) := sH.trans (same_new nt)
          have ntD : D ≠ t := ne_of_none hD nt
          refine ⟨t, [x, y], rfl, SqT.of upd_same, rfl, x, [y], rfl, y, [], rfl, rfl, rfl, ?_⟩
          refine ⟨_, rfl, _, rfl, same_step (Dp.mono s2 _ _ hxe) (Dp.mono s2 _ _ hye) (hd2.2 e (List.mem_of_getElem? he)) fun H3 s3 => ?_⟩
          have hD3 : H3 D = some (.lst ((List.replicate i true).map V.bl)) := s3 _ _ (by rw [upd_ne ntD]; exact hD)
          refine ⟨_, hD3, ?_, by omega, ?_, ?_⟩
          · rw [List.length_map, List.length_replicate]
            exact small1000 (by omega)
          · intro b o hbo
            have hbD : b ≠ D := ne_of_none hbo nD
            rw [upd_ne hbD]
            exact s3 _ _ (s2 _ _ hbo)
          · rw [upd_same, List.replicate_succ', List.map_append]
            rfl
        · refine .inl ⟨⟨xs, ys, ha', hb', .inl (by omega)⟩, ?_⟩
          have ei : i = ds.length := by omega
          refine ⟨D, List.replicate i true, rfl, SqL.of hD, q _ _ (s1.trans sH) ?_⟩
          rw [show (List.replicate i true).all id = true from List.all_eq_true.mpr fun b hb => List.eq_of_mem_replicate hb]
      | dict kvs => exact Bool.noConfusion hd
theorem ok_law_gcd (T : Tops K mg)  : DefOk P w K mg base 1 "_law_gcd" ps__law_gcd spGcd := by
  refine T.d_law_gcd.ok sc__law_gcd (fun vs H Q E h => ?_) (fun f cdv A outer s H vs Q E hr h => ?_)
  · obtain ⟨a, c, rfl, _⟩ := h
    rfl
  · obtain ⟨a, c, rfl, ha, hc, q⟩ := h
    refine ⟨_, (pss_cons (ps_while PassesOwn.never (pt_cmpR op_gt (pv 1) pe_int (nomark _)) (pss_one (ps_par (i := 0) (j := 1) (by rfl) sc__law_gcd.nd rfl rfl (by decide) rfl rfl (pa_cons (pv 1) (pa_cons (pe_op op_mod (pv 0) (pv 1)) pa_nil)) (by rfl)))) (pss_one (ps_ret (pv 0)))), ?_⟩
    refine ⟨fun m σ H' => H' = H ∧ ∃ x y : Int, σ = [some (.int x), some (.int y)] ∧ 0 ≤ x ∧ 0 ≤ y ∧ Int.gcd x y = Int.gcd a c ∧ m = y.toNat, ⟨_, rfl, a, c, rfl, ha, hc, rfl, rfl⟩, ?_⟩
    rintro m σ H' ⟨rfl, x, y, rfl, hx, hy, hg, hm⟩
    refine ⟨_, rfl, _, _, rfl, rfl, _, rfl, ?_⟩
    refine ite2 (fun hd => ?_) (fun hd => ?_)
    · have hy0 : 0 < y := of_decide_eq_true hd
      refine ⟨fun σ' H'' => H'' = H' ∧ ∃ x' y' : Int, σ' = [some (.int x'), some (.int y')] ∧ 0 ≤ x' ∧ 0 ≤ y' ∧ Int.gcd x' y' = Int.gcd a c ∧ y'.toNat < m, fun σ' H'' h => ?_, ?_⟩
      · obtain ⟨rfl, x', y', rfl, h1, h2, h3, h4⟩ := h
        exact ⟨_, h4, rfl, x', y', rfl, h1, h2, h3, rfl⟩
      · refine ⟨_, rfl, _, rfl, _, rfl, _, _, rfl, rfl, hy0, _, _, rfl, rfl, y, x % y, rfl, hy, Int.emod_nonneg x (by omega), ?_, ?_⟩
        · rw [← hg, gcd_step]
        · have := Int.emod_lt_of_pos x hy0
          have := Int.emod_nonneg x (show y ≠ 0 by omega)
          omega
    · have hy0 : y = 0 := by
        have : ¬ 0 < y := fun z => hd (decide_eq_true z)
        omega
      subst hy0
      refine ⟨_, rfl, ?_⟩
      have e : ((Int.gcd a c : Nat) : Int) = x := by
        rw [← hg, Int.gcd_zero_right]
        omega
      rw [e] at q
      exact q
theorem ok_law_part (T : Tops K mg) (D_law_gcd : DefOk P w K mg base 1 "_law_gcd" ps__law_gcd spGcd) : DefOk P w K mg base 2 "_law_part" ps__law_part (spPart K) := by
  refine T.d_law_part.ok sc__law_part (fun vs H Q E h => ?_) (fun f cdv A outer s H vs Q E hr h => ?_)
  · obtain ⟨a, c, rfl, _⟩ := h
    rfl
  · obtain ⟨a, c, rfl, hc0, ha, hc, q⟩ := h
    refine ⟨_, (C8.pss_cut (ps_if (pt_cmpR op_lt (pv 1) pe_int (nomark _)) (pss_one (ps_par (i := 0) (j := 1) (by rfl) sc__law_part.nd rfl rfl (by decide) rfl rfl (pa_cons (pe_op op_sub pe_int (pv 0)) (pa_cons (pe_op op_sub pe_int (pv 1)) pa_nil)) (by rfl))) pss_nil) (pss_cons (ps_set (i := 2) sc__law_part.nd rfl (.inl rfl) (pe_callD D_law_gcd hr (by decide) (by rfl) (pa_cons (pe_callB call_abs (by rfl) T.m_abs (by decide +kernel) (pa_cons (pv 0) pa_nil)) (pa_cons (pv 1) pa_nil)))) (pss_one (ps_ret (pe_tup (pa_cons (pe_op op_fdivA (pv 0) (pv 2)) (pa_cons (pe_op op_fdivA (pv 1) (pv 2)) pa_nil))))))), ?_⟩
    refine ⟨fun σ' H' => H' = H ∧ ∃ a' c' : Int, σ' = [some (.int a'), some (.int c'), none] ∧ 0 < c' ∧ Rat.divInt a' c' = Rat.divInt a c ∧ a'.natAbs = a.natAbs ∧ c'.natAbs = c.natAbs, ?_, ?_⟩
    · repeat (walk_at "rd")
      refine iteD (fun hd => ?_) (fun hd => ?_)
      · refine ⟨_, rfl, _, _, rfl, rfl, _, rfl, _, _, rfl, rfl, _, _, rfl, rfl, 0 - a, 0 - c, rfl, by omega, ?_, by omega, by omega⟩
        rw [Int.zero_sub, Int.zero_sub, Rat.neg_divInt_neg]
      · exact ⟨rfl, a, c, rfl, by omega, rfl, rfl, rfl⟩
    · rintro σ' H' ⟨rfl, a', c', rfl, hc', he, ea, ec⟩
      refine ⟨_, rfl, _, rfl, _, rfl, _, c', rfl, ?_, by omega, ?_⟩
      · split <;> omega
      have eg : Int.gcd (if a' < 0 then -a' else a') c' = Int.gcd a' c' := by
        split
        · rw [Int.neg_gcd]
        · rfl
      rw [eg]
      have g0 : (0 : Int) < ((Int.gcd a' c' : Nat) : Int) := by
        have := Int.gcd_pos_of_ne_zero_right a' (show c' ≠ 0 by omega)
        omega
      have g1 : ((Int.gcd a' c' : Nat) : Int) ≤ c' := Int.gcd_le_right a' hc'
      have gw : CDivA a' ((Int.gcd a' c' : Nat) : Int) := ⟨by omega, Nat.lt_of_le_of_lt (show _ ≤ c.natAbs by omega) (pow_mono_lt hc (by decide))⟩
      obtain ⟨e1, e2⟩ := divInt_num_eq (a := a') hc'
      refine ⟨_, rfl, _, rfl, _, _, rfl, rfl, gw, _, rfl, _, rfl, _, _, rfl, rfl, gw, (show 2 ≤ sizeLine by decide), fun p np => ?_⟩
      refine q _ _ (same_new np) (PtV.new ?_ ?_)
      · rw [← he, e1, Int.fdiv_eq_ediv_of_nonneg a' (by omega)]
      · rw [← he, e2, Int.fdiv_eq_ediv_of_nonneg c' (by omega)]
theorem ok_law_times (T : Tops K mg) (D_law_part : DefOk P w K mg base 2 "_law_part" ps__law_part (spPart K)) : DefOk P w K mg base 3 "_law_times" ps__law_times (spTwo K (fun _ _ => True) fun x y => x * y) := by
  refine T.d_law_times.ok sc__law_times (fun vs H Q E h => ?_) (fun f cdv A outer s H vs Q E hr h => ?_)
  · unfold spTwo at h
    obtain ⟨_, _, _, _, rfl, _⟩ := h
    rfl
  · unfold spTwo at h
    obtain ⟨v, u, x, y, rfl, ⟨a, rfl, ha⟩, ⟨b, rfl, hb⟩, sx, sy, _, q⟩ := h
    refine ⟨_, (pss_one (ps_ret (pe_callD D_law_part hr (by decide) (by rfl) (pa_cons (pe_op op_mulA (pe_ix ix_tup (pv 0) pe_int (fun _ _ => rfl)) (pe_ix ix_tup (pv 1) pe_int (fun _ _ => rfl))) (pa_cons (pe_op op_mulA (pe_ix ix_tup (pv 0) pe_int (fun _ _ => rfl)) (pe_ix ix_tup (pv 1) pe_int (fun _ _ => rfl))) pa_nil))))), ?_⟩
    obtain ⟨x1, x2⟩ := sz_abs sx
    obtain ⟨y1, y2⟩ := sz_abs sy
    repeat (walk_at "rd")
    refine ⟨_, _, rfl, Int.ne_of_gt (Int.mul_pos (den_pos x) (den_pos y)), pow_mono_lt (natAbs_mul_lt x1 y1) (by decide), pow_mono_lt (natAbs_mul_lt x2 y2) (by decide), fun v H' s hv => q v H' s ?_⟩
    rw [dv_mul] at hv
    exact hv
theorem ok_law_over (T : Tops K mg) (D_law_part : DefOk P w K mg base 2 "_law_part" ps__law_part (spPart K)) : DefOk P w K mg base 3 "_law_over" ps__law_over (spTwo K (fun _ y => y ≠ 0) fun x y => x / y) := by
  refine T.d_law_over.ok sc__law_over (fun vs H Q E h => ?_) (fun f cdv A outer s H vs Q E hr h => ?_)
  · unfold spTwo at h
    obtain ⟨_, _, _, _, rfl, _⟩ := h
    rfl
  · unfold spTwo at h
    obtain ⟨v, u, x, y, rfl, ⟨a, rfl, ha⟩, ⟨b, rfl, hb⟩, sx, sy, hy, q⟩ := h
    refine ⟨_, (pss_one (ps_ret (pe_callD D_law_part hr (by decide) (by rfl) (pa_cons (pe_op op_mulA (pe_ix ix_tup (pv 0) pe_int (fun _ _ => rfl)) (pe_ix ix_tup (pv 1) pe_int (fun _ _ => rfl))) (pa_cons (pe_op op_mulA (pe_ix ix_tup (pv 0) pe_int (fun _ _ => rfl)) (pe_ix ix_tup (pv 1) pe_int (fun _ _ => rfl))) pa_nil))))), ?_⟩
    obtain ⟨x1, x2⟩ := sz_abs sx
    obtain ⟨y1, y2⟩ := sz_abs sy
    repeat (walk_at "rd")
    refine ⟨_, _, rfl, Int.mul_ne_zero (Int.ne_of_gt (den_pos x)) (fun z => hy ((num_zero_iff y).mp z)), pow_mono_lt (natAbs_mul_lt x1 y2) (by decide), pow_mono_lt (natAbs_mul_lt x2 y1) (by decide), fun v H' s hv => q v H' s ?_⟩
    rw [dv_div] at hv
    exact hv
theorem ok_law_less (T : Tops K mg)  : DefOk P w K mg base 1 "_law_less" ps__law_less (spLess K) := by
  refine T.d_law_less.ok sc__law_less (fun vs H Q E h => ?_) (fun f cdv A outer s H vs Q E hr h => ?_)
  · unfold spLess at h
    obtain ⟨_, _, _, _, rfl, _⟩ := h
    rfl
  · unfold spLess at h
    obtain ⟨v, u, x, y, rfl, ⟨a, rfl, ha⟩, ⟨b, rfl, hb⟩, sx, sy, q⟩ := h
    refine ⟨_, (pss_one (ps_ret (pe_cmpR op_lt (pe_op op_mulA (pe_ix ix_tup (pv 0) pe_int (fun _ _ => rfl)) (pe_ix ix_tup (pv 1) pe_int (fun _ _ => rfl))) (pe_op op_mulA (pe_ix ix_tup (pv 1) pe_int (fun _ _ => rfl)) (pe_ix ix_tup (pv 0) pe_int (fun _ _ => rfl))) (nomark _)))), ?_⟩
    obtain ⟨x1, x2⟩ := sz_abs sx
    obtain ⟨y1, y2⟩ := sz_abs sy
    repeat (walk_at "rd")
    have e : decide (x < y) = decide (x.num * y.den < y.num * x.den) := decide_eq_decide.mpr (Rat.lt_iff x y)
    refine q _ ?_
    rw [e]
theorem ok_law_most (T : Tops K mg) (D_law_less : DefOk P w K mg base 1 "_law_less" ps__law_less (spLess K)) : DefOk P w K mg base 2 "_law_most" ps__law_most (spGreat K) := by
  refine T.d_law_most.ok sc__law_most (fun vs H Q E h => ?_) (fun f cdv A outer s H vs Q E hr h => ?_)
  · unfold spGreat at h
    obtain ⟨_, _, _, rfl, _⟩ := h
    rfl
  · unfold spGreat at h
    obtain ⟨L, us, qs, rfl, hL, hA, h0, hz, q⟩ := h
    refine ⟨_, (pss_cons (ps_set (i := 1) sc__law_most.nd rfl (.inl rfl) (pe_ix ix_list (pv 0) pe_int (fun _ _ => rfl))) (pss_cons (ps_for PassesOwn.never rfl (pi_list (pv 0)) (pg_name (i := 2) sc__law_most.nd rfl (.inl rfl)) (pss_one (ps_set (i := 1) sc__law_most.nd rfl (.inl rfl) (pe_ifExp (pt_val (pe_callD D_law_less hr (by decide) (by rfl) (pa_cons (pv 1) (pa_cons (pv 2) pa_nil)))) (pv 2) (pv 1))))) (pss_one (ps_ret (pv 1))))), ?_⟩
    have hla := hA.len
    obtain ⟨u0, hu0⟩ : ∃ u0, us[0]? = some u0 := by
      cases us with
      | nil =>
        cases hA
        exact absurd rfl h0
      | cons x r => exact ⟨x, rfl⟩
    have hp0 : PtV K H u0 (qs.headD 0) := by
      obtain ⟨x, h1, h2⟩ := hA.get hu0
      cases qs with
      | nil => exact absurd rfl h0
      | cons y r =>
        cases h1
        exact h2
    have hat : atI us 0 = some u0 := atI_nat (j := 0) hu0
    refine ⟨_, rfl, L, us, 0, u0, rfl, rfl, hL, hat, ?_⟩
    refine ⟨_, rfl, L, rfl, ⟨_, hL⟩, ?_⟩
    refine for_list (xs := us) (fun i σ H' => ∃ (v2 : Option V) (w : V), σ = [some (.ref L), some w, v2] ∧ Same H H' ∧ PtV K H' w ((qs.take i).foldl gr (qs.headD 0))) ⟨none, u0, rfl, Same.refl _, hp0⟩ (fun i σ H' _ ⟨_, _, _, z, _⟩ => seqL_same z hL) ?_ ?_
    · rintro i x σ H' hx ⟨v2, w, rfl, sH, hw⟩
      obtain ⟨y, h1, h2⟩ := hA.get hx
      have h2 := h2.same sH
      have zw := hz _ (most_take_mem (i := i) h0)
      have zy := hz _ (List.mem_of_getElem? h1)
      refine ⟨_, rfl, _, rfl, less_step hw h2 zw zy (Nat.le_refl _) (Nat.le_refl _) ⟨_, rfl, ?_⟩⟩
      refine iteD (fun e => ?_) (fun e => ?_)
      · refine ⟨_, rfl, _, x, rfl, sH, ?_⟩
        rw [most_take h1, show gr _ y = y from if_pos e]
        exact h2
      · refine ⟨_, rfl, _, w, rfl, sH, ?_⟩
        rw [most_take h1, show gr _ y = _ from if_neg e]
        exact hw
    · rintro σ H' ⟨v2, w, rfl, sH, hw⟩
      rw [hla, List.take_length] at hw
      exact ⟨_, rfl, q w H' sH hw⟩
theorem ok_law_number (T : Tops K mg) (D_law_get : DefOk P w K mg base 1 "_law_get" ps__law_get spGet) (D_law_far : DefOk P w K mg base 2 "_law_far" ps__law_far spFar) : DefOk P w K mg base 3 "_law_number" ps__law_number spNumber := by
  refine T.d_law_number.ok sc__law_number (fun vs H Q E h => ?_) (fun f cdv A outer s H vs Q E hr h => ?_)
  · obtain ⟨a, rfl, _⟩ := h
    rfl
  · obtain ⟨b, rfl, hB, q⟩ := h
    refine ⟨_, (pss_cons (ps_set (i := 1) sc__law_number.nd rfl (.inl rfl) (pe_callD D_law_get hr (by decide) (by rfl) (pa_cons (pv 0) (pa_cons pe_int pa_nil)))) (pss_cons (ps_if (pt_cmpR op_lt (pv 1) pe_int (nomark _)) (pss_one (ps_ret (pe_op op_sub (pe_callD D_law_get hr (by decide) (by rfl) (pa_cons (pv 0) (pa_cons pe_int pa_nil))) pe_int))) pss_nil) (pss_cons (ps_if (pt_cmpR op_eq (pv 1) pe_int (nomark _)) (pss_one (ps_ret (pe_op op_sub (pe_callD D_law_get hr (by decide) (by rfl) (pa_cons (pv 0) (pa_cons pe_int pa_nil))) pe_int))) pss_nil) (pss_one (ps_ret (pe_op op_mulA (pe_op op_add (pe_callD D_law_far hr (by decide) (by rfl) (pa_cons (pv 0) (pa_cons (pe_ix ix_list (pe_lst (pa_cons pe_int (pa_cons pe_int pa_nil))) (pe_op op_sub (pv 1) pe_int) (fun _ _ => rfl)) pa_nil))) pe_int) (pe_op op_sub pe_int (pe_op op_mulA pe_int (pe_callD D_law_get hr (by decide) (by rfl) (pa_cons (pv 0) (pa_cons pe_int pa_nil))))))))))), ?_⟩
    have small : ∀ r : Int, -1000 ≤ r → r ≤ 2000 → r.natAbs < 2 ^ 200 := fun r h1 h2 => Nat.lt_of_lt_of_le (show r.natAbs < 2 ^ 11 by omega) (Nat.pow_le_pow_right (by decide) (by decide))
    refine ⟨_, rfl, b, 5, rfl, hB, by decide, by decide, fun r H1 h0 h1 hB1 k1 => ?_⟩
    repeat (walk_at "rd")
    refine iteD (fun hd => ?_) (fun hd => ?_)
    · refine ⟨_, rfl, b, 9, rfl, hB1, by decide, by decide, fun r2 H2 h2 h3 hB2 k2 => ?_⟩
      refine ⟨_, _, rfl, rfl, q _ H2 (small _ (by omega) (by omega)) hB2 (k1.trans k2)⟩
    · refine ⟨_, rfl, rfl, _, rfl, ?_⟩
      refine iteD (fun hd2 => ?_) (fun hd2 => ?_)
      · refine ⟨_, rfl, b, 2001, rfl, hB1, by decide, by decide, fun r2 H2 h2 h3 hB2 k2 => ?_⟩
        refine ⟨_, _, rfl, rfl, q _ H2 (small _ (by omega) (by omega)) hB2 (k1.trans k2)⟩
      · have hr3 : r = 3 ∨ r = 4 := by
          have : ¬ r = 2 := fun z => hd2 (by rw [z])
          omega
        refine ⟨_, rfl, (show 2 ≤ sizeLine by decide), fun p np => ?_⟩
        have hBp := hB1.same (same_new (o := .lst [.int 3, .int 20]) np)
        refine ⟨_, rfl, _, _, rfl, rfl, ?_⟩
        rcases hr3 with rfl | rfl
        all_goals
          refine ⟨p, _, _, _, rfl, rfl, SqL.of upd_same, rfl, b, _, rfl, hBp, (by decide), fun r2 H2 h2 h3 hB2 k2 => ?_⟩
          refine ⟨_, _, rfl, rfl, _, rfl, b, 2, rfl, hB2, by decide, by decide, fun r3 H3 h4 h5 hB3 k3 => ?_⟩
          refine ⟨_, _, rfl, rfl, cmul_l ⟨by decide, by decide⟩, _, _, rfl, rfl, _, _, rfl, rfl, cmul_r ⟨by omega, by omega⟩, ?_⟩
          refine q _ H3 ?_ hB3 (k1.trans ((Kp.of (same_new np)).trans (k2.trans k3)))
          exact far_size h2 h3 (by decide) (by omega)
theorem ok_law_some_part (T : Tops K mg) (D_law_get : DefOk P w K mg base 1 "_law_get" ps__law_get spGet) (D_law_part : DefOk P w K mg base 2 "_law_part" ps__law_part (spPart K)) (D_law_number : DefOk P w K mg base 3 "_law_number" ps__law_number spNumber) : DefOk P w K mg base 4 "_law_some_part" ps__law_some_part (spSomePart K) := by
  refine T.d_law_some_part.ok sc__law_some_part (fun vs H Q E h => ?_) (fun f cdv A outer s H vs Q E hr h => ?_)
  · obtain ⟨a, rfl, _⟩ := h
    rfl
  · obtain ⟨b, rfl, hB, q⟩ := h
    refine ⟨_, (pss_cons (ps_set (i := 1) sc__law_some_part.nd rfl (.inl rfl) (pe_op op_add (pe_callB call_abs (by rfl) T.m_abs (by decide +kernel) (pa_cons (pe_callD D_law_number hr (by decide) (by rfl) (pa_cons (pv 0) pa_nil)) pa_nil)) pe_int)) (pss_one (ps_ret (pe_callD D_law_part hr (by decide) (by rfl) (pa_cons (pe_callD D_law_number hr (by decide) (by rfl) (pa_cons (pv 0) pa_nil)) (pa_cons (pe_ifExp (pt_cmpR op_gt (pe_callD D_law_get hr (by decide) (by rfl) (pa_cons (pv 0) (pa_cons pe_int pa_nil))) pe_int (nomark _)) (pv 1) pe_int) pa_nil)))))), ?_⟩
    refine ⟨_, rfl, b, rfl, hB, fun r H1 hr1 hB1 k1 => ?_⟩
    refine ⟨_, rfl, _, _, rfl, rfl, ?_⟩
    refine ⟨_, rfl, b, rfl, hB1, fun r2 H2 hr2 hB2 k2 => ?_⟩
    refine ⟨_, rfl, b, 3, rfl, hB2, by decide, by decide, fun r3 H3 h4 h5 hB3 k3 => ?_⟩
    have k := k1.trans (k2.trans k3.k0)
    have p201 : (2 : Nat) ^ 201 = 2 ^ 200 * 2 := by rw [← Nat.pow_succ]
    have p0 : 0 < (2 : Nat) ^ 200 := Nat.pow_pos (by decide)
    have b1 : (if r < 0 then -r else r) + 1 ≠ 0 ∧ ((if r < 0 then -r else r) + 1).natAbs < 2 ^ 201 := by
      rw [p201]
      generalize (2 : Nat) ^ 200 = N at *
      split <;> omega
    have b2 : r2.natAbs < 2 ^ 201 := pow_mono_lt hr2 (by decide)
    have b3 : (1 : Int) ≠ 0 ∧ (1 : Int).natAbs < 2 ^ 201 := ⟨by decide, by
      rw [p201]
      generalize (2 : Nat) ^ 200 = N at *
      omega⟩
    repeat (walk_at "rd")
    refine iteD (fun hd => ?_) (fun hd => ?_)
    · refine ⟨_, rfl, _, _, rfl, b1.1, pow_mono_lt b2 (by decide), pow_mono_lt b1.2 (by decide), fun v H4 s4 hv => ?_⟩
      exact q v _ H4 hv (size_divInt b1.1 b2 b1.2) (hB3.same s4) (k.trans (Kp.of s4))
    · refine ⟨_, _, rfl, b3.1, pow_mono_lt b2 (by decide), pow_mono_lt b3.2 (by decide), fun v H4 s4 hv => ?_⟩
      exact q v _ H4 hv (size_divInt b3.1 b2 b3.2) (hB3.same s4) (k.trans (Kp.of s4))
theorem ok_law_above (T : Tops K mg) (D_law_part : DefOk P w K mg base 2 "_law_part" ps__law_part (spPart K)) (D_law_some_part : DefOk P w K mg base 4 "_law_some_part" ps__law_some_part (spSomePart K)) : DefOk P w K mg base 5 "_law_above" ps__law_above (spAbove K) := by
  refine T.d_law_above.ok sc__law_above (fun vs H Q E h => ?_) (fun f cdv A outer s H vs Q E hr h => ?_)
  · unfold spAbove at h
    obtain ⟨_, rfl, _⟩ := h
    rfl
  · unfold spAbove at h
    obtain ⟨c, rfl, hC, q⟩ := h
    refine ⟨_, (pss_cons (ps_set (i := 1) sc__law_above.nd rfl (.inl rfl) (pe_callD D_law_some_part hr (by decide) (by rfl) (pa_cons (pv 0) pa_nil))) (pss_one (ps_ret (pe_callD D_law_part hr (by decide) (by rfl) (pa_cons (pe_op op_add (pe_callB call_abs (by rfl) T.m_abs (by decide +kernel) (pa_cons (pe_ix ix_tup (pv 1) pe_int (fun _ _ => rfl)) pa_nil)) pe_int) (pa_cons (pe_ix ix_tup (pv 1) pe_int (fun _ _ => rfl)) pa_nil)))))), ?_⟩
    refine ⟨_, rfl, c, rfl, hC, fun v x H1 hx sx hC1 k1 => ?_⟩
    obtain ⟨a, rfl, ha⟩ := hx
    obtain ⟨x1, x2⟩ := sz_abs sx
    refine ⟨_, rfl, a, _, _, _, rfl, rfl, ha, rfl, _, rfl, _, _, rfl, rfl, ?_⟩
    refine ⟨_, rfl, a, _, _, _, rfl, rfl, ha, rfl, ?_⟩
    have p202 : (2 : Nat) ^ 202 = 2 ^ 201 * 2 := by rw [← Nat.pow_succ]
    have e0 : 0 < (if x.num < 0 then -x.num else x.num) + 1 := by split <;> omega
    have e1 : ((if x.num < 0 then -x.num else x.num) + 1).natAbs < 2 ^ 202 := by
      rw [p202]
      have h1 := x1
      have h2 : 0 < (2 : Nat) ^ 201 := Nat.pow_pos (by decide)
      generalize (2 : Nat) ^ 201 = N at *
      split <;> omega
    have e2 : ((x.den : Nat) : Int).natAbs < 2 ^ 202 := pow_mono_lt x2 (by decide)
    have d0 : ((x.den : Nat) : Int) ≠ 0 := Int.ne_of_gt (den_pos x)
    refine ⟨_, _, rfl, d0, pow_mono_lt e1 (by decide), pow_mono_lt e2 (by decide), fun u H2 s2 hu => ?_⟩
    refine q u _ H2 hu ?_ (size_divInt d0 e1 e2) (hC1.same s2) (k1.trans (Kp.of s2))
    exact divInt_pos e0 (den_pos x)
theorem ok_law_small_box (T : Tops K mg) (D_law_get : DefOk P w K mg base 1 "_law_get" ps__law_get spGet) : DefOk P w K mg base 2 "_law_small_box" ps__law_small_box (spSomeBox K) := by
  refine T.d_law_small_box.ok sc__law_small_box (fun vs H Q E h => ?_) (fun f cdv A outer s H vs Q E hr h => ?_)
  · unfold spSomeBox at h
    obtain ⟨_, rfl, _⟩ := h
    rfl
  · unfold spSomeBox at h
    obtain ⟨c, rfl, hC, q⟩ := h
    refine ⟨_, (pss_cons (ps_par (i := 1) (j := 2) (by rfl) sc__law_small_box.nd rfl rfl (by decide) rfl rfl (pa_cons (pe_op op_sub (pe_callD D_law_get hr (by decide) (by rfl) (pa_cons (pv 0) (pa_cons pe_int pa_nil))) pe_int) (pa_cons (pe_op op_sub (pe_callD D_law_get hr (by decide) (by rfl) (pa_cons (pv 0) (pa_cons pe_int pa_nil))) pe_int) pa_nil)) (by rfl)) (pss_one (ps_ret (pe_tup (pa_cons (pe_tup (pa_cons (pv 1) (pa_cons pe_int pa_nil))) (pa_cons (pe_tup (pa_cons (pv 2) (pa_cons pe_int pa_nil))) (pa_cons (pe_tup (pa_cons (pe_op op_add pe_int (pe_callD D_law_get hr (by decide) (by rfl) (pa_cons (pv 0) (pa_cons pe_int pa_nil)))) (pa_cons pe_int pa_nil))) (pa_cons (pe_tup (pa_cons (pe_op op_add pe_int (pe_callD D_law_get hr (by decide) (by rfl) (pa_cons (pv 0) (pa_cons pe_int pa_nil)))) (pa_cons pe_int pa_nil))) pa_nil)))))))), ?_⟩
    refine ⟨_, rfl, c, 30, rfl, hC, by decide, by decide, fun x H1 hx0 hx1 hC1 k1 => ?_⟩
    refine ⟨_, _, rfl, rfl, _, rfl, c, 30, rfl, hC1, by decide, by decide, fun y H2 hy0 hy1 hC2 k2 => ?_⟩
    refine ⟨_, _, rfl, rfl, _, _, rfl, ?_⟩
    refine ⟨_, rfl, (show 2 ≤ sizeLine by decide), fun p1 n1 => ?_⟩
    have hC3 := hC2.same (same_new (o := .tup [.int (x - 9), .int 1]) n1)
    have g1 : PtV K _ _ ((x - 9 : Int) : Rat) := ptv_int n1 (x - 9)
    refine ⟨_, rfl, (show 2 ≤ sizeLine by decide), fun p2 n2 => ?_⟩
    have hC4 := hC3.same (same_new (o := .tup [.int (y - 9), .int 1]) n2)
    have g2 : PtV K _ _ ((y - 9 : Int) : Rat) := ptv_int n2 (y - 9)
    have g1 := g1.same (same_new (o := .tup [.int (y - 9), .int 1]) n2)
    refine ⟨_, rfl, c, 40, rfl, hC4, by decide, by decide, fun z H5 hz0 hz1 hC5 k5 => ?_⟩
    have g1 := g1.bag k5.k0 hC4
    have g2 := g2.bag k5.k0 hC4
    refine ⟨_, _, rfl, rfl, (show 2 ≤ sizeLine by decide), fun p3 n3 => ?_⟩
    have hC6 := hC5.same (same_new (o := .tup [.int (1 + z), .int 1]) n3)
    have g3 : PtV K _ _ ((1 + z : Int) : Rat) := ptv_int n3 (1 + z)
    have g1 := g1.same (same_new (o := .tup [.int (1 + z), .int 1]) n3)
    have g2 := g2.same (same_new (o := .tup [.int (1 + z), .int 1]) n3)
    refine ⟨_, rfl, c, 40, rfl, hC6, by decide, by decide, fun w2 H7 hw0 hw1 hC7 k7 => ?_⟩
    have g1 := g1.bag k7.k0 hC6
    have g2 := g2.bag k7.k0 hC6
    have g3 := g3.bag k7.k0 hC6
    refine ⟨_, _, rfl, rfl, (show 2 ≤ sizeLine by decide), fun p4 n4 => ?_⟩
    have hC8 := hC7.same (same_new (o := .tup [.int (1 + w2), .int 1]) n4)
    have g4 : PtV K _ _ ((1 + w2 : Int) : Rat) := ptv_int n4 (1 + w2)
    have g1 := g1.same (same_new (o := .tup [.int (1 + w2), .int 1]) n4)
    have g2 := g2.same (same_new (o := .tup [.int (1 + w2), .int 1]) n4)
    have g3 := g3.same (same_new (o := .tup [.int (1 + w2), .int 1]) n4)
    refine ⟨(show 4 ≤ sizeLine by decide), fun p5 n5 => ?_⟩
    refine q _ ⟨((x - 9 : Int) : Rat), ((y - 9 : Int) : Rat), ((1 + z : Int) : Rat), ((1 + w2 : Int) : Rat)⟩ _ (BxV.mk n5 g1 g2 g3 g4) ⟨?_, ?_, ?_, ?_, ?_, ?_⟩ (hC8.same (same_new n5)) ?_
    · exact int_pos (by omega)
    · exact int_pos (by omega)
    · exact int_sz (by omega)
    · exact int_sz (by omega)
    · exact int_sz (by omega)
    · exact int_sz (by omega)
    · exact k1.trans (k2.trans ((Kp.of (same_new n1)).trans ((Kp.of (same_new n2)).trans (k5.trans ((Kp.of (same_new n3)).trans (k7.trans ((Kp.of (same_new n4)).trans (Kp.of (same_new n5)))))))))
theorem ok_law_box (T : Tops K mg) (D_law_get : DefOk P w K mg base 1 "_law_get" ps__law_get spGet) (D_law_some_part : DefOk P w K mg base 4 "_law_some_part" ps__law_some_part (spSomePart K)) (D_law_above : DefOk P w K mg base 5 "_law_above" ps__law_above (spAbove K)) (D_law_small_box : DefOk P w K mg base 2 "_law_small_box" ps__law_small_box (spSomeBox K)) : DefOk P w K mg base 6 "_law_box" ps__law_box (spSomeBox K) := by
  refine T.d_law_box.ok sc__law_box (fun vs H Q E h => ?_) (fun f cdv A outer s H vs Q E hr h => ?_)
  · unfold spSomeBox at h
    obtain ⟨_, rfl, _⟩ := h
    rfl
  · unfold spSomeBox at h
    obtain ⟨c, rfl, hC, q⟩ := h
    refine ⟨_, (pss_cons (ps_if (pt_cmpR op_eq (pe_callD D_law_get hr (by decide) (by rfl) (pa_cons (pv 0) (pa_cons pe_int pa_nil))) pe_int (nomark _)) (pss_one (ps_ret (pe_callD D_law_small_box hr (by decide) (by rfl) (pa_cons (pv 0) pa_nil)))) pss_nil) (pss_one (ps_ret (pe_tup (pa_cons (pe_callD D_law_some_part hr (by decide) (by rfl) (pa_cons (pv 0) pa_nil)) (pa_cons (pe_callD D_law_some_part hr (by decide) (by rfl) (pa_cons (pv 0) pa_nil)) (pa_cons (pe_callD D_law_above hr (by decide) (by rfl) (pa_cons (pv 0) pa_nil)) (pa_cons (pe_callD D_law_above hr (by decide) (by rfl) (pa_cons (pv 0) pa_nil)) pa_nil)))))))), ?_⟩
    refine ⟨_, rfl, c, 2, rfl, hC, by decide, by decide, fun r H1 h0 h1 hC1 k1 => ?_⟩
    refine ⟨rfl, _, rfl, ?_⟩
    refine iteD (fun e => ?_) (fun e => ?_)
    · exact ⟨_, rfl, somebox_step hC1 fun v b H2 hv hb hC2 k2 => q v b H2 hv hb hC2 (k1.trans k2)⟩
    · refine ⟨_, rfl, c, rfl, hC1, fun v1 x1 H2 g1 z1 hC2 k2 => ?_⟩
      refine ⟨_, rfl, c, rfl, hC2, fun v2 x2 H3 g2 z2 hC3 k3 => ?_⟩
      refine ⟨_, rfl, above_step hC3 fun v3 x3 H4 g3 p3 z3 hC4 k4 => ?_⟩
      refine ⟨_, rfl, above_step hC4 fun v4 x4 H5 g4 p4 z4 hC5 k5 => ?_⟩
      refine ⟨(show 4 ≤ sizeLine by decide), fun p np => ?_⟩
      refine q _ ⟨x1, x2, x3, x4⟩ _ (BxV.mk np (((g1.bag k3 hC2).bag k4 hC3).bag k5 hC4) ((g2.bag k4 hC3).bag k5 hC4) (g3.bag k5 hC4) g4) ⟨p3, p4, z1.mono (by decide), z2.mono (by decide), z3, z4⟩ (hC5.same (same_new np)) ?_
      exact k1.trans (k2.trans (k3.trans (k4.trans (k5.trans (Kp.of (same_new np))))))
theorem ok_law_weight (T : Tops K mg) (D_law_get : DefOk P w K mg base 1 "_law_get" ps__law_get spGet) : DefOk P w K mg base 2 "_law_weight" ps__law_weight spWeight := by
  refine T.d_law_weight.ok sc__law_weight (fun vs H Q E h => ?_) (fun f cdv A outer s H vs Q E hr h => ?_)
  · unfold spWeight at h
    obtain ⟨_, _, rfl, _⟩ := h
    rfl
  · unfold spWeight at h
    obtain ⟨c, k, rfl, hC, q⟩ := h
    refine ⟨_, (pss_cons (ps_if (pt_cmpR op_eq (pv 1) pe_int (nomark _)) (pss_one (ps_ret (pe_op op_add pe_int (pe_callD D_law_get hr (by decide) (by rfl) (pa_cons (pv 0) (pa_cons pe_int pa_nil)))))) pss_nil) (pss_cons (ps_if (pt_cmpR op_eq (pv 1) pe_int (nomark _)) (pss_one (ps_ret (pe_op op_add pe_int (pe_callD D_law_get hr (by decide) (by rfl) (pa_cons (pv 0) (pa_cons pe_int pa_nil)))))) pss_nil) (pss_cons (ps_if (pt_cmpR op_eq (pv 1) pe_int (nomark _)) (pss_one (ps_ret pe_int)) pss_nil) (pss_one (ps_ret (pe_ix ix_list (pe_lst (pa_cons pe_int (pa_cons pe_int (pa_cons pe_int (pa_cons pe_int (pa_cons pe_int pa_nil)))))) (pe_callD D_law_get hr (by decide) (by rfl) (pa_cons (pv 0) (pa_cons pe_int pa_nil))) (fun _ _ => rfl))))))), ?_⟩
    refine ⟨_, rfl, rfl, _, rfl, ?_⟩
    refine iteB (fun _ => ?_) (fun _ => ?_)
    · refine ⟨_, rfl, c, 5, rfl, hC, by decide, by decide, fun r H1 h0 h1 hC1 k1 => ⟨_, _, rfl, rfl, q _ H1 (by omega) (by omega) hC1 k1⟩⟩
    refine ⟨_, rfl, rfl, _, rfl, ?_⟩
    refine iteB (fun _ => ?_) (fun _ => ?_)
    · refine ⟨_, rfl, c, 400000, rfl, hC, by decide, by decide, fun r H1 h0 h1 hC1 k1 => ⟨_, _, rfl, rfl, q _ H1 (by omega) (by omega) hC1 k1⟩⟩
    refine ⟨_, rfl, rfl, _, rfl, ?_⟩
    refine iteB (fun _ => q _ H (by decide) (by decide) hC (Kp.refl _ _)) (fun _ => ?_)
    refine ⟨(show 5 ≤ sizeLine by decide), fun p np => ?_⟩
    have s1 : Same H (upd H p (.lst [.int 1, .int 400000, .int 399999, .int 2, .int 3000])) := same_new np
    have hC1 := hC.same s1
    have hpc : p ≠ c := fun z => by
      obtain ⟨ys, hy⟩ := hC.lst
      rw [z, hy] at np
      cases np
    refine ⟨_, rfl, c, 5, rfl, hC1, by decide, by decide, fun r H2 h0 h1 hC2 k2 => ?_⟩
    have hp : H2 p = some (.lst [.int 1, .int 400000, .int 399999, .int 2, .int 3000]) := k2 _ _ upd_same hpc
    have hr : r = 0 ∨ r = 1 ∨ r = 2 ∨ r = 3 ∨ r = 4 := by omega
    have kk := (Kp.of (b := c) s1).trans k2.k0
    rcases hr with rfl | rfl | rfl | rfl | rfl
    all_goals exact ⟨p, _, _, _, rfl, rfl, SqL.of hp, rfl, q _ H2 (by decide) (by decide) hC2 kk⟩
theorem ok_law_weights (T : Tops K mg) (D_law_get : DefOk P w K mg base 1 "_law_get" ps__law_get spGet) (D_law_weight : DefOk P w K mg base 2 "_law_weight" ps__law_weight spWeight) : DefOk P w K mg base 3 "_law_weights" ps__law_weights (spWeights K) := by
  refine T.d_law_weights.ok sc__law_weights (fun vs H Q E h => ?_) (fun f cdv A outer s H vs Q E hr h => ?_)
  · unfold spWeights at h
    obtain ⟨_, _, rfl, _⟩ := h
    rfl
  · unfold spWeights at h
    obtain ⟨c, m, rfl, hC, hm0, hm1, q⟩ := h
    refine ⟨_, (pss_cons (ps_asg (pe_tup (pa_cons (pe_op op_add pe_int (pe_callD D_law_get hr (by decide) (by rfl) (pa_cons (pv 0) (pa_cons (pv 1) pa_nil)))) (pa_cons (pe_callD D_law_get hr (by decide) (by rfl) (pa_cons (pv 0) (pa_cons pe_int pa_nil))) pa_nil))) (pg_tup rfl (pgs_cons (pg_name (i := 2) sc__law_weights.nd rfl (.inl rfl)) (pgs_cons (pg_name (i := 3) sc__law_weights.nd rfl (.inr rfl)) pgs_nil)))) (pss_one (ps_ret (pe_lc (own := [("_law_k", 4)]) (g := gName 4) (by rfl) sc__law_weights.nd (pi_range1 rfl T.m_range (pa_cons (pv 2) pa_nil)) (blkOk_by (own := [("_law_k", 4)]) (N := ["_law_bag_here", "_law_most_here", "_law_many", "_law_kind", "_law_k"]) (sc := defScope s__law_weights) (by decide +kernel)) (fun _ _ _ _ _ => (pg_name (i := 4) sc__law_weights.nd rfl (.inl rfl))) (fun _ _ _ _ _ => pts_nil) (fun _ _ _ _ _ => (pe_callD D_law_weight hr (by decide) (by rfl) (pa_cons (pv 0) (pa_cons (pe_ifExp (pt_cmpR op_lt (pv 3) pe_int (nomark _)) (pv 3) (pe_callD D_law_get hr (by decide) (by rfl) (pa_cons (pv 0) (pa_cons pe_int pa_nil)))) pa_nil)))))))), ?_⟩
    refine ⟨_, rfl, _, rfl, c, m, rfl, hC, by omega, by omega, fun r H1 h0 h1 hC1 k1 => ?_⟩
    refine ⟨_, _, rfl, rfl, _, rfl, c, 5, rfl, hC1, by decide, by decide, fun kd H2 h2 h3 hC2 k2 => ?_⟩
    refine ⟨(show 2 ≤ sizeLine by decide), fun p np => ?_⟩
    have hC3 := hC2.same (same_new (o := .tup [.int (1 + r), .int kd]) np)
    have k3 := k1.trans (k2.trans (Kp.of (same_new (o := .tup [.int (1 + r), .int kd]) np)))
    refine ⟨p, _, rfl, SqT.of upd_same, rfl, _, _, rfl, _, _, rfl, rfl, ?_⟩
    -- the weights
    refine ⟨_, rfl, 1 + r, rfl, by omega, by omega, fun D nD => ?_⟩
    have nHD : H D = none := by
      have h2n := (same_new (H := H2) (o := .tup [.int (1 + r), .int kd]) np).free nD
      cases e : H D with
      | none => rfl
      | some o =>
        exfalso
        by_cases z : D = c
        · obtain ⟨ys, hy⟩ := hC2.lst
          rw [z, hy] at h2n
          cases h2n
        · have := (k1.trans k2.k0) _ _ e z
          rw [this] at h2n
          cases h2n
    have hDc : D ≠ c := fun z => by
      obtain ⟨ys, hy⟩ := hC3.lst
      rw [z] at nD
      exact absurd (nD.symm.trans hy) (by simp)
    refine lc_range (lo := 0) (n := (1 + r).toNat) (fun i H' => ∃ ws : List Int, ws.length = i ∧ (∀ x ∈ ws, 1 ≤ x ∧ x ≤ 400000) ∧ H' D = some (.lst (ws.map V.int)) ∧ Bag H' c ∧ Kp c H H') ⟨[], rfl, by simp, upd_same, hC3.same (same_new nD), k3.trans (Kp.of (same_new nD))⟩ ?_ ?_
    · rintro i H' hi ⟨ws, hl, hw, hD, hB, kk⟩
      refine ⟨rfl, _, rfl, ?_⟩
      have wt : ∀ (kx : Int) H4, Bag H4 c → Kp c H' H4 → spWeight [.ref c, .int kx] H4 (fun y H5 => ∃ acc, H5 D = some (.lst acc) ∧ acc.length < sizeLine ∧ ∃ ws : List Int, ws.length = i + 1 ∧ (∀ x ∈ ws, 1 ≤ x ∧ x ≤ 400000) ∧ (upd H5 D (.lst (acc ++ [y]))) D = some (.lst (ws.map V.int)) ∧ Bag (upd H5 D (.lst (acc ++ [y]))) c ∧ Kp c H (upd H5 D (.lst (acc ++ [y])))) E0 := by
        intro kx H4 hB4 k4
        refine weight_step hB4 fun w1 H5 w0 w1' hB5 k5 => ?_
        have hD5 : H5 D = some (.lst (ws.map V.int)) := k5 _ _ (k4 _ _ hD hDc) hDc
        refine ⟨_, hD5, ?_, ws ++ [w1], by rw [List.length_append, hl]; rfl, ?_, ?_, ?_, ?_⟩
        · rw [List.length_map]
          exact small1000 (by omega)
        · intro x hx
          rcases List.mem_append.mp hx with hx | hx
          · exact hw x hx
          · rw [List.mem_singleton.mp hx]
            exact ⟨w0, w1'⟩
        · rw [upd_same, List.map_append]
          rfl
        · have hz := hB5.write (D := D) (zs := ws ++ [w1]) hDc (by rw [List.length_append, hl]; show i + 1 ≤ 63; omega)
          rw [List.map_append] at hz
          exact hz
        · intro b o hb hbc
          have hbD : b ≠ D := ne_of_none hb nHD
          rw [upd_ne hbD]
          exact k5 _ _ (k4 _ _ (kk _ _ hb hbc) hbc) hbc
      refine ⟨_, rfl, _, _, rfl, rfl, _, rfl, ?_⟩
      refine iteD (fun e => ?_) (fun e => ?_)
      · exact ⟨_, rfl, wt _ H' hB (Kp.refl _ _)⟩
      · refine ⟨_, rfl, c, 4, rfl, hB, by decide, by decide, fun k4 H4 _ _ hB4 kp4 => wt _ H4 hB4 kp4⟩
    · rintro H' ⟨ws, hl, hw, hD, hB, kk⟩
      exact q D ws H' nHD hD ⟨by omega, by omega, hw⟩ hB kk
theorem ok_law_lean (T : Tops K mg) (D_law_get : DefOk P w K mg base 1 "_law_get" ps__law_get spGet) : DefOk P w K mg base 2 "_law_lean" ps__law_lean spLean := by
  refine T.d_law_lean.ok sc__law_lean (fun vs H Q E h => ?_) (fun f cdv A outer s H vs Q E hr h => ?_)
  · unfold spLean at h
    obtain ⟨_, rfl, _⟩ := h
    rfl
  · unfold spLean at h
    obtain ⟨c, rfl, hC, q⟩ := h
    refine ⟨_, (pss_one (ps_ret (pe_ix ix_list (pe_lst (pa_cons pe_str (pa_cons pe_str pa_nil))) (pe_callD D_law_get hr (by decide) (by rfl) (pa_cons (pv 0) (pa_cons pe_int pa_nil))) (fun _ _ => rfl)))), ?_⟩
    refine ⟨(show 2 ≤ sizeLine by decide), fun p np => ?_⟩
    have s1 : Same H (upd H p (.lst [.str "down", .str "across"])) := same_new np
    have hpc : p ≠ c := fun z => by
      obtain ⟨ys, hy⟩ := hC.lst
      rw [z, hy] at np
      cases np
    refine ⟨_, rfl, c, 2, rfl, hC.same s1, by decide, by decide, fun r H2 h0 h1 hC2 k2 => ?_⟩
    have hp : H2 p = some (.lst [.str "down", .str "across"]) := k2 _ _ upd_same hpc
    have kk := (Kp.of (b := c) s1).trans k2.k0
    have hr : r = 0 ∨ r = 1 := by omega
    rcases hr with rfl | rfl
    · exact ⟨p, _, _, _, rfl, rfl, SqL.of hp, rfl, q true H2 hC2 kk⟩
    · exact ⟨p, _, _, _, rfl, rfl, SqL.of hp, rfl, q false H2 hC2 kk⟩
theorem ok_law_shape (T : Tops K mg) (D_law_over : DefOk P w K mg base 3 "_law_over" ps__law_over (spTwo K (fun _ y => y ≠ 0) fun x y => x / y)) (D_law_less : DefOk P w K mg base 1 "_law_less" ps__law_less (spLess K)) : DefOk P w K mg base 4 "_law_shape" ps__law_shape (spTwo K (fun x y => 0 < x ∧ 0 < y) fun x y => gr (x / y) (y / x)) := by
  refine T.d_law_shape.ok sc__law_shape (fun vs H Q E h => ?_) (fun f cdv A outer s H vs Q E hr h => ?_)
  · unfold spTwo at h
    obtain ⟨_, _, _, _, rfl, _⟩ := h
    rfl
  · unfold spTwo at h
    obtain ⟨v, u, x, y, rfl, hx, hy, sx, sy, ⟨x0, y0⟩, q⟩ := h
    refine ⟨_, (pss_one (ps_ret (pe_ifExp (pt_val (pe_callD D_law_less hr (by decide) (by rfl) (pa_cons (pv 0) (pa_cons (pv 1) pa_nil)))) (pe_callD D_law_over hr (by decide) (by rfl) (pa_cons (pv 1) (pa_cons (pv 0) pa_nil))) (pe_callD D_law_over hr (by decide) (by rfl) (pa_cons (pv 0) (pa_cons (pv 1) pa_nil)))))), ?_⟩
    refine ⟨_, rfl, _, rfl, less_step hx hy sx sy (Nat.le_refl _) (Nat.le_refl _) ⟨_, rfl, ?_⟩⟩
    refine iteD (fun e => ?_) (fun e => ?_)
    · refine ⟨_, rfl, _, rfl, two_step hy hx sy sx (Nat.le_refl _) (Nat.le_refl _) (by grind) fun u1 H1 s1 hu => q u1 H1 s1 ?_⟩
      show PtV K H1 u1 (gr (x / y) (y / x))
      rw [← gr_shape x0 y0, if_pos e]
      exact hu
    · refine ⟨_, rfl, _, rfl, two_step hx hy sx sy (Nat.le_refl _) (Nat.le_refl _) (by grind) fun u1 H1 s1 hu => q u1 H1 s1 ?_⟩
      show PtV K H1 u1 (gr (x / y) (y / x))
      rw [← gr_shape x0 y0, if_neg e]
      exact hu
theorem ok_law_shapes (T : Tops K mg) (D_law_part : DefOk P w K mg base 2 "_law_part" ps__law_part (spPart K)) (D_law_times : DefOk P w K mg base 3 "_law_times" ps__law_times (spTwo K (fun _ _ => True) fun x y => x * y)) (D_law_most : DefOk P w K mg base 2 "_law_most" ps__law_most (spGreat K)) (D_law_shape : DefOk P w K mg base 4 "_law_shape" ps__law_shape (spTwo K (fun x y => 0 < x ∧ 0 < y) fun x y => gr (x / y) (y / x))) : DefOk P w K mg base 5 "_law_shapes" ps__law_shapes (spShapes K) := by
  refine T.d_law_shapes.ok sc__law_shapes (fun vs H Q E h => ?_) (fun f cdv A outer s H vs Q E hr h => ?_)
  · unfold spShapes at h
    obtain ⟨_, _, _, _, _, rfl, _⟩ := h
    rfl
  · unfold spShapes at h
    obtain ⟨v, a, b, ws, d, rfl, hV, hO, hS, hW, q⟩ := h
    refine ⟨_, (C8.pss_cut (ps_asg (pe_ifExp (pt_cmpR op_eq (pv 2) pe_str (nomark _)) (pe_tup (pa_cons (pe_ix ix_tup (pv 0) pe_int (fun _ _ => rfl)) (pa_cons (pe_ix ix_tup (pv 0) pe_int (fun _ _ => rfl)) pa_nil))) (pe_tup (pa_cons (pe_ix ix_tup (pv 0) pe_int (fun _ _ => rfl)) (pa_cons (pe_ix ix_tup (pv 0) pe_int (fun _ _ => rfl)) pa_nil)))) (pg_tup rfl (pgs_cons (pg_name (i := 3) sc__law_shapes.nd rfl (.inl rfl)) (pgs_cons (pg_name (i := 4) sc__law_shapes.nd rfl (.inr rfl)) pgs_nil)))) (pss_cons (ps_set (i := 5) sc__law_shapes.nd rfl (.inl rfl) pe_dnewT) (pss_cons (ps_for PassesOwn.never rfl (pi_range1 rfl T.m_range (pa_cons (pe_callB call_len_seq (by rfl) T.m_len PySem.boot_len (pa_cons (pv 1) pa_nil)) pa_nil)) (pg_name (i := 6) sc__law_shapes.nd rfl (.inl rfl)) (pss_one (ps_for PassesOwn.never rfl (pi_range2 rfl T.m_range (pa_cons (pe_op op_add (pv 6) pe_int) (pa_cons (pe_op op_add (pe_callB call_len_seq (by rfl) T.m_len PySem.boot_len (pa_cons (pv 1) pa_nil)) pe_int) pa_nil))) (pg_name (i := 7) sc__law_shapes.nd rfl (.inl rfl)) (pss_cons (ps_set (i := 8) sc__law_shapes.nd rfl (.inr rfl) (pe_slice sl_list (pv 1) (po_some (pv 6)) (po_some (pv 7)))) (pss_cons (ps_set (i := 9) sc__law_shapes.nd rfl (.inr rfl) (pe_callD D_law_times hr (by decide) (by rfl) (pa_cons (pv 3) (pa_cons (pe_callD D_law_part hr (by decide) (by rfl) (pa_cons (pe_callB (cr_sumA rfl) (by rfl) T.m_sum (by decide +kernel) (pa_cons (pv 8) pa_nil)) (pa_cons (pe_callB (cr_sumA rfl) (by rfl) T.m_sum (by decide +kernel) (pa_cons (pv 1) pa_nil)) pa_nil))) pa_nil)))) (pss_cons (ps_setLc (i := 10) (own := [("_law_one", 11)]) (g := gName 11) (by rfl) sc__law_shapes.nd rfl rfl (sw_true rfl rfl rfl (by decide +kernel)) (pi_list (pv 8)) (blkOk_by (own := [("_law_one", 11)]) (N := ["_law_box_here", "_law_weights_here", "_law_lean_here", "_law_length", "_law_width", "_law_found", "_law_first", "_law_end", "_law_row", "_law_deep", "_law_along", "_law_one"]) (sc := defScope s__law_shapes) (by decide +kernel)) (fun _ _ _ _ _ => (pg_name (i := 11) sc__law_shapes.nd rfl (.inl rfl))) (fun _ _ _ _ _ => pts_nil) (fun _ _ _ _ _ => (pe_callD D_law_times hr (by decide) (by rfl) (pa_cons (pv 4) (pa_cons (pe_callD D_law_part hr (by decide) (by rfl) (pa_cons (pv 11) (pa_cons (pe_callB (kk_call (K := K) (r := rSumA) rfl (cr_sumA rfl)) (by rfl) T.m_sum (by decide +kernel) (pa_cons (pv 8) pa_nil)) pa_nil))) pa_nil))))) (pss_one (ps_dput (u1 hr.units) (pv 5) (pe_tup (pa_cons (pv 6) (pa_cons (pv 7) pa_nil))) (pe_callD D_law_most hr (by decide) (by rfl) (pa_cons (pe_lc (own := [("_law_one", 11)]) (g := gName 11) (by rfl) sc__law_shapes.nd (pi_list (pv 10)) (blkOk_by (own := [("_law_one", 11)]) (N := ["_law_box_here", "_law_weights_here", "_law_lean_here", "_law_length", "_law_width", "_law_found", "_law_first", "_law_end", "_law_row", "_law_deep", "_law_along", "_law_one"]) (sc := defScope s__law_shapes) (by decide +kernel)) (fun _ _ _ _ _ => (pg_name (i := 11) sc__law_shapes.nd rfl (.inl rfl))) (fun _ _ _ _ _ => pts_nil) (fun _ _ _ _ _ => (pe_callD D_law_shape hr (by decide) (by rfl) (pa_cons (pv 9) (pa_cons (pv 11) pa_nil))))) pa_nil)) rfl)))))))) (pss_one (ps_ret (pv 5)))))), ?_⟩
    have hl1 := hW.l1
    have hws := hW.sum
    obtain ⟨av, w1, w2, w3, w4, rfl, hA⟩ := hV
    obtain ⟨Lq, hLq⟩ : ∃ Lq, Lq = (if d then b.h else b.w) := ⟨_, rfl⟩
    obtain ⟨Wq, hWq⟩ : ∃ Wq, Wq = (if d then b.w else b.h) := ⟨_, rfl⟩
    have L0 : 0 < Lq ∧ Sz 450 Lq := by cases d <;> rw [hLq] <;> first | exact ⟨hO.h0, hO.sh⟩ | exact ⟨hO.w0, hO.sw⟩
    have W0 : 0 < Wq ∧ Sz 450 Wq := by cases d <;> rw [hWq] <;> first | exact ⟨hO.h0, hO.sh⟩ | exact ⟨hO.w0, hO.sw⟩
    have nz : ∀ {x : Rat}, 0 < x → x ≠ 0 := fun h z => by
      rw [z] at h
      exact absurd h (by decide)
    refine ⟨fun σ' H' => ∃ vl vw, σ' = [some (.ref av), some (.ref a), some (.str (sd d)), some vl, some vw, none, none, none, none, none, none, none] ∧ Same H H' ∧ PtV K H' vl Lq ∧ PtV K H' vw Wq, ?_, ?_⟩
    · refine ⟨_, rfl, rfl, _, rfl, ?_⟩
      rw [sd_eq]
      cases d with
      | true => exact ⟨_, rfl, av, _, _, _, rfl, rfl, hA.1, rfl, _, rfl, av, _, _, _, rfl, rfl, hA.1, rfl, (show 2 ≤ sizeLine by decide), fun p np => ⟨p, _, rfl, SqT.of upd_same, rfl, _, _, rfl, _, _, rfl, rfl, _, _, rfl, same_new np, by rw [hLq]; exact hA.2.2.2.2.same (same_new np), by rw [hWq]; exact hA.2.2.2.1.same (same_new np)⟩⟩
      | false => exact ⟨_, rfl, av, _, _, _, rfl, rfl, hA.1, rfl, _, rfl, av, _, _, _, rfl, rfl, hA.1, rfl, (show 2 ≤ sizeLine by decide), fun p np => ⟨p, _, rfl, SqT.of upd_same, rfl, _, _, rfl, _, _, rfl, rfl, _, _, rfl, same_new np, by rw [hLq]; exact hA.2.2.2.1.same (same_new np), by rw [hWq]; exact hA.2.2.2.2.same (same_new np)⟩⟩
    rintro σ' H0 ⟨vl, vw, rfl, s0, hvl, hvw⟩
    have hS0 := seqL_same s0 hS
    refine fun F nF => ?_
    have sF := same_new (o := .dT []) nF
    have hvl := hvl.same sF
    have hvw := hvw.same sF
    refine ⟨_, rfl, a, _, rfl, .inl (seqL_same sF hS0), _, rfl, by rw [List.length_map]; omega, by rw [List.length_map]; omega, ?_⟩
    rw [List.length_map]
    have sF0 := s0.trans sF
    have hS1 := seqL_same sF hS0
    have nHF : H F = none := s0.free nF
    have hD0 : DSh K ws.length (fun i' j => i' < 0 ∧ AllR ws.length i' j) (fSh b ws d) (13 * 0) (upd H0 F (.dT [])) F := ⟨[], upd_same, Nat.le_refl _, (fun kv h => by cases h), fun i j c => absurd c.1 (by omega)⟩
    have nF1 : ∀ c o, H0 c = some o → c ≠ F := fun c o e => ne_of_none e nF
    have base : ∀ {H'}, Kp F (upd H0 F (.dT [])) H' → SqL K H' a (ws.map V.int) ∧ PtV K H' vl Lq ∧ PtV K H' vw Wq := fun k =>
      ⟨by
        have h := hS0
        rcases h with (h | ⟨o, h⟩) | h
        · exact .inl (.inl (k _ _ (sF _ _ h) (nF1 _ _ h)))
        · exact .inl (.inr ⟨o, k _ _ (sF _ _ h) (nF1 _ _ h)⟩)
        · exact .inr h, hvl.kpD k upd_same, hvw.kpD k upd_same⟩
    generalize upd H0 F (.dT []) = H1 at *
    refine for_range (lo := 0) (n := (ws.length : Int).toNat) (fun i σ H' => ∃ (v6 v7 v8 v9 v10 v11 : Option V), σ = [some (.ref av), some (.ref a), some (.str (sd d)), some vl, some vw, some (.ref F), v6, v7, v8, v9, v10, v11] ∧ Kp F H1 H' ∧ DSh K ws.length (fun i' j => i' < i ∧ AllR ws.length i' j) (fSh b ws d) (13 * i) H' F) ⟨_, _, _, _, _, _, rfl, Kp.refl _ _, hD0⟩ ?_ ?_
    · rintro i σ H2 hi ⟨v6, v7, v8, v9, v10, v11, rfl, k2, hD⟩
      have hi : i < ws.length := by omega
      have ei : (0 + (i : Int)) = ((i : Nat) : Int) := by omega
      rw [ei]
      refine ⟨_, rfl, _, _, rfl, rfl, _, rfl, a, _, rfl, .inl (base k2).1, _, _, rfl, rfl, _, _, rfl, ⟨by omega, by omega, by rw [List.length_map]; omega, by rw [List.length_map]; omega⟩, ?_⟩
      rw [List.length_map]
      refine for_range (lo := (i : Int) + 1) (n := ((ws.length : Int) + 1 - ((i : Int) + 1)).toNat) (fun k σ H' => ∃ (v7 v8 v9 v10 v11 : Option V), σ = [some (.ref av), some (.ref a), some (.str (sd d)), some vl, some vw, some (.ref F), some (.int (i : Int)), v7, v8, v9, v10, v11] ∧ Kp F H1 H' ∧ DSh K ws.length (fun i' j => (i' < i ∧ AllR ws.length i' j) ∨ (i' = i ∧ i < j ∧ j < i + 1 + k)) (fSh b ws d) (13 * i + k) H' F) ⟨_, _, _, _, _, rfl, k2, hD.mono (fun i' j c => by rcases c with c | c; exact c; omega) (by omega)⟩ ?_ ?_
      · rintro k σ H3 hk ⟨v7, v8, v9, v10, v11, rfl, k3, hD3⟩
        have e2 : (i : Int) + 1 + (k : Int) = ((i + 1 + k : Nat) : Int) := by omega
        rw [e2]
        obtain ⟨hS3, hl3, hw3⟩ := base k3
        have hfs : i + (k + 1) ≤ ws.length := by omega
        have hr := rowM_ok hW (show 1 ≤ k + 1 by omega) hfs
        have hrs := hr.sum
        have hrl := hr.l1
        refine ⟨_, rfl, _, rfl, _, rfl, _, rfl, _, rfl, a, _, rfl, hS3, fun p np => ?_⟩
        rw [cut_rowM (first := i) (size := k + 1) rfl (by omega) hfs]
        have s4 := same_new (o := .lst ((rowM ws i (k + 1)).map V.int)) np
        have hR : (upd H3 p (.lst ((rowM ws i (k + 1)).map V.int))) p = some (.lst ((rowM ws i (k + 1)).map V.int)) := upd_same
        generalize upd H3 p (.lst ((rowM ws i (k + 1)).map V.int)) = H4 at *
        -- deep
        refine ⟨_, rfl, _, rfl, sum_step (.inl (SqL.of hR)) ⟨_, rfl, sum_step (.inl (seqL_same s4 hS3)) ⟨_, _, rfl, by omega, pow_mono_lt (sz23 (by omega)) (by decide), pow_mono_lt (sz23 (by omega)) (by decide), fun y H5 s5 hy => ?_⟩⟩⟩
        have zS : Sz 23 (Rat.divInt (rowM ws i (k + 1)).sum ws.sum) := sz_share (by omega) hws
        refine two_step ((hl3.same s4).same s5) hy L0.2 zS (by decide) (by decide) trivial fun dp H6 s6 hdp => ?_
        have s46 := s5.trans s6
        have hR6 := s46 _ _ hR
        -- along
        refine ⟨_, rfl, p, rfl, ⟨_, SqL.of hR6⟩, fun D nD => ?_⟩
        refine lc_list (xs := (rowM ws i (k + 1)).map V.int) (fun n H' => Same H6 H' ∧ ∃ rs, H' D = some (.lst rs) ∧ Al (PtV K H') rs (((rowM ws i (k + 1)).take n).map fun x => Wq * Rat.divInt x (rowM ws i (k + 1)).sum)) ⟨same_new nD, [], upd_same, .nil⟩ (fun n H' _ z => SqL.of (z.1 _ _ hR6)) ?_ ?_
        · rintro n x H' hx ⟨sH, rs, hD', hRs⟩
          obtain ⟨x1, rfl, hx1, hxm⟩ : ∃ x1, x = V.int x1 ∧ (rowM ws i (k + 1))[n]? = some x1 ∧ x1 ∈ rowM ws i (k + 1) := by
            rw [List.getElem?_map] at hx
            obtain ⟨w1, h1, h2⟩ := Option.map_eq_some_iff.mp hx
            exact ⟨w1, h2.symm, h1, List.mem_of_getElem? h1⟩
          have hx2 := hr.g.mem hxm
          refine ⟨rfl, _, rfl, _, rfl, _, rfl, sum_step (.inl (SqL.of (sH _ _ hR6))) ⟨_, _, rfl, by omega, pow_mono_lt (sz23 (by omega)) (by decide), pow_mono_lt (sz23 (by omega)) (by decide), fun y2 H7 s7 hy2 => ?_⟩⟩
          refine two_step ((hw3.same (s4.trans (s46.trans sH))).same s7) hy2 W0.2 (sz_share (by omega) hrs) (by decide) (by decide) trivial fun u H8 s8 hu => ?_
          have s78 := s7.trans s8
          have hR8 := s78 _ _ hD'
          have hrl2 := hRs.len
          rw [List.length_map, List.length_take] at hrl2
          refine ⟨rs, hR8, small1000 (by omega), same_write nD (sH.trans s78), _, upd_same, ?_⟩
          rw [List.take_add_one, hx1, List.map_append]
          exact Al.snoc (hu.kp Kp.upd hR8) (Al.mono (fun v x h => h.kp Kp.upd hR8) (Al.mono (fun v x h => h.same s78) hRs))
        rintro H7 ⟨s7, rs, hAl, hRs⟩
        rw [List.length_map, List.take_length] at hRs
        have hdp := hdp.same s7
        have zd : Sz 473 (Lq * Rat.divInt (rowM ws i (k + 1)).sum ws.sum) := sz_mul L0.2 zS (Nat.le_refl _)
        have pd : 0 < Lq * Rat.divInt (rowM ws i (k + 1)).sum ws.sum := Rat.mul_pos L0.1 (divInt_pos hrs.1 hws.1)
        -- the greatest shape
        refine ⟨_, rfl, D, rfl, ⟨_, SqL.of hAl⟩, fun D2 nD2 => ?_⟩
        refine lc_list (xs := rs) (fun n H' => Same H7 H' ∧ ∃ qs, H' D2 = some (.lst qs) ∧ Al (PtV K H') qs (((rowM ws i (k + 1)).take n).map (shpX (gform b ws.sum (rowM ws i (k + 1)) d)))) ⟨same_new nD2, [], upd_same, .nil⟩ (fun n H' _ z => SqL.of (z.1 _ _ hAl)) ?_ ?_
        · rintro n x H' hx ⟨sH, qs, hD', hQs⟩
          obtain ⟨al, h1, h2⟩ := hRs.get hx
          rw [List.getElem?_map] at h1
          obtain ⟨x1, hx1, rfl⟩ := Option.map_eq_some_iff.mp h1
          have hx2 := hr.g.mem (List.mem_of_getElem? hx1)
          have za : Sz 473 (Wq * Rat.divInt x1 (rowM ws i (k + 1)).sum) := sz_mul W0.2 (sz_share (by omega) hrs) (Nat.le_refl _)
          have pa : 0 < Wq * Rat.divInt x1 (rowM ws i (k + 1)).sum := Rat.mul_pos W0.1 (divInt_pos (by omega) hrs.1)
          refine ⟨rfl, _, rfl, _, rfl, two_step (hdp.same sH) (h2.same sH) zd za (by decide) (by decide) ⟨pd, pa⟩ fun u H8 s8 hu => ?_⟩
          have hR8 := s8 _ _ hD'
          have hrl2 := hQs.len
          rw [List.length_map, List.length_take] at hrl2
          refine ⟨qs, hR8, small1000 (by omega), same_write nD2 (sH.trans s8), _, upd_same, ?_⟩
          rw [shp_own L0.1 W0.1 hrs.1 hws.1 (by omega)] at hu
          have eg : Wq / Lq * Rat.divInt ws.sum ((rowM ws i (k + 1)).sum * (rowM ws i (k + 1)).sum) = gform b ws.sum (rowM ws i (k + 1)) d := by
            unfold gform
            cases d <;> rw [hLq, hWq] <;> rfl
          rw [eg] at hu
          rw [List.take_add_one, hx1, List.map_append]
          exact Al.snoc (hu.kp Kp.upd hR8) (Al.mono (fun v x h => h.kp Kp.upd hR8) (Al.mono (fun v x h => h.same s8) hQs))
        rintro H8 ⟨s8, qs, hQ, hQs⟩
        have hrsl := hRs.len
        rw [List.length_map] at hrsl
        rw [hrsl, List.take_length] at hQs
        have hl0 := hr.l0
        refine great_step (n := 970) (SqL.of hQ) hQs (fun z => ?_) (fun y hy => ?_) (by decide) fun u H9 s9 hu => ?_
        · have := congrArg List.length z
          rw [List.length_map, List.length_nil] at this
          omega
        · obtain ⟨x, hx, rfl⟩ := List.mem_map.mp hy
          exact (sz_shpX (sz_gform hO (by omega) hrs d) (gform_pos hO hws.1 hrs.1 d) (hr.g.mem hx)).mono (by decide)
        refine ⟨_, rfl, _, rfl, _, rfl, (show 2 ≤ sizeLine by decide), fun p2 np2 => ?_⟩
        have s10 := same_new (o := .tup [.int (i : Int), .int ((i + 1 + k : Nat) : Int)]) np2
        have s310 := s4.trans (s46.trans (s7.trans (s8.trans (s9.trans s10))))
        have ef : fSh b ws d i (i + 1 + k) = mostL ((rowM ws i (k + 1)).map (shpX (gform b ws.sum (rowM ws i (k + 1)) d))) := by
          unfold fSh
          rw [show i + 1 + k - i = k + 1 by omega]
          rfl
        rw [← ef] at hu
        obtain ⟨H5', h1, h2, h3⟩ := (hD3.same s310).put ⟨by omega, by omega⟩ (by omega) (hu.same s10) p2 upd_same
        refine ⟨F, H5', rfl, h1, _, _, _, _, _, rfl, (k3.trans (Kp.of s310)).trans h2, h3.mono (fun i' j c => ?_) (by omega)⟩
        rcases c with c | ⟨c1, c2, c3⟩
        · exact .inl (.inl c)
        · by_cases z : j = i + 1 + k
          · exact .inr ⟨c1, z⟩
          · exact .inl (.inr ⟨c1, c2, by omega⟩)
      · rintro σ H3 ⟨v7, v8, v9, v10, v11, rfl, k3, hD2⟩
        refine ⟨_, _, _, _, _, _, rfl, k3, hD2.mono (fun i' j c => ?_) (by omega)⟩
        obtain ⟨c1, c2, c3⟩ := c
        by_cases z : i' = i
        · exact .inr ⟨z, by omega, by omega⟩
        · exact .inl ⟨by omega, c2, c3⟩
    · rintro σ H2 ⟨v6, v7, v8, v9, v10, v11, rfl, k2, hD⟩
      exact ⟨_, rfl, q F H2 nHF (same_kp nHF sF0 k2) (hD.mono (fun i' j c => ⟨by have := c.1; have := c.2; omega, c⟩) (by omega))⟩
theorem ok_law_greedy (T : Tops K mg) (D_law_less : DefOk P w K mg base 1 "_law_less" ps__law_less (spLess K)) : DefOk P w K mg base 2 "_law_greedy" ps__law_greedy (spLGreedy K) := by
  refine T.d_law_greedy.ok sc__law_greedy (fun vs H Q E h => ?_) (fun f cdv A outer s H vs Q E hr h => ?_)
  · unfold spLGreedy at h
    obtain ⟨_, _, _, _, rfl, _⟩ := h
    rfl
  · unfold spLGreedy at h
    obtain ⟨D, n, g, m, rfl, hD, hn, hz, q⟩ := h
    refine ⟨_, (pss_cons (ps_set (i := 2) sc__law_greedy.nd rfl (.inl rfl) (pe_lst pa_nil)) (pss_cons (ps_set (i := 3) sc__law_greedy.nd rfl (.inl rfl) pe_int) (pss_cons (ps_while PassesOwn.never (pt_cmpR op_lt (pv 3) (pv 1) (nomark _)) (pss_cons (ps_set (i := 4) sc__law_greedy.nd rfl (.inl rfl) pe_int) (pss_cons (ps_set (i := 5) sc__law_greedy.nd rfl (.inl rfl) pe_bl) (pss_cons (ps_while PassesOwn.never (PW.pt (pw_and (pt_cmpR op_lt (pv 4) (pe_op op_sub (pv 1) (pv 3)) (nomark _)) (pw_and1 (pt_not (pt_val (pv 5)))))) (pss_cons (ps_set (i := 5) sc__law_greedy.nd rfl (.inl rfl) (pe_callD D_law_less hr (by decide) (by rfl) (pa_cons (pe_dget (u1 hr.units) (pv 0) (pe_tup (pa_cons (pv 3) (pa_cons (pe_op op_add (pv 3) (pv 4)) pa_nil))) (fun _ _ => rfl)) (pa_cons (pe_dget (u1 hr.units) (pv 0) (pe_tup (pa_cons (pv 3) (pa_cons (pe_op op_add (pe_op op_add (pv 3) (pv 4)) pe_int) pa_nil))) (fun _ _ => rfl)) pa_nil)))) (pss_one (ps_set (i := 4) sc__law_greedy.nd rfl (.inl rfl) (pe_ifExp (pt_val (pv 5)) (pv 4) (pe_op op_add (pv 4) pe_int)))))) (pss_cons (ps_expr (pe_bm PySem.F.plainAttrs_list PySem.F.slot_list_append PySem.F.type_list_append mt_append (pv 2) (pa_cons (pv 4) pa_nil))) (pss_one (ps_set (i := 3) sc__law_greedy.nd rfl (.inl rfl) (pe_op op_add (pv 3) (pv 4))))))))) (pss_one (ps_ret (pe_callTy call_tuple_of (by rfl) T.m_tuple (by decide +kernel) (pa_cons (pv 2) pa_nil))))))), ?_⟩
    refine ⟨Nat.zero_le _, fun F nF => ?_⟩
    have sF : Same H (upd H F (.lst [])) := same_new nF
    have hgl := (greedy_sok g n).len
    refine ⟨fun mm σ H' => ∃ (v4 v5 : Option V) (b : Nat) (ss : List Int), σ = [some (.ref D), some (.int n), some (.ref F), some (.int b), v4, v5] ∧ b ≤ n ∧ ss ++ greedyL g n b = greedyL g n 0 ∧ Same H H' ∧ H' F = some (.lst (ss.map V.int)) ∧ mm = n - b, ⟨_, none, none, 0, [], rfl, by omega, rfl, sF, upd_same, rfl⟩, ?_⟩
    rintro mm σ H1 ⟨v4, v5, b, ss, rfl, hb, hss, s1, hF, hm⟩
    have hssl := congrArg List.length hss
    rw [List.length_append] at hssl
    refine ⟨_, rfl, _, rfl, _, _, rfl, rfl, _, rfl, ?_⟩
    refine ite2 (fun hd => ?_) (fun hd => ?_)
    · have hb' : b < n := by have := of_decide_eq_true hd; omega
      refine ⟨fun σ' H'' => ∃ (v4 v5 : Option V) (b' : Nat) (ss : List Int), σ' = [some (.ref D), some (.int n), some (.ref F), some (.int b'), v4, v5] ∧ b' ≤ n ∧ ss ++ greedyL g n b' = greedyL g n 0 ∧ Same H H'' ∧ H'' F = some (.lst (ss.map V.int)) ∧ n - b' < mm, fun σ' H'' h => ?_, ?_⟩
      · obtain ⟨v4, v5, b', ss, rfl, h1, h2, h3, h4, h5⟩ := h
        exact ⟨_, h5, v4, v5, b', ss, rfl, h1, h2, h3, h4, rfl⟩
      refine ⟨fun m2 σ H'' => ∃ (sz : Nat) (gw : Bool), σ = [some (.ref D), some (.int n), some (.ref F), some (.int b), some (.int sz), some (.bl gw)] ∧ Same H H'' ∧ H'' F = some (.lst (ss.map V.int)) ∧ 1 ≤ sz ∧ b + sz ≤ n ∧ (gw = false → gEnd g n b (b + 1) = gEnd g n b (b + sz)) ∧ (gw = true → gEnd g n b (b + 1) = b + sz) ∧ m2 = (n - b - sz) + (if gw = true then 0 else 1), ⟨_, 1, false, rfl, s1, hF, by omega, by omega, fun _ => rfl, (fun z => nomatch z), rfl⟩, ?_⟩
      rintro m2 σ H2 ⟨sz, gw, rfl, s2, hF2, hs1, hs2, h0, h1, hm2⟩
      by_cases c1 : (sz : Int) < (n : Int) - (b : Int)
      · refine ⟨_, rfl, _, rfl, _, rfl, _, _, rfl, rfl, _, _, rfl, rfl, true, congrArg V.bl (decide_eq_true c1), ?_⟩
        refine ⟨_, rfl, _, rfl, ?_⟩
        cases gw with
        | false =>
          refine iteT ?_
          refine ⟨fun σ' H'' => ∃ (sz : Nat) (gw : Bool), σ' = [some (.ref D), some (.int n), some (.ref F), some (.int b), some (.int sz), some (.bl gw)] ∧ Same H H'' ∧ H'' F = some (.lst (ss.map V.int)) ∧ 1 ≤ sz ∧ b + sz ≤ n ∧ (gw = false → gEnd g n b (b + 1) = gEnd g n b (b + sz)) ∧ (gw = true → gEnd g n b (b + 1) = b + sz) ∧ (n - b - sz) + (if gw = true then 0 else 1) < m2, fun σ' H'' h => ?_, ?_⟩
          · obtain ⟨sz, gw, rfl, a1, a2, a3, a4, a5, a6, a7⟩ := h
            exact ⟨_, a7, sz, gw, rfl, a1, a2, a3, a4, a5, a6, rfl⟩
          have hD2 := hD.same s2
          refine ⟨_, rfl, _, rfl, _, rfl, _, rfl, _, _, rfl, rfl, (show 2 ≤ sizeLine by decide), fun p np => ?_⟩
          have sp := same_new (o := .tup [.int (b : Int), .int ((b + sz : Nat) : Int)]) np
          have hD3 := hD2.same sp
          obtain ⟨u1', g1, g2⟩ := hD3.get (i := b) (j := b + sz) ⟨by omega, by omega⟩ p upd_same
          refine ⟨D, u1', rfl, g1, ?_⟩
          refine ⟨_, rfl, _, rfl, _, rfl, _, rfl, _, _, rfl, rfl, _, _, rfl, rfl, (show 2 ≤ sizeLine by decide), fun p2 np2 => ?_⟩
          have sp2 := same_new (o := .tup [.int (b : Int), .int ((b + sz + 1 : Nat) : Int)]) np2
          obtain ⟨u2', g3, g4⟩ := (hD3.same sp2).get (i := b) (j := b + sz + 1) ⟨by omega, by omega⟩ p2 upd_same
          refine ⟨D, u2', rfl, g3, ?_⟩
          refine less_step (g2.same sp2) g4 (hz _ _ ⟨by omega, by omega⟩) (hz _ _ ⟨by omega, by omega⟩) (Nat.le_refl _) (Nat.le_refl _) ?_
          have s3 := s2.trans (sp.trans sp2)
          have hF3 := (sp.trans sp2) _ _ hF2
          rw [h0 rfl] at *
          refine ⟨_, rfl, _, rfl, ?_⟩
          refine iteD (fun e => ?_) (fun e => ?_)
          · refine ⟨_, rfl, sz, true, congrArg (fun z => [some (V.ref D), some (V.int n), some (V.ref F), some (V.int b), some (V.int sz), some (V.bl z)]) (decide_eq_true e), s3, hF3, hs1, hs2, (fun z => nomatch z), fun _ => ?_, ?_⟩
            · rw [h0 rfl]
              exact gEnd_stop (fun z => z.2 e)
            · rw [hm2]
              simp
          · refine ⟨_, rfl, _, _, rfl, rfl, sz + 1, false, congrArg (fun z => [some (V.ref D), some (V.int n), some (V.ref F), some (V.int b), some (V.int ((sz + 1 : Nat) : Int)), some (V.bl z)]) (decide_eq_false e), s3, hF3, by omega, by omega, fun _ => ?_, (fun z => nomatch z), ?_⟩
            · rw [h0 rfl]
              exact gEnd_go ⟨by omega, e⟩
            · rw [hm2]
              simp
              omega
        | true =>
          refine iteF ?_
          have he : gEnd g n b (b + 1) = b + sz := h1 rfl
          have hgo := greedyL_go (f := g) hb'
          rw [he] at hgo
          refine ⟨_, rfl, .inl ⟨rfl, _, SqL.of hF2⟩, _, rfl, F, ss.map V.int, .int sz, rfl, rfl, hF2, small1000 (by rw [List.length_map]; omega), ?_⟩
          refine ⟨_, rfl, _, rfl, _, _, rfl, rfl, ?_⟩
          refine ⟨_, _, b + sz, ss ++ [(sz : Int)], rfl, by omega, ?_, same_write nF s2, ?_, by omega⟩
          · rw [← hss, hgo, List.append_assoc]
            rw [show b + sz - b = sz by omega]
            rfl
          · rw [upd_same, List.map_append]
            rfl
      · refine ⟨_, rfl, _, rfl, _, rfl, _, _, rfl, rfl, _, _, rfl, rfl, false, congrArg V.bl (decide_eq_false c1), ?_⟩
        refine iteF ?_
        have he : gEnd g n b (b + 1) = b + sz := by
                    cases gw with
                    | true => exact h1 rfl
                    | false =>
                      rw [h0 rfl]
                      exact gEnd_stop (fun z => by have := z.1; omega)
        have hgo := greedyL_go (f := g) hb'
        rw [he] at hgo
        refine ⟨_, rfl, .inl ⟨rfl, _, SqL.of hF2⟩, _, rfl, F, ss.map V.int, .int sz, rfl, rfl, hF2, small1000 (by rw [List.length_map]; omega), ?_⟩
        refine ⟨_, rfl, _, rfl, _, _, rfl, rfl, ?_⟩
        refine ⟨_, _, b + sz, ss ++ [(sz : Int)], rfl, by omega, ?_, same_write nF s2, ?_, by omega⟩
        · rw [← hss, hgo, List.append_assoc]
          rw [show b + sz - b = sz by omega]
          rfl
        · rw [upd_same, List.map_append]
          rfl
    · have hb' : b = n := by
        have : ¬ (b : Int) < (n : Int) := fun z => hd (decide_eq_true z)
        omega
      rw [greedyL_stop (by omega), List.append_nil] at hss
      refine ⟨_, rfl, F, _, rfl, .inl ⟨SqL.of hF, fun l nl => ?_⟩⟩
      have sl := same_new (o := .tup (ss.map V.int)) nl
      exact q l _ (s1.trans sl) (by rw [← hss]; exact upd_same)
end
end Cc
set_option exponentiation.threshold 10000
set_option maxHeartbeats 20000000
namespace Cc
open PySem PySem.Spec PyProof.Rows L2
local macro_rules | `(tactic| walk_at "sd") => `(tactic| first
  | exact cmul_r ⟨by decide, by decide⟩
  | exact cmul_l ⟨by decide, by decide⟩
  | exact cmul_l ⟨by omega, by omega⟩
  | exact cmul_w (by assumption) (by assumption) (by decide)
  | exact (show CPow 10 18 from ⟨by decide, by decide, by decide⟩)
  | exact (show (0 : Int) < 2147483629 by decide)
  | exact (show CDiv _ _ from ⟨by decide, by decide⟩)
  | exact (show CDiv _ _ from ⟨by assumption, by assumption⟩)
  | assumption)
local macro_rules | `(tactic| walk_at "rd") => `(tactic| first
  | refine ⟨_, rfl, ?_⟩
  | refine ⟨_, _, rfl, rfl, ?_⟩
  | (refine ⟨_, ?_, _, ?_, rfl, rfl, ?_, ?_, ?_⟩; rotate_left 2; (first | exact SqL.of (by assumption) | (show SqT _ _ _ _; assumption) | (show SqL _ _ _ _; assumption)); (first | exact rfl | assumption))
  | (refine ⟨_, ?_, rfl, ?_, ?_⟩; rotate_left 1; (first | exact .inl (SqL.of (by assumption)) | exact .inl (SqL.of upd_same)))
  | (refine And.intro ?_ ?_; (focus (walk_at "sd"))))
section
variable {P : Program} {w : World} {K : PySem.W.Frag} {mg : Str → Option Value} {base : Heap}
theorem dle_ints {ss : List Int} (h : ss.length ≤ 1000) : dle 6 (.tuple (ss.map PyData.int)) = true := by
  simp only [dle, Bool.and_eq_true, decide_eq_true_eq, List.all_eq_true, List.length_map]
  refine ⟨h, fun e he => ?_⟩
  obtain ⟨b, _, rfl⟩ := List.mem_map.mp he
  rfl
theorem canlay_ints : ∀ ws : List Int, PyData.canLayAll0 (ws.map PyData.int) = true
  | [] => rfl
  | x :: r => by
    rw [List.map_cons]
    exact canlay_ints r
theorem eqv_intsT (ws : List Int) : PyData.eqv (.tuple (ws.map PyData.int)) (.tuple (ws.map PyData.int)) = true :=
  PySem.SeqAt.eqv_refl _ (canlay_ints ws)
theorem ok_law {f : Addr} {fd : FuncData} (T : Tops K mg) (F : Fun K "law" "law" s_law f fd) (D_greedy : DefOkS P w K mg base 6 "greedy" ps_greedy 2 (.str "down") (spGreedy K)) (D_law_bag : DefOk P w K mg base 1 "_law_bag" ps__law_bag (spBag K)) (D_law_same : DefOk P w K mg base 6 "_law_same" ps__law_same (spSame K 6)) (D_law_box : DefOk P w K mg base 6 "_law_box" ps__law_box (spSomeBox K)) (D_law_weights : DefOk P w K mg base 3 "_law_weights" ps__law_weights (spWeights K)) (D_law_lean : DefOk P w K mg base 2 "_law_lean" ps__law_lean spLean) (D_law_shapes : DefOk P w K mg base 5 "_law_shapes" ps__law_shapes (spShapes K)) (D_law_greedy : DefOk P w K mg base 2 "_law_greedy" ps__law_greedy (spLGreedy K)) : FnOk P w K mg base CX0 7 f fd ps_law (spLaw K) := by
  refine F.ok sc_law (fun vs H Q E h => ?_) (fun cdv A outer s H vs Q E hr h => ?_)
  · obtain ⟨_, _, rfl, _⟩ := h
    rfl
  · obtain ⟨a, ns, rfl, hS, hlen, q⟩ := h
    refine ⟨_, (pss_cons (ps_set (i := 1) sc_law.nd rfl (.inl rfl) (pe_callD D_law_bag hr (by decide) (by rfl) (pa_cons (pv 0) pa_nil))) (pss_cons (ps_for PassesOwn.never rfl (pi_range1 rfl T.m_range (pa_cons pe_int pa_nil)) (pg_name (i := 2) sc_law.nd rfl (.inl rfl)) (pss_cons (ps_par3 (i := 3) (j := 4) (l := 5) (by rfl) sc_law.nd rfl rfl rfl (by decide) (by decide) (by decide) rfl rfl rfl (pa_cons (pe_callD D_law_box hr (by decide) (by rfl) (pa_cons (pv 1) pa_nil)) (pa_cons (pe_callD D_law_weights hr (by decide) (by rfl) (pa_cons (pv 1) (pa_cons pe_int pa_nil))) (pa_cons (pe_callD D_law_lean hr (by decide) (by rfl) (pa_cons (pv 1) pa_nil)) pa_nil))) (by rfl)) (pss_cons (ps_set (i := 6) sc_law.nd rfl (.inl rfl) (pe_callD D_law_greedy hr (by decide) (by rfl) (pa_cons (pe_callD D_law_shapes hr (by decide) (by rfl) (pa_cons (pv 3) (pa_cons (pv 4) (pa_cons (pv 5) pa_nil)))) (pa_cons (pe_callB call_len_seq (by rfl) T.m_len PySem.boot_len (pa_cons (pv 4) pa_nil)) pa_nil)))) (pss_cons (ps_if (pt_not (pt_val (pe_callD D_law_same hr (by decide) (by rfl) (pa_cons (pe_callS1 D_greedy hr (by decide) (by rfl) (pa_cons (pv 3) (pa_cons (pv 4) pa_nil)) (pk_cons (pv 5) pk_nil)) (pa_cons (pv 6) pa_nil))))) (pss_one (ps_ret pe_bl)) pss_nil) (pss_one (ps_if (pt_cmpR (op_neD hr.units) (pe_callS0 D_greedy hr (by decide) (by rfl) (pa_cons (pv 3) (pa_cons (pv 4) pa_nil))) (pe_callD D_law_greedy hr (by decide) (by rfl) (pa_cons (pe_callD D_law_shapes hr (by decide) (by rfl) (pa_cons (pv 3) (pa_cons (pv 4) (pa_cons pe_str pa_nil)))) (pa_cons (pe_callB call_len_seq (by rfl) T.m_len PySem.boot_len (pa_cons (pv 4) pa_nil)) pa_nil))) (nomark _)) (pss_one (ps_ret pe_bl)) pss_nil)))))) (pss_one (ps_ret pe_bl)))), ?_⟩
    refine ⟨_, rfl, a, ns, rfl, hS, hlen, fun b H1 nb s1 hB => ?_⟩
    refine ⟨4, rfl, by decide, by decide, for_range (lo := 0) (n := 4) (fun i σ H' => ∃ (v2 v3 v4 v5 v6 : Option V), σ = [some (.ref a), some (.ref b), v2, v3, v4, v5, v6] ∧ Bag H' b) ⟨none, none, none, none, none, rfl, hB⟩ ?_ ?_⟩
    · rintro i σ H2 hi ⟨v2, v3, v4, v5, v6, rfl, hB2⟩
      refine ⟨_, rfl, somebox_step hB2 fun w bx H3 hw hb hB3 k3 => ?_⟩
      refine ⟨_, rfl, weights_step (m := 12) hB3 (by decide) (by decide) fun L ws H4 nL hL hW hB4 k4 => ?_⟩
      have hLb : L ≠ b := fun z => by
        obtain ⟨ys, hy⟩ := hB3.lst
        rw [z, hy] at nL
        cases nL
      have hw := hw.bag k4 hB3
      refine ⟨_, rfl, lean_step hB4 fun d H5 hB5 k5 => ?_⟩
      have hw := hw.bag k5 hB4
      have hL := k5 _ _ hL hLb
      refine ⟨_, _, _, rfl, ?_⟩
      have hl1 := hW.l1
      have gl : ∀ d, (greedyL (fSh bx ws d) ws.length 0).length ≤ 1000 := fun d => by
        have := (greedy_sok (fSh bx ws d) ws.length).len
        omega
      refine ⟨_, rfl, _, rfl, _, rfl, shapes_step (d := d) hw hb (by decide) (SqL.of hL) hW fun D H6 nD s6 hD => ?_⟩
      refine ⟨_, rfl, L, _, rfl, .inl (SqL.of (s6 _ _ hL)), lgreedy_step (n := ws.length) hD hl1 (sz_fSh hb hW d (by decide)) (fun t H7 s7 ht => ?_) (by rw [List.length_map]; rfl)⟩
      have e7 := s6.trans s7
      refine ⟨_, rfl, _, rfl, _, rfl, rfl, rfl, greedy_step (d := d) (hw.same e7) hb (by decide) (SqL.of (e7 _ _ hL)) hW fun t2 H8 s8 ht2 => ?_⟩
      refine ⟨_, rfl, same_step (.tup (SqT.of ht2) (dp_ints K _ _)) (.tup (SqT.of (s8 _ _ ht)) (dp_ints K _ _)) (dle_ints (gl d)) fun H9 s9 => ⟨_, rfl, ?_⟩⟩
      have e9 := e7.trans (s8.trans s9)
      have hw := hw.same e9
      have hL := e9 _ _ hL
      have hB9 := hB5.same e9
      refine ⟨_, rfl, _, rfl, greedy_step (d := true) hw hb (by decide) (SqL.of hL) hW fun t3 H10 s10 ht3 => ?_⟩
      refine ⟨_, rfl, _, rfl, shapes_step (d := true) (hw.same s10) hb (by decide) (SqL.of (s10 _ _ hL)) hW fun D2 H11 nD2 s11 hD2 => ?_⟩
      have e11 := s10.trans s11
      refine ⟨_, rfl, L, _, rfl, .inl (SqL.of (e11 _ _ hL)), lgreedy_step (n := ws.length) hD2 hl1 (sz_fSh hb hW true (by decide)) (fun t4 H12 s12 ht4 => ?_) (by rw [List.length_map]; rfl)⟩
      refine ⟨_, _, .tup (SqT.of ((s11.trans s12) _ _ ht3)) (dp_ints K _ _), .tup (SqT.of ht4) (dp_ints K _ _), PySem.W.ke_shaped_ints _, PySem.W.ke_shaped_ints _, _, rfl, ?_⟩
      rw [eqv_intsT]
      refine iteF ?_
      exact ⟨_, _, _, _, _, rfl, hB9.same (e11.trans s12)⟩
    · rintro σ H2 ⟨v2, v3, v4, v5, v6, rfl, hB2⟩
      exact q H2
end
end Cc
set_option exponentiation.threshold 10000
set_option maxHeartbeats 20000000
namespace Cc
open PySem PySem.Spec PyProof.Rows L2
theorem law_of {l : PySem.W.OpenLaw} {w : World} {K : PySem.W.Frag} {mg : Str → Option Value} {fa : Addr} (hfa : mg "law" = some (.ref fa)) (T : Tops K mg)
    {h : Heap} (X : K.In h) (G : h.Ns mainGlobals mg) {f : Addr} {oc : Value} {od an : Option Addr} {osl : Array (Option Value)} {kV doc pm cdv ct : Value}
    (a : PySem.W.nsIn K mainGlobals "law" = some (some (.ref f))) (lk : K.lookup f = some ⟨oc, od, .func (PySem.W.fnOf "law" "law" (defArgs s_law) (defBody s_law) (defScope s_law) .none kV doc pm an cdv ct), osl⟩) (c : PySem.W.codeIn K cdv "law" = true) (k : PySem.W.keepIn K (.ref f) = true) :
    ∃ fd : FuncData, (∀ (s : Shared) (v : Value), BindsTo s fd ⟨[v], []⟩ [("_law_script", v)]) ∧ ∀ base : Heap, K.In base → base.Ns mainGlobals mg → FnOk l.prog w K mg base CX0 7 fa fd ["_law_script"] (spLaw K) := by
  have e := hfa.symm.trans (PySem.W.mg_of X G a)
  cases e
  refine ⟨PySem.W.fnOf "law" "law" (defArgs s_law) (defBody s_law) (defScope s_law) .none kV doc pm an cdv ct, fun s v => .of_eq rfl, fun base _ _ => ?_⟩
  have D_is_number := ok_is_number (P := l.prog) (w := w) (base := base) T
  have D_is_part := ok_is_part (P := l.prog) (w := w) (base := base) T D_is_number
  have D_part := ok_part (P := l.prog) (w := w) (base := base) T
  have D_times := ok_times (P := l.prog) (w := w) (base := base) T D_part
  have D_over := ok_over (P := l.prog) (w := w) (base := base) T D_part
  have D_less := ok_less (P := l.prog) (w := w) (base := base) T
  have D_greater := ok_greater (P := l.prog) (w := w) (base := base) T D_less
  have D_is_box := ok_is_box (P := l.prog) (w := w) (base := base) T D_is_part D_less
  have D_check_box := ok_check_box (P := l.prog) (w := w) (base := base) T D_is_box
  have D_check_weights := ok_check_weights (P := l.prog) (w := w) (base := base) T D_is_number
  have D_is_side := ok_is_side (P := l.prog) (w := w) (base := base) T
  have D_check_side := ok_check_side (P := l.prog) (w := w) (base := base) T D_is_side
  have D_check_split := ok_check_split (P := l.prog) (w := w) (base := base) T D_check_box D_check_weights D_check_side
  have D_shape_between := ok_shape_between (P := l.prog) (w := w) (base := base) T D_part D_times D_over D_greater
  have D_row_shapes := ok_row_shapes (P := l.prog) (w := w) (base := base) T D_shape_between
  have D_greedy := ok_greedy (P := l.prog) (w := w) (base := base) T D_less D_check_split D_row_shapes
  have D_law_bag := ok_law_bag (P := l.prog) (w := w) (base := base) T
  have D_law_get := ok_law_get (P := l.prog) (w := w) (base := base) T
  have D_law_far := ok_law_far (P := l.prog) (w := w) (base := base) T D_law_get
  have D_law_same := (ok_law_same (P := l.prog) (w := w) (base := base) T) 6
  have D_law_gcd := ok_law_gcd (P := l.prog) (w := w) (base := base) T
  have D_law_part := ok_law_part (P := l.prog) (w := w) (base := base) T D_law_gcd
  have D_law_times := ok_law_times (P := l.prog) (w := w) (base := base) T D_law_part
  have D_law_over := ok_law_over (P := l.prog) (w := w) (base := base) T D_law_part
  have D_law_less := ok_law_less (P := l.prog) (w := w) (base := base) T
  have D_law_most := ok_law_most (P := l.prog) (w := w) (base := base) T D_law_less
  have D_law_number := ok_law_number (P := l.prog) (w := w) (base := base) T D_law_get D_law_far
  have D_law_some_part := ok_law_some_part (P := l.prog) (w := w) (base := base) T D_law_get D_law_part D_law_number
  have D_law_above := ok_law_above (P := l.prog) (w := w) (base := base) T D_law_part D_law_some_part
  have D_law_small_box := ok_law_small_box (P := l.prog) (w := w) (base := base) T D_law_get
  have D_law_box := ok_law_box (P := l.prog) (w := w) (base := base) T D_law_get D_law_some_part D_law_above D_law_small_box
  have D_law_weight := ok_law_weight (P := l.prog) (w := w) (base := base) T D_law_get
  have D_law_weights := ok_law_weights (P := l.prog) (w := w) (base := base) T D_law_get D_law_weight
  have D_law_lean := ok_law_lean (P := l.prog) (w := w) (base := base) T D_law_get
  have D_law_shape := ok_law_shape (P := l.prog) (w := w) (base := base) T D_law_over D_law_less
  have D_law_shapes := ok_law_shapes (P := l.prog) (w := w) (base := base) T D_law_part D_law_times D_law_most D_law_shape
  have D_law_greedy := ok_law_greedy (P := l.prog) (w := w) (base := base) T D_law_less
  exact ok_law T (fun_mk lk c k) D_greedy D_law_bag D_law_same D_law_box D_law_weights D_law_lean D_law_shapes D_law_greedy
end Cc
open PySem PySem.W PyProof.Rows
set_option maxRecDepth 100000 in
set_option maxHeartbeats 0 in
theorem PySem.Challenge.cw_calmcuts_k21_greedy_sizes_holds : PySem.Challenge.rw_calmcuts_k21_greedy_sizes.Holds := by
  w_on; o_law; k_head; (case hw => w_witness2)
  k_fill
  refine L2.walk_of (l := PySem.Challenge.rw_calmcuts_k21_greedy_sizes) (n := 63) (k := 7) (x := "_law_script") (CX := fun _ => L2.CX0) (sp := fun w => Cc.spLaw _) rfl (by decide) rfl ⟨rfl, by decide, by decide⟩ (fun w h Y => PySem.W.kIn_of Y) ?F (fun _ _ a ns hl _ hS => ⟨a, ns, rfl, hS, hl, fun _ => rfl⟩) (fun _ _ _ _ _ h => h)
  case F =>
    intro w mg fa h KX G hmg
    refine' Cc.law_of hmg ?T KX G ?a ?l ?c ?k
    (case a => k_is); (case l => k_is); (case c => k_is); (case k => k_is)
    (case T =>
      refine' ⟨?d_is_number, ?d_is_part, ?d_part, ?d_times, ?d_over, ?d_less, ?d_greater, ?d_is_box, ?d_check_box, ?d_check_weights, ?d_is_side, ?d_check_side, ?d_check_split, ?d_row_shapes, ?d_shape_between, ?d_greedy, ?d_law_bag, ?d_law_get, ?d_law_far, ?d_law_same, ?d_law_gcd, ?d_law_part, ?d_law_times, ?d_law_over, ?d_law_less, ?d_law_most, ?d_law_number, ?d_law_some_part, ?d_law_above, ?d_law_small_box, ?d_law_box, ?d_law_weight, ?d_law_weights, ?d_law_lean, ?d_law_shape, ?d_law_shapes, ?d_law_greedy, PySem.W.mg_none_of KX G ?m_abs, PySem.W.mg_none_of KX G ?m_all, PySem.W.mg_none_of KX G ?m_bool, PySem.W.mg_none_of KX G ?m_dict, PySem.W.mg_none_of KX G ?m_int, PySem.W.mg_none_of KX G ?m_isinstance, PySem.W.mg_none_of KX G ?m_len, PySem.W.mg_none_of KX G ?m_list, PySem.W.mg_none_of KX G ?m_max, PySem.W.mg_none_of KX G ?m_min, PySem.W.mg_none_of KX G ?m_range, PySem.W.mg_none_of KX G ?m_str, PySem.W.mg_none_of KX G ?m_sum, PySem.W.mg_none_of KX G ?m_tuple, PySem.W.mg_none_of KX G ?m_zip, ?m_ACROSS, ?m_DOWN, ?m_MOST_CHILDREN, ?m_MOST_WEIGHT, ?m_NOUGHT, ?m_ONE, PySem.W.mg_of KX G ?m_gcd⟩
      (case d_is_number => refine' Cc.defAt_mk KX G ?a ?l ?c ?k (fun _ _ _ _ _ _ us hl => match us, hl with | [_], _ => rfl); (case a => k_is); (case l => k_is); (case c => k_is); (case k => k_is))
      (case d_is_part => refine' Cc.defAt_mk KX G ?a ?l ?c ?k (fun _ _ _ _ _ _ us hl => match us, hl with | [_], _ => rfl); (case a => k_is); (case l => k_is); (case c => k_is); (case k => k_is))
      (case d_part => refine' Cc.defAt_mk KX G ?a ?l ?c ?k (fun _ _ _ _ _ _ us hl => match us, hl with | [_, _], _ => rfl); (case a => k_is); (case l => k_is); (case c => k_is); (case k => k_is))
      (case d_times => refine' Cc.defAt_mk KX G ?a ?l ?c ?k (fun _ _ _ _ _ _ us hl => match us, hl with | [_, _], _ => rfl); (case a => k_is); (case l => k_is); (case c => k_is); (case k => k_is))
      (case d_over => refine' Cc.defAt_mk KX G ?a ?l ?c ?k (fun _ _ _ _ _ _ us hl => match us, hl with | [_, _], _ => rfl); (case a => k_is); (case l => k_is); (case c => k_is); (case k => k_is))
      (case d_less => refine' Cc.defAt_mk KX G ?a ?l ?c ?k (fun _ _ _ _ _ _ us hl => match us, hl with | [_, _], _ => rfl); (case a => k_is); (case l => k_is); (case c => k_is); (case k => k_is))
      (case d_greater => refine' Cc.defAt_mk KX G ?a ?l ?c ?k (fun _ _ _ _ _ _ us hl => match us, hl with | [_, _], _ => rfl); (case a => k_is); (case l => k_is); (case c => k_is); (case k => k_is))
      (case d_is_box => refine' Cc.defAt_mk KX G ?a ?l ?c ?k (fun _ _ _ _ _ _ us hl => match us, hl with | [_], _ => rfl); (case a => k_is); (case l => k_is); (case c => k_is); (case k => k_is))
      (case d_check_box => refine' Cc.defAt_mk KX G ?a ?l ?c ?k (fun _ _ _ _ _ _ us hl => match us, hl with | [_], _ => rfl); (case a => k_is); (case l => k_is); (case c => k_is); (case k => k_is))
      (case d_check_weights => refine' Cc.defAt_mk KX G ?a ?l ?c ?k (fun _ _ _ _ _ _ us hl => match us, hl with | [_], _ => rfl); (case a => k_is); (case l => k_is); (case c => k_is); (case k => k_is))
      (case d_is_side => refine' Cc.defAt_mk KX G ?a ?l ?c ?k (fun _ _ _ _ _ _ us hl => match us, hl with | [_], _ => rfl); (case a => k_is); (case l => k_is); (case c => k_is); (case k => k_is))
      (case d_check_side => refine' Cc.defAt_mk KX G ?a ?l ?c ?k (fun _ _ _ _ _ _ us hl => match us, hl with | [_], _ => rfl); (case a => k_is); (case l => k_is); (case c => k_is); (case k => k_is))
      (case d_check_split => refine' Cc.defAt_mk KX G ?a ?l ?c ?k (fun _ _ _ _ _ _ us hl => match us, hl with | [_, _, _], _ => rfl); (case a => k_is); (case l => k_is); (case c => k_is); (case k => k_is))
      (case d_row_shapes => refine' Cc.defAt_mk KX G ?a ?l ?c ?k (fun _ _ _ _ _ _ us hl => match us, hl with | [_, _, _], _ => rfl); (case a => k_is); (case l => k_is); (case c => k_is); (case k => k_is))
      (case d_shape_between => refine' Cc.defAt_mk KX G ?a ?l ?c ?k (fun _ _ _ _ _ _ us hl => match us, hl with | [_, _, _, _, _], _ => rfl); (case a => k_is); (case l => k_is); (case c => k_is); (case k => k_is))
      (case d_greedy => refine' Cc.defAtS_mk KX G ?a ?l ?c ?k ?d rfl (fun _ _ _ _ _ _ us ks hl hk => match us, ks, hl, hk with | [_, _], [_], _, _ => ⟨_, _, _, _, _, _, rfl, rfl, rfl⟩) (fun _ _ _ _ _ _ us ws hl hk => match us, ws, hl, hk with | [_, _], [_], _, _ => rfl); (case a => k_is); (case l => k_is); (case c => k_is); (case k => k_is); (case d => k_is))
      (case d_law_bag => refine' Cc.defAt_mk KX G ?a ?l ?c ?k (fun _ _ _ _ _ _ us hl => match us, hl with | [_], _ => rfl); (case a => k_is); (case l => k_is); (case c => k_is); (case k => k_is))
      (case d_law_get => refine' Cc.defAt_mk KX G ?a ?l ?c ?k (fun _ _ _ _ _ _ us hl => match us, hl with | [_, _], _ => rfl); (case a => k_is); (case l => k_is); (case c => k_is); (case k => k_is))
      (case d_law_far => refine' Cc.defAt_mk KX G ?a ?l ?c ?k (fun _ _ _ _ _ _ us hl => match us, hl with | [_, _], _ => rfl); (case a => k_is); (case l => k_is); (case c => k_is); (case k => k_is))
      (case d_law_same => refine' Cc.defAt_mk KX G ?a ?l ?c ?k (fun _ _ _ _ _ _ us hl => match us, hl with | [_, _], _ => rfl); (case a => k_is); (case l => k_is); (case c => k_is); (case k => k_is))
      (case d_law_gcd => refine' Cc.defAt_mk KX G ?a ?l ?c ?k (fun _ _ _ _ _ _ us hl => match us, hl with | [_, _], _ => rfl); (case a => k_is); (case l => k_is); (case c => k_is); (case k => k_is))
      (case d_law_part => refine' Cc.defAt_mk KX G ?a ?l ?c ?k (fun _ _ _ _ _ _ us hl => match us, hl with | [_, _], _ => rfl); (case a => k_is); (case l => k_is); (case c => k_is); (case k => k_is))
      (case d_law_times => refine' Cc.defAt_mk KX G ?a ?l ?c ?k (fun _ _ _ _ _ _ us hl => match us, hl with | [_, _], _ => rfl); (case a => k_is); (case l => k_is); (case c => k_is); (case k => k_is))
      (case d_law_over => refine' Cc.defAt_mk KX G ?a ?l ?c ?k (fun _ _ _ _ _ _ us hl => match us, hl with | [_, _], _ => rfl); (case a => k_is); (case l => k_is); (case c => k_is); (case k => k_is))
      (case d_law_less => refine' Cc.defAt_mk KX G ?a ?l ?c ?k (fun _ _ _ _ _ _ us hl => match us, hl with | [_, _], _ => rfl); (case a => k_is); (case l => k_is); (case c => k_is); (case k => k_is))
      (case d_law_most => refine' Cc.defAt_mk KX G ?a ?l ?c ?k (fun _ _ _ _ _ _ us hl => match us, hl with | [_], _ => rfl); (case a => k_is); (case l => k_is); (case c => k_is); (case k => k_is))
      (case d_law_number => refine' Cc.defAt_mk KX G ?a ?l ?c ?k (fun _ _ _ _ _ _ us hl => match us, hl with | [_], _ => rfl); (case a => k_is); (case l => k_is); (case c => k_is); (case k => k_is))
      (case d_law_some_part => refine' Cc.defAt_mk KX G ?a ?l ?c ?k (fun _ _ _ _ _ _ us hl => match us, hl with | [_], _ => rfl); (case a => k_is); (case l => k_is); (case c => k_is); (case k => k_is))
      (case d_law_above => refine' Cc.defAt_mk KX G ?a ?l ?c ?k (fun _ _ _ _ _ _ us hl => match us, hl with | [_], _ => rfl); (case a => k_is); (case l => k_is); (case c => k_is); (case k => k_is))
      (case d_law_small_box => refine' Cc.defAt_mk KX G ?a ?l ?c ?k (fun _ _ _ _ _ _ us hl => match us, hl with | [_], _ => rfl); (case a => k_is); (case l => k_is); (case c => k_is); (case k => k_is))
      (case d_law_box => refine' Cc.defAt_mk KX G ?a ?l ?c ?k (fun _ _ _ _ _ _ us hl => match us, hl with | [_], _ => rfl); (case a => k_is); (case l => k_is); (case c => k_is); (case k => k_is))
      (case d_law_weight => refine' Cc.defAt_mk KX G ?a ?l ?c ?k (fun _ _ _ _ _ _ us hl => match us, hl with | [_, _], _ => rfl); (case a => k_is); (case l => k_is); (case c => k_is); (case k => k_is))
      (case d_law_weights => refine' Cc.defAt_mk KX G ?a ?l ?c ?k (fun _ _ _ _ _ _ us hl => match us, hl with | [_, _], _ => rfl); (case a => k_is); (case l => k_is); (case c => k_is); (case k => k_is))
      (case d_law_lean => refine' Cc.defAt_mk KX G ?a ?l ?c ?k (fun _ _ _ _ _ _ us hl => match us, hl with | [_], _ => rfl); (case a => k_is); (case l => k_is); (case c => k_is); (case k => k_is))
      (case d_law_shape => refine' Cc.defAt_mk KX G ?a ?l ?c ?k (fun _ _ _ _ _ _ us hl => match us, hl with | [_, _], _ => rfl); (case a => k_is); (case l => k_is); (case c => k_is); (case k => k_is))
      (case d_law_shapes => refine' Cc.defAt_mk KX G ?a ?l ?c ?k (fun _ _ _ _ _ _ us hl => match us, hl with | [_, _, _], _ => rfl); (case a => k_is); (case l => k_is); (case c => k_is); (case k => k_is))
      (case d_law_greedy => refine' Cc.defAt_mk KX G ?a ?l ?c ?k (fun _ _ _ _ _ _ us hl => match us, hl with | [_, _], _ => rfl); (case a => k_is); (case l => k_is); (case c => k_is); (case k => k_is))
      (case m_abs => k_is)
      (case m_all => k_is)
      (case m_bool => k_is)
      (case m_dict => k_is)
      (case m_int => k_is)
      (case m_isinstance => k_is)
      (case m_len => k_is)
      (case m_list => k_is)
      (case m_max => k_is)
      (case m_min => k_is)
      (case m_range => k_is)
      (case m_str => k_is)
      (case m_sum => k_is)
      (case m_tuple => k_is)
      (case m_zip => k_is)
      (case m_ACROSS => refine' Cc.glob_str KX G ?a; (case a => k_is))
      (case m_DOWN => refine' Cc.glob_str KX G ?a; (case a => k_is))
      (case m_MOST_CHILDREN => refine' Cc.glob_int KX G ?a; (case a => k_is))
      (case m_MOST_WEIGHT => refine' Cc.glob_int KX G ?a; (case a => k_is))
      (case m_NOUGHT => refine' Cc.nought_mk KX G ?a ?l; (case a => k_is); (case l => k_is))
      (case m_ONE => refine' Cc.one_mk KX G ?a ?l; (case a => k_is); (case l => k_is))
      (case m_gcd => k_is))
