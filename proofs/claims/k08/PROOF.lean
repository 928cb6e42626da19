import PyProof.Rows.All
import Wide.All
import OpenK.AllK
import Wide.FinOn
import HandS.Base
import HandS.Call
import HandS.List
import HandS.Comp
import HandS.Iter
import HandS.Text
import HandS.Words
import HandS.Codes
import PyProof.NoPylong
import PyProof.Fits
import Flt.Len
import KE.KMathG
import HandS.Gcd
import HandS.IsInst
import HandS.Zip
import HandS.Style
import PySem.Challenge.RW_calmcuts_k08_points_in_boxes
set_option Elab.async false
set_option linter.all false
set_option maxRecDepth 100000
namespace Cc
/-! ### parts as rationals -/
/-- sizes: |num| and den below 2^n -/
def Sz (n : Nat) (q : Rat) : Prop := q.num.natAbs < 2 ^ n ∧ q.den < 2 ^ n
theorem den_pos (q : Rat) : (0 : Int) < (q.den : Int) := by
  have := q.den_nz
  omega
theorem divInt_own (q : Rat) : Rat.divInt q.num q.den = q := by
  rw [Rat.divInt_ofNat]
  exact Rat.mkRat_self q
theorem dv_add (x y : Rat) : Rat.divInt (x.num * y.den + y.num * x.den) (x.den * y.den) = x + y := by
  have h := Rat.divInt_add_divInt x.num y.num (Int.ne_of_gt (den_pos x)) (Int.ne_of_gt (den_pos y))
  rw [divInt_own, divInt_own] at h
  exact h.symm
theorem dv_mul (x y : Rat) : Rat.divInt (x.num * y.num) (x.den * y.den) = x * y := by
  have h := Rat.divInt_mul_divInt x.num y.num (d₁ := x.den) (d₂ := y.den)
  rw [divInt_own, divInt_own] at h
  exact h.symm
theorem dv_sub (x y : Rat) : Rat.divInt (x.num * y.den - y.num * x.den) (x.den * y.den) = x - y := by
  have h := Rat.divInt_add_divInt x.num (-y.num) (Int.ne_of_gt (den_pos x)) (Int.ne_of_gt (den_pos y))
  rw [divInt_own, ← Rat.neg_divInt, divInt_own] at h
  rw [Rat.sub_eq_add_neg, h, Int.neg_mul, Int.sub_eq_add_neg]
theorem dv_div (x y : Rat) : Rat.divInt (x.num * y.den) (x.den * y.num) = x / y := by
  rw [Rat.div_def]
  have h := Rat.divInt_mul_divInt x.num y.den (d₁ := x.den) (d₂ := y.num)
  rw [divInt_own] at h
  rw [← h]
  congr 1
  rw [← Rat.inv_divInt, divInt_own]
theorem num_zero_iff (q : Rat) : q.num = 0 ↔ q = 0 := by
  constructor
  · intro h
    have := divInt_own q
    rw [h, Rat.zero_divInt] at this
    exact this.symm
  · rintro rfl
    rfl
theorem rat_ext {x y : Rat} (h1 : x.num = y.num) (h2 : x.den = y.den) : x = y := by
  rw [← divInt_own x, ← divInt_own y, h1, h2]
/-- x is a/c in lowest terms: what part(a, c) computes -/
theorem divInt_num_eq {a c : Int} (h : 0 < c) : (Rat.divInt a c).num = a / ((Int.gcd a c : Nat) : Int) ∧ ((Rat.divInt a c).den : Int) = c / ((Int.gcd a c : Nat) : Int) := by
  have hc : c = ((c.toNat : Nat) : Int) := by omega
  have h0 : c.toNat ≠ 0 := by omega
  rw [hc, Rat.divInt_ofNat]
  have e1 := Rat.num_mkRat a c.toNat
  have e2 := Rat.den_mkRat a c.toNat
  rw [if_neg h0] at e1 e2
  have eg : Int.gcd a ((c.toNat : Nat) : Int) = c.toNat.gcd a.natAbs := by
    rw [Int.gcd_eq_natAbs_gcd_natAbs, Int.natAbs_natCast, Nat.gcd_comm]
  rw [e1, e2, eg]
  exact ⟨rfl, by rw [Int.natCast_ediv]⟩
theorem divInt_num_neg {a c : Int} (h : c < 0) : (Rat.divInt a c).num = a.fdiv (-((Int.gcd a c : Nat) : Int)) ∧ ((Rat.divInt a c).den : Int) = c.fdiv (-((Int.gcd a c : Nat) : Int)) := by
  have g := divInt_num_eq (a := -a) (c := -c) (by omega)
  rw [Rat.neg_divInt_neg, Int.neg_gcd, Int.gcd_neg] at g
  have nf : ∀ x : Int, x.fdiv (-((Int.gcd a c : Nat) : Int)) = (-x) / ((Int.gcd a c : Nat) : Int) := fun x => by
    have h1 := Int.neg_fdiv_neg (-x) ((Int.gcd a c : Nat) : Int)
    rw [Int.neg_neg] at h1
    rw [h1, Int.fdiv_eq_ediv_of_nonneg _ (Int.natCast_nonneg _)]
  rw [nf, nf]
  exact g
theorem size_divInt {a c : Int} {n : Nat} (h : c ≠ 0) (ha : a.natAbs < 2 ^ n) (hc : c.natAbs < 2 ^ n) : Sz n (Rat.divInt a c) := by
  have key : ∀ {a c : Int}, 0 < c → a.natAbs < 2 ^ n → c.natAbs < 2 ^ n → Sz n (Rat.divInt a c) := by
    intro a c h ha hc
    obtain ⟨e1, e2⟩ := divInt_num_eq (a := a) h
    constructor
    · rw [e1]
      have hd : ((Int.gcd a c : Nat) : Int) ∣ a := Int.gcd_dvd_left ..
      rw [Int.natAbs_ediv_of_dvd hd, Int.natAbs_natCast]
      exact Nat.lt_of_le_of_lt (Nat.div_le_self _ _) ha
    · have e3 : (Rat.divInt a c).den = c.natAbs / Int.gcd a c := by
        have hd : ((Int.gcd a c : Nat) : Int) ∣ c := Int.gcd_dvd_right ..
        have e4 := congrArg Int.natAbs e2
        rw [Int.natAbs_natCast, Int.natAbs_ediv_of_dvd hd, Int.natAbs_natCast] at e4
        exact e4
      rw [e3]
      exact Nat.lt_of_le_of_lt (Nat.div_le_self _ _) hc
  rcases Int.lt_trichotomy c 0 with h1 | h1 | h1
  · rw [← Rat.neg_divInt_neg]
    exact key (by omega) (by omega) (by omega)
  · exact absurd h1 h
  · exact key h1 ha hc
theorem natAbs_add_lt {a b : Int} {m n : Nat} (ha : a.natAbs < 2 ^ m) (hb : b.natAbs < 2 ^ n) : (a + b).natAbs < 2 ^ (max m n + 1) := by
  have h1 : 2 ^ m ≤ 2 ^ max m n := Nat.pow_le_pow_right (by decide) (Nat.le_max_left ..)
  have h2 : 2 ^ n ≤ 2 ^ max m n := Nat.pow_le_pow_right (by decide) (Nat.le_max_right ..)
  rw [Nat.pow_succ]
  omega
theorem natAbs_sub_lt {a b : Int} {m n : Nat} (ha : a.natAbs < 2 ^ m) (hb : b.natAbs < 2 ^ n) : (a - b).natAbs < 2 ^ (max m n + 1) := by
  rw [Int.sub_eq_add_neg]
  exact natAbs_add_lt ha (by rw [Int.natAbs_neg]; exact hb)
theorem natAbs_mul_lt {a b : Int} {m n : Nat} (ha : a.natAbs < 2 ^ m) (hb : b.natAbs < 2 ^ n) : (a * b).natAbs < 2 ^ (m + n) := by
  rw [Int.natAbs_mul, Nat.pow_add]
  exact Nat.mul_lt_mul'' ha hb
theorem pow_mono_lt {a m n : Nat} (h : a < 2 ^ m) (hm : m ≤ n) : a < 2 ^ n := Nat.lt_of_lt_of_le h (Nat.pow_le_pow_right (by decide) hm)
theorem Sz.mono {m n : Nat} {q : Rat} (h : Sz m q) (hm : m ≤ n) : Sz n q := ⟨pow_mono_lt h.1 hm, pow_mono_lt h.2 hm⟩
theorem Sz.pos {n : Nat} {q : Rat} (h : Sz n q) : 0 < n := by
  have h1 := h.2
  have h2 := q.den_nz
  rcases Nat.eq_zero_or_pos n with h3 | h3
  · subst h3
    omega
  · exact h3
theorem sz_add {m n k : Nat} {x y : Rat} (hx : Sz m x) (hy : Sz n y) (h : m + n + 1 ≤ k) : Sz k (x + y) := by
  refine Sz.mono (m := m + n + 1) ?_ h
  rw [← dv_add]
  refine size_divInt ?_ ?_ ?_
  · have h1 := den_pos x
    have h2 := den_pos y
    exact Int.ne_of_gt (Int.mul_pos h1 h2)
  · have h1 := natAbs_add_lt (natAbs_mul_lt hx.1 (b := (y.den : Int)) (n := n) (by rw [Int.natAbs_natCast]; exact hy.2)) (natAbs_mul_lt hy.1 (b := (x.den : Int)) (n := m) (by rw [Int.natAbs_natCast]; exact hx.2))
    exact pow_mono_lt h1 (by omega)
  · exact pow_mono_lt (natAbs_mul_lt (a := (x.den : Int)) (b := (y.den : Int)) (m := m) (n := n) (by rw [Int.natAbs_natCast]; exact hx.2) (by rw [Int.natAbs_natCast]; exact hy.2)) (by omega)
theorem sz_neg {m : Nat} {x : Rat} (hx : Sz m x) : Sz m (-x) := by
  constructor
  · rw [Rat.neg_num, Int.natAbs_neg]
    exact hx.1
  · rw [Rat.neg_den]
    exact hx.2
theorem sz_sub {m n k : Nat} {x y : Rat} (hx : Sz m x) (hy : Sz n y) (h : m + n + 1 ≤ k) : Sz k (x - y) := by
  rw [Rat.sub_eq_add_neg]
  exact sz_add hx (sz_neg hy) h
theorem sz_mul {m n k : Nat} {x y : Rat} (hx : Sz m x) (hy : Sz n y) (h : m + n ≤ k) : Sz k (x * y) := by
  refine Sz.mono (m := m + n) ?_ h
  rw [← dv_mul]
  refine size_divInt ?_ ?_ ?_
  · exact Int.ne_of_gt (Int.mul_pos (den_pos x) (den_pos y))
  · exact natAbs_mul_lt hx.1 hy.1
  · exact natAbs_mul_lt (a := (x.den : Int)) (b := (y.den : Int)) (m := m) (n := n) (by rw [Int.natAbs_natCast]; exact hx.2) (by rw [Int.natAbs_natCast]; exact hy.2)
theorem sz_div {m n k : Nat} {x y : Rat} (hx : Sz m x) (hy : Sz n y) (h0 : y ≠ 0) (h : m + n ≤ k) : Sz k (x / y) := by
  refine Sz.mono (m := m + n) ?_ h
  rw [← dv_div]
  refine size_divInt ?_ ?_ ?_
  · have h1 : y.num ≠ 0 := fun z => h0 ((num_zero_iff y).mp z)
    exact Int.mul_ne_zero (Int.ne_of_gt (den_pos x)) h1
  · exact natAbs_mul_lt (b := (y.den : Int)) hx.1 (by rw [Int.natAbs_natCast]; exact hy.2)
  · exact natAbs_mul_lt (a := (x.den : Int)) (by rw [Int.natAbs_natCast]; exact hx.2) hy.1
theorem dv_cancel (x : Rat) {d : Int} (h : d ≠ 0) : Rat.divInt (x.num * d) (d * x.den) = x := by
  have e := Rat.divInt_mul_divInt x.num d (d₁ := x.den) (d₂ := d)
  rw [divInt_own, Rat.divInt_self' h, Rat.mul_one] at e
  rw [Int.mul_comm d, ← e]
theorem far_size {r e : Int} {k : Nat} (h0 : 0 ≤ r) (h1 : r < 1000 ^ k) (hk : k ≤ 20) (he : e = 0 ∨ e = 1) : ((r + 1) * (1 - 2 * e)).natAbs < 2 ^ 200 := by
  have h2 : (1000 : Int) ^ k ≤ 1000 ^ 20 := by
    have h := Nat.pow_le_pow_right (n := 1000) (by decide) hk
    have e : ∀ n : Nat, (1000 : Int) ^ n = ((1000 ^ n : Nat) : Int) := fun n => (Int.natCast_pow 1000 n).symm
    rw [e, e]
    exact Int.ofNat_le.mpr h
  have h3 : (1000 : Int) ^ 20 < 2 ^ 200 := by decide
  have h4 : (2 : Int) ^ 200 = ((2 ^ 200 : Nat) : Int) := by decide
  have h5 : r + 1 < ((2 ^ 200 : Nat) : Int) := by omega
  generalize (2 ^ 200 : Nat) = N at *
  rcases he with rfl | rfl
  · rw [show (1 - 2 * 0 : Int) = 1 by decide, Int.mul_one]
    omega
  · rw [show (1 - 2 * 1 : Int) = -1 by decide, Int.mul_neg, Int.mul_one]
    omega
theorem gcd_step (x y : Int) : Int.gcd y (x % y) = Int.gcd x y := by
  have h := Int.gcd_add_mul_left_right y (x % y) (x / y)
  rw [Int.emod_add_mul_ediv] at h
  rw [← h, Int.gcd_comm]
end Cc
namespace Cc
open PySem PySem.Spec PyProof.Rows L2
/-! ### operators of ints of any size -/
/-- // by a divisor of any sign, below 2 ^ 9000 -/
def CDivA (_ j : Int) : Prop := j ≠ 0 ∧ j.natAbs < 2 ^ 9000
/-- * : one factor small, or both together below a million bits -/
def CMulA (i j : Int) : Prop := CMul i j ∨ ∃ a b : Nat, i.natAbs < 2 ^ a ∧ j.natAbs < 2 ^ b ∧ a + b ≤ 900000
theorem CMulA.ok {i j : Int} (h : CMulA i j) : IntMulOk i j := by
  rcases h with h | ⟨a, b, ha, hb, hab⟩
  · exact h.ok
  · have ha' := pow_mono_lt ha (Nat.le_succ a)
    have hb' := pow_mono_lt hb (Nat.le_succ b)
    have x := PySem.Flt.log2_lt_of (Nat.succ_pos a) ha'
    have y := PySem.Flt.log2_lt_of (Nat.succ_pos b) hb'
    have bb : ∀ x : Int, Builtin.Int.intBits x ≤ x.natAbs.log2 + 1 := fun x => by
      unfold Builtin.Int.intBits
      split <;> omega
    have h1 := bb i
    have h2 := bb j
    have e : bitsLine = 134217728 := by decide
    unfold IntMulOk
    intro z
    rw [Bool.and_eq_true] at z
    have z2 := z.2
    unfold Builtin.Int.intTooBig at z2
    have z3 := of_decide_eq_true z2
    rw [e] at z3
    omega
section
variable {X : Cx}
theorem op_fdivA : OpR X (binaryOp .FloorDiv) (rI CDivA fun i j => .int (i.fdiv j)) := opI fun i j _ _ _ _ _ hc q =>
  floordiv_int hc.1 q (.inl (PyProof.noPylong_of_log2 (PySem.Flt.log2_lt_of (by decide) hc.2)))
theorem op_mulA : OpR X (binaryOp .Mult) (rI CMulA fun i j => .int (i * j)) := opI fun _ _ _ _ _ _ _ hc q => mul_int q hc.ok
end
theorem cmul_l {i j : Int} (h : -(2 ^ 64) < i ∧ i < 2 ^ 64) : CMulA i j := .inl (.inl h)
theorem cmul_r {i j : Int} (h : -(2 ^ 64) < j ∧ j < 2 ^ 64) : CMulA i j := .inl (.inr h)
theorem cmul_w {i j : Int} {a b : Nat} (ha : i.natAbs < 2 ^ a) (hb : j.natAbs < 2 ^ b) (h : a + b ≤ 900000) : CMulA i j := .inr ⟨a, b, ha, hb, h⟩
/-! ### a def of the program, by its name -/
/-- the def of that name keeps the promise -/
def DefOk (P : Program) (w : World) (K : PySem.W.Frag) (mg : Str → Option Value) (base : Heap) (k : Nat) (x : Str) (ps : List Str) (sp : Sp) : Prop :=
  ∃ f fd, FnOk P w K mg base CX0 k f fd ps sp ∧ mg x = some (.ref f) ∧ PySem.W.keepIn K (.ref f) = true ∧ Binds K fd ps []
/-- the def as the top has left it -/
def DefAt (K : PySem.W.Frag) (mg : Str → Option Value) (x : Str) (st : Stmt) (ps : List Str) : Prop :=
  ∃ f fd, Fun K x x st f fd ∧ mg x = some (.ref f) ∧ Binds K fd ps []
theorem defAt_mk {K : PySem.W.Frag} {mg : Str → Option Value} {h : Heap} {x : Str} {st : Stmt} {ps : List Str} (X : K.In h) (G : h.Ns mainGlobals mg) {f : Addr} {oc : Value} {od an : Option Addr} {osl : Array (Option Value)} {kV doc pm cdv ct : Value}
    (a : PySem.W.nsIn K mainGlobals x = some (some (.ref f))) (l : K.lookup f = some ⟨oc, od, .func (PySem.W.fnOf x x (defArgs st) (defBody st) (defScope st) .none kV doc pm an cdv ct), osl⟩) (c : PySem.W.codeIn K cdv x = true) (k : PySem.W.keepIn K (.ref f) = true)
    (hb : ∀ (kV doc pm : Value) (an : Option Addr) (cdv ct : Value) (us : List Value), us.length = ps.length → bindArgs (PySem.W.fnOf x x (defArgs st) (defBody st) (defScope st) .none kV doc pm an cdv ct) ⟨us, []⟩ = pure (ps.zip us)) : DefAt K mg x st ps :=
  ⟨f, _, fun_mk l c k, PySem.W.mg_of X G a, (fun_mk l c k).binds hb⟩
section
variable {X : Cx} {k j : Nat} {x : Str} {ps : List Str} {sp : Sp} {p pos : Pos} {e : Expr} {es : List Expr} {t : TA}
theorem pe_callD (D : DefOk X.prog X.w X.K X.mg X.base k x ps sp) (hr : Room j X.A) (hkj : k ≤ j) (hg : Gl X x) (ha : PA X (e :: es) t) (hdb : (x == ("__debug__" : Str)) = false := by decide)
    (he : starEach (e :: es) X.env = (false, eval e X.env) :: starEach es X.env := by rfl) (hpl : (backTo pos (starEach es X.env)).any (·.1) = false := by rfl) :
    PE X (.Call (.Name x p) (e :: es) [] pos) (tCall sp [] E0 t) := by
  obtain ⟨f, fd, F, hm, hk, hb⟩ := D
  exact pe_call F (hr.mono hkj) hg hm hk hb .nil pass0 ha hdb he hpl
end
theorem DefAt.ok {P : Program} {w : World} {K : PySem.W.Frag} {mg : Str → Option Value} {base : Heap} {x : Str} {st : Stmt} {N ps : List Str} {k : Nat} {sp : Sp} (F : DefAt K mg x st ps) (S : FnScope N ps (defScope st)) (len : ∀ vs H Q E, sp vs H Q E → vs.length = ps.length)
    (hbody : ∀ (f : Addr) (cdv : Value) (A : Around) (outer : List Env) (s : Shared) (H : Hp) (vs : List V) (Q : VK) (E : XK), Room k (A.deeper (envOfC x (defScope st) s.heap.objs.size f cdv)) → sp vs H Q E →
      ∃ t, PSs (cxOf CX0 P w K mg base N x (defScope st) f cdv A outer s H E).nox (defBody st) t ∧ t { nx := fun _ H' => Q .non H', rt := Q } (start N vs) H) : DefOk P w K mg base (k + 1) x ps sp := by
  obtain ⟨f, fd, F, hm, hb⟩ := F
  exact ⟨f, fd, F.ok S len (hbody f), hm, F.kp, hb⟩
/-! ### tests -/
theorem iteB {c : Bool} {A B : Prop} (h1 : c = true → A) (h2 : c = false → B) : if c = true then A else B := by
  cases c with
  | true => exact iteT (h1 rfl)
  | false => exact iteF (h2 rfl)
theorem iteD {c A B : Prop} {i : Decidable c} (h1 : c → A) (h2 : ¬ c → B) : if (@decide c i) = true then A else B := by
  by_cases h : c
  · rw [if_pos (decide_eq_true h)]
    exact h1 h
  · rw [if_neg (by rw [decide_eq_false h]; exact Bool.false_ne_true)]
    exact h2 h
theorem iteDT {c A B : Prop} {i : Decidable c} (h : c) (h1 : A) : if (@decide c i) = true then A else B := iteD (fun _ => h1) (fun z => absurd h z)
theorem iteDF {c A B : Prop} {i : Decidable c} (h : ¬ c) (h1 : B) : if (@decide c i) = true then A else B := iteD (fun z => absurd z h) (fun _ => h1)
/-! ### heaps -/
theorem same_new {H : Hp} {p : Addr} {o : HO} (h : H p = none) : Same H (upd H p o) := fun b x e => by
  rw [upd_ne (ne_of_none e h)]
  exact e
/-- all but what stands at b is as it was -/
def Kp (b : Addr) (H H' : Hp) : Prop := ∀ a o, H a = some o → a ≠ b → H' a = some o
theorem Kp.refl (b : Addr) (H : Hp) : Kp b H H := fun _ _ h _ => h
theorem Kp.trans {b : Addr} {H H1 H2 : Hp} (x : Kp b H H1) (y : Kp b H1 H2) : Kp b H H2 := fun a o h n => y a o (x a o h n) n
theorem Kp.of {b : Addr} {H H' : Hp} (h : Same H H') : Kp b H H' := fun a o e _ => h a o e
theorem Kp.upd {b : Addr} {H : Hp} {o : HO} : Kp b H (upd H b o) := fun a u e n => by
  rw [upd_ne n]
  exact e
/-- xs[k] = v, the heap behind it a letter -/
theorem setL_step {H : Hp} {p : Addr} {xs ys : List V} {k : Int} {j : Nat} {v : V} {Q : Hp → Prop} (hp : H p = some (.lst xs)) (hj : ixN xs.length k = some j) (hy : xs.set j v = ys) (h : ∀ H1, H1 p = some (.lst ys) → Kp p H H1 → Q H1) :
    rSetL (.ref p) (.int k) v H Q := ⟨p, xs, k, j, rfl, rfl, hp, hj, h _ (by rw [hy]; exact upd_same) Kp.upd⟩
/-! ### parts as they stand -/
section
variable {K : PySem.W.Frag} {H H' : Hp}
def PtV (K : PySem.W.Frag) (H : Hp) (v : V) (q : Rat) : Prop := ∃ a, v = .ref a ∧ SqT K H a [.int q.num, .int (q.den : Int)]
theorem seqT_same {a : Addr} {xs : List V} (e : Same H H') (h : SqT K H a xs) : SqT K H' a xs := by
  rcases h with (h | ⟨o, h⟩) | h
  · exact .inl (.inl (e _ _ h))
  · exact .inl (.inr ⟨o, e _ _ h⟩)
  · exact .inr h
theorem seqT_kp {b a : Addr} {xs ys : List V} (e : Kp b H H') (hb : H b = some (.lst ys)) (h : SqT K H a xs) : SqT K H' a xs := by
  rcases h with (h | ⟨o, h⟩) | h
  · exact .inl (.inl (e _ _ h (ne_of h hb (by intro z; cases z))))
  · exact .inl (.inr ⟨o, e _ _ h (ne_of h hb (by intro z; cases z))⟩)
  · exact .inr h
theorem PtV.same {v : V} {q : Rat} (h : PtV K H v q) (e : Same H H') : PtV K H' v q := by
  obtain ⟨a, rfl, h⟩ := h
  exact ⟨a, rfl, seqT_same e h⟩
theorem PtV.kp {b : Addr} {ys : List V} {v : V} {q : Rat} (h : PtV K H v q) (e : Kp b H H') (hb : H b = some (.lst ys)) : PtV K H' v q := by
  obtain ⟨a, rfl, h⟩ := h
  exact ⟨a, rfl, seqT_kp e hb h⟩
theorem PtV.new {p : Addr} {q : Rat} {a c : Int} (h1 : q.num = a) (h2 : (q.den : Int) = c) : PtV K (upd H p (.tup [.int a, .int c])) (.ref p) q := by
  refine ⟨p, rfl, SqT.of ?_⟩
  rw [upd_same, h1, h2]
def dPart (q : Rat) : PyData := .tuple [.int q.num, .int (q.den : Int)]
theorem PtV.dp {v : V} {q : Rat} (h : PtV K H v q) : Dp K H v (dPart q) := by
  obtain ⟨a, rfl, h⟩ := h
  exact .tup h (.cons (.int _) (.cons (.int _) .nil))
theorem dPart_shaped (q : Rat) : SeqAt.shaped (dPart q) = true := by
  rfl
theorem eqv_part (x y : Rat) : PyData.eqv (dPart x) (dPart y) = decide (x = y) := by
  show (x.num == y.num && ((x.den : Int) == (y.den : Int) && true)) = decide (x = y)
  by_cases h : x = y
  · subst h
    simp
  · rw [decide_eq_false h]
    by_cases h1 : x.num = y.num
    · have h2 : ¬ (x.den : Int) = (y.den : Int) := fun z => h (rat_ext h1 (by omega))
      simp [h2]
    · simp [h1]
end
/-! ### the bag of the law -/
/-- at b: the bag; the cells of the script, the place, the rest, the mixed number, the count -/
def Bag (H : Hp) (b : Addr) : Prop := ∃ (c : Addr) (ns : List Int) (p r x q : Int), H b = some (.lst [.ref c, .int p, .int r, .int x, .int q]) ∧ H c = some (.lst (ns.map V.int)) ∧ c ≠ b ∧ ns.length ≤ 63 ∧ 0 ≤ p ∧ 0 ≤ x ∧ x < 2147483629
theorem Bag.lst {H : Hp} {b : Addr} (h : Bag H b) : ∃ ys, H b = some (.lst ys) := by
  obtain ⟨c, ns, p, r, x, q, h, _⟩ := h
  exact ⟨_, h⟩
theorem Bag.same {H H' : Hp} {b : Addr} (h : Bag H b) (e : Same H H') : Bag H' b := by
  obtain ⟨c, ns, p, r, x, q, h1, h2, h3⟩ := h
  exact ⟨c, ns, p, r, x, q, e _ _ h1, e _ _ h2, h3⟩
theorem PtV.bag {K : PySem.W.Frag} {H H' : Hp} {b : Addr} {v : V} {q : Rat} (h : PtV K H v q) (e : Kp b H H') (hb : Bag H b) : PtV K H' v q := by
  obtain ⟨ys, hb⟩ := hb.lst
  exact h.kp e hb
theorem cut63 {xs : List V} (h : xs.length ≤ 63) : cutV xs none (some 63) = xs := by
  unfold cutV
  rw [HT.sIx_none, show HT.sIx xs.length xs.length (some 63) = min 63 xs.length from HT.sIx_nat xs.length xs.length 63, List.drop_zero, Nat.sub_zero]
  exact List.take_of_length_le (by omega)
/-! ### the promises of the law's helpers -/
def spBag (K : PySem.W.Frag) : Sp := fun vs H Q _ => ∃ (a : Addr) (ns : List Int), vs = [.ref a] ∧ SqL K H a (ns.map V.int) ∧ ns.length ≤ 63 ∧ ∀ b H', H b = none → Same H H' → Bag H' b → Q (.ref b) H'
def spGet : Sp := fun vs H Q _ => ∃ (b : Addr) (m : Int), vs = [.ref b, .int m] ∧ Bag H b ∧ 0 < m ∧ m < 1073741824 ∧ ∀ r H', 0 ≤ r → r < m → Bag H' b → Kp b H H' → Q (.int r) H'
def spFar : Sp := fun vs H Q _ => ∃ (b : Addr) (k : Nat), vs = [.ref b, .int k] ∧ Bag H b ∧ k ≤ 300 ∧ ∀ (r : Int) H', 0 ≤ r → r < 1000 ^ k → Bag H' b → Kp b H H' → Q (.int r) H'
def spGcd : Sp := fun vs H Q _ => ∃ a c : Int, vs = [.int a, .int c] ∧ 0 ≤ a ∧ 0 ≤ c ∧ Q (.int (Int.gcd a c : Nat)) H
def spPart (K : PySem.W.Frag) : Sp := fun vs H Q _ => ∃ a c : Int, vs = [.int a, .int c] ∧ c ≠ 0 ∧ a.natAbs < 2 ^ 8000 ∧ c.natAbs < 2 ^ 8000 ∧ ∀ v H', Same H H' → PtV K H' v (Rat.divInt a c) → Q v H'
def spNumber : Sp := fun vs H Q _ => ∃ b : Addr, vs = [.ref b] ∧ Bag H b ∧ ∀ (r : Int) H', r.natAbs < 2 ^ 200 → Bag H' b → Kp b H H' → Q (.int r) H'
def spSomePart (K : PySem.W.Frag) : Sp := fun vs H Q _ => ∃ b : Addr, vs = [.ref b] ∧ Bag H b ∧ ∀ v q H', PtV K H' v q → Sz 201 q → Bag H' b → Kp b H H' → Q v H'
/-- two parts in, f of them out -/
@[irreducible] def spTwo (K : PySem.W.Frag) (C : Rat → Rat → Prop) (f : Rat → Rat → Rat) : Sp := fun vs H Q _ => ∃ (v w : V) (x y : Rat), vs = [v, w] ∧ PtV K H v x ∧ PtV K H w y ∧ Sz 3900 x ∧ Sz 3900 y ∧ C x y ∧ ∀ u H', Same H H' → PtV K H' u (f x y) → Q u H'
@[irreducible] def spLess (K : PySem.W.Frag) : Sp := fun vs H Q _ => ∃ (v w : V) (x y : Rat), vs = [v, w] ∧ PtV K H v x ∧ PtV K H w y ∧ Sz 3900 x ∧ Sz 3900 y ∧ ∀ r, r = V.bl (decide (x < y)) → Q r H
end Cc
namespace Cc
open PySem PySem.Spec PyProof.Rows L2
/-! ### steps of a reading -/
section
variable {K : PySem.W.Frag} {H : Hp} {v w : V} {x y : Rat} {Q : VK}
theorem two_step {C : Rat → Rat → Prop} {g : Rat → Rat → Rat} {m n : Nat} {vs : List V} {E : XK} (hv : PtV K H v x) (hw : PtV K H w y) (sx : Sz m x) (sy : Sz n y) (hm : m ≤ 3900) (hn : n ≤ 3900) (hc : C x y) (h : ∀ u H', Same H H' → PtV K H' u (g x y) → Q u H') (hvs : vs = [v, w] := by rfl) : spTwo K C g vs H Q E := by
  unfold spTwo
  exact ⟨v, w, x, y, hvs, hv, hw, sx.mono hm, sy.mono hn, hc, h⟩
theorem less_step {m n : Nat} {vs : List V} {E : XK} (hv : PtV K H v x) (hw : PtV K H w y) (sx : Sz m x) (sy : Sz n y) (hm : m ≤ 3900) (hn : n ≤ 3900) (h : Q (.bl (decide (x < y))) H) (hvs : vs = [v, w] := by rfl) : spLess K vs H Q E := by
  unfold spLess
  exact ⟨v, w, x, y, hvs, hv, hw, sx.mono hm, sy.mono hn, fun _ e => e ▸ h⟩
theorem neD_step (hv : PtV K H v x) (hw : PtV K H w y) (h : Q (.bl (!decide (x = y))) H) : rNeD K v w H Q :=
  ⟨_, _, hv.dp, hw.dp, dPart_shaped _, dPart_shaped _, by rw [eqv_part]; exact h⟩
theorem eqD_step (hv : PtV K H v x) (hw : PtV K H w y) (h : Q (.bl (decide (x = y))) H) : rEqD K v w H Q :=
  ⟨_, _, hv.dp, hw.dp, dPart_shaped _, dPart_shaped _, by rw [eqv_part]; exact h⟩
end
section
variable {X : Cx}
def rCntB (K : PySem.W.Frag) : V → List V → Hp → VK → Prop := fun x xs H Q => ∃ (p : Addr) (bs : List Bool) (k : Bool), x = .ref p ∧ xs = [.bl k] ∧ SqL K H p (bs.map V.bl) ∧ Q (.int (bs.count k : Nat)) H
theorem reads_bools (hp : Heap) : ∀ bs : List Bool, ∃ as, ReadsAll hp (bs.map Value.bool) (bs.map PyData.bool) as
  | [] => ⟨_, ReadsAll.nil⟩
  | b :: r => by
    obtain ⟨as, h⟩ := reads_bools hp r
    exact ⟨_, ReadsAll.cons (Reads.bool b) h⟩
theorem countIn_bools (k : Bool) : ∀ bs : List Bool, countIn (.bool k) (bs.map PyData.bool) = (bs.count k : Nat)
  | [] => rfl
  | b :: r => by
    have ih := countIn_bools k r
    rw [List.map_cons, countIn, ih, List.count_cons]
    cases b <;> cases k <;> simp [same] <;> omega
theorem mt_lcountB : MtR X "list.count" (rCntB X.K) := by
  intro pins s σ H x xs v us Q I rx rxs h
  obtain ⟨p, bs, k, rfl, rfl, hs, q⟩ := h
  cases rx
  obtain ⟨u, rfl, ru⟩ := rxs.one
  cases ru
  obtain ⟨its, rv, hl, hlen⟩ := I.list hs
  have hb := rv.bls
  obtain ⟨as, ra⟩ := reads_bools s.heap bs
  refine count_list_bools (xs := bs.map PyData.bool) hl.isList (by rw [hb]; exact ra) ?_ ?_
  · rw [List.all_map]
    exact List.all_eq_true.mpr fun b _ => by cases b <;> rfl
  · rw [countIn_bools]
    exact ⟨.int _, H, I.tok _, ⟨_, rfl⟩, q⟩
end
theorem sz_abs {n : Nat} {x : Rat} (h : Sz n x) : x.num.natAbs < 2 ^ n ∧ ((x.den : Nat) : Int).natAbs < 2 ^ n := ⟨h.1, by rw [Int.natAbs_natCast]; exact h.2⟩
def spLaw (K : PySem.W.Frag) : Sp := fun vs H Q _ => ∃ (a : Addr) (ns : List Int), vs = [.ref a] ∧ SqL K H a (ns.map V.int) ∧ ns.length ≤ 63 ∧ ∀ H', Q (.bl true) H'
end Cc
namespace Cc
open PySem PySem.Spec PyProof.Rows L2
/-! ### data that stand still -/
section
variable {K : PySem.W.Frag} {H H' : Hp}
theorem seqL_same {a : Addr} {xs : List V} (e : Same H H') (h : SqL K H a xs) : SqL K H' a xs := e.seq h
mutual
theorem Dp.mono (e : Same H H') : ∀ (d : PyData) (v : V), Dp K H v d → Dp K H' v d
  | .none, _, h => by cases h; exact .non
  | .bool b, _, h => by cases h; exact .bl b
  | .int i, _, h => by cases h; exact .int i
  | .str x, _, h => by cases h; exact .str x
  | .list ds, _, h => by
    cases h with
    | lst hs ha => exact .lst (seqL_same e hs) (Dp.monoAll e ds _ ha)
  | .tuple ds, _, h => by
    cases h with
    | tup hs ha => exact .tup (seqT_same e hs) (Dp.monoAll e ds _ ha)
  | .dict _, _, h => by cases h
theorem Dp.monoAll (e : Same H H') : ∀ (ds : List PyData) (vs : List V), DpAll K H vs ds → DpAll K H' vs ds
  | [], _, h => by cases h; exact .nil
  | d :: ds, _, h => by
    cases h with
    | cons h1 h2 => exact .cons (Dp.mono e d _ h1) (Dp.monoAll e ds _ h2)
end
theorem dpAll_len : ∀ {vs : List V} {ds : List PyData}, DpAll K H vs ds → vs.length = ds.length
  | _, _, .nil => rfl
  | _, _, .cons _ h => by rw [List.length_cons, List.length_cons, dpAll_len h]
theorem dpAll_get : ∀ {vs : List V} {ds : List PyData} (h : DpAll K H vs ds) {i : Nat} {v : V}, vs[i]? = some v → ∃ d, ds[i]? = some d ∧ Dp K H v d
  | _, _, .nil, i, v, e => by simp at e
  | _, _, .cons (d := d) h1 h2, 0, v, e => by
    cases e
    exact ⟨d, rfl, h1⟩
  | _, _, .cons h1 h2, i + 1, v, e => by
    rw [List.getElem?_cons_succ] at e
    obtain ⟨d, hd, h⟩ := dpAll_get h2 e
    exact ⟨d, by rw [List.getElem?_cons_succ]; exact hd, h⟩
/-! ### types of data -/
def tyN : PyData → String
  | .none => "NoneType"
  | .bool _ => "bool"
  | .int _ => "int"
  | .str _ => "str"
  | .list _ => "list"
  | .tuple _ => "tuple"
  | .dict _ => "dict"
theorem tyx_tup {a : Addr} {xs : List V} (h : SqT K H a xs) : TyX K H (.ref a) (.type "tuple") := by
  rcases h with (h | ⟨o, h⟩) | ⟨o, its, n, h1, h2, _⟩
  · exact .base (.tup h)
  · exact .fTuple h
  · exact .kTuple h1 h2
theorem tyx_lst {a : Addr} {xs : List V} (h : SqL K H a xs) : TyX K H (.ref a) (.type "list") := by
  rcases h with (h | ⟨o, h⟩) | ⟨o, its, n, h1, h2, _⟩
  · exact .base (.lst h)
  · exact .base (.frz h)
  · exact .kList h1 h2
theorem tyx_of {v : V} : ∀ {d : PyData}, Dp K H v d → TyX K H v (.type (tyN d))
  | _, .non => .base .non
  | _, .bl b => .base (.bl b)
  | _, .int i => .base (.int i)
  | _, .str x => .base (.str x)
  | _, .lst h _ => tyx_lst h
  | _, .tup h _ => tyx_tup h
@[irreducible] def rIsiI (K : PySem.W.Frag) : List V → Hp → VK → Prop := rIsi K
@[irreducible] def rIsiTI (K : PySem.W.Frag) : List V → Hp → VK → Prop := rIsiT K
theorem call_isiI {X : Cx} : CallR X (.builtin "isinstance") (rIsiI X.K) := by
  unfold rIsiI
  exact call_isi
theorem call_isiTI {X : Cx} : CallR X (.builtin "isinstance") (rIsiTI X.K) := by
  unfold rIsiTI
  exact call_isiT
/-- isinstance of one type, of a datum -/
theorem isi_step {v : V} {d : PyData} (t n : String) (b : Bool) {Q : VK} {vs : List V} (h : Dp K H v d) (ht : tyN d = t) (hk : kitB t n = some b) (q : Q (.bl b) H) (hvs : vs = [v, .ty n] := by rfl) : rIsiI K vs H Q := by
  unfold rIsiI
  exact ⟨v, .ty n, _, _, b, hvs, .ty n, tyx_of h, kit_ty (by rw [ht]; exact hk), q⟩
theorem isiT_step {v : V} {d : PyData} {t n m : String} {b c : Bool} {tp : Addr} {Q : VK} {vs : List V} (h : Dp K H v d) (ht : tyN d = t) (hT : H tp = some (.tup [.ty n, .ty m])) (hk : kitB t n = some b) (hk2 : kitB t m = some c) (q : Q (.bl (b || c)) H) (hvs : vs = [v, .ref tp] := by rfl) : rIsiTI K vs H Q := by
  unfold rIsiTI
  subst ht
  refine ⟨v, tp, [.ty n, .ty m], _, [.type n, .type m], b || c, hvs, hT, .cons (.ty n) (.cons (.ty m) .nil), tyx_of h, ?_, q⟩
  refine kitAny_cons (kit_ty hk) (fun e => ?_) (fun e => by rw [e]; rfl)
  subst e
  refine kitAny_cons (r := false || c) (kit_ty hk2) (fun e => ?_) (fun e => by rw [e]; rfl)
  subst e
  exact kitAny_nil
end
/-! ### the promise of _law_same -/
/-- the datum is less deep than n, its lists and tuples short -/
def dle : Nat → PyData → Bool
  | 0, _ => false
  | n + 1, .list ds => decide (ds.length ≤ 1000) && ds.all (dle n)
  | n + 1, .tuple ds => decide (ds.length ≤ 1000) && ds.all (dle n)
  | _ + 1, .dict _ => false
  | _ + 1, .str x => SeqAt.shaped (.str x)
  | _ + 1, _ => true
/-- two things of one datum are the same -/
@[irreducible] def spSame (K : PySem.W.Frag) (n : Nat) : Sp := fun vs H Q _ => ∃ (v w : V) (d : PyData), vs = [v, w] ∧ Dp K H v d ∧ Dp K H w d ∧ dle n d = true ∧ ∀ r H', Same H H' → r = V.bl true → Q r H'
theorem same_step {K : PySem.W.Frag} {H : Hp} {n : Nat} {v w : V} {d : PyData} {Q : VK} {E : XK} {vs : List V} (hv : Dp K H v d) (hw : Dp K H w d) (hd : dle n d = true) (q : ∀ H', Same H H' → Q (.bl true) H') (hvs : vs = [v, w] := by rfl) : spSame K n vs H Q E := by
  unfold spSame
  exact ⟨v, w, d, hvs, hv, hw, hd, fun r H' s e => by rw [e]; exact q H' s⟩
theorem fn_none {P : Program} {w : World} {K : PySem.W.Frag} {mg : Str → Option Value} {base : Heap} {f : Addr} {fd : FuncData} {ps : List Str} {sp : Sp} {k : Nat} (h : ∀ vs H Q E, ¬ sp vs H Q E) : FnOk P w K mg base CX0 k f fd ps sp :=
  ⟨fun vs H Q E z => absurd z (h vs H Q E), fun A outer s H args us vs Q E _ _ _ _ z => absurd z (h vs H Q E)⟩
theorem defOk_none {P : Program} {w : World} {K : PySem.W.Frag} {mg : Str → Option Value} {base : Heap} {x : Str} {st : Stmt} {ps : List Str} {sp : Sp} {k : Nat} (F : DefAt K mg x st ps) (h : ∀ vs H Q E, ¬ sp vs H Q E) : DefOk P w K mg base k x ps sp := by
  obtain ⟨f, fd, F, hm, hb⟩ := F
  exact ⟨f, fd, fn_none h, hm, F.kp, hb⟩
end Cc
namespace Cc
open PySem PySem.Spec PyProof.Rows L2
/-- a box of the mathematics -/
structure Bx where
  l : Rat
  t : Rat
  w : Rat
  h : Rat
structure Bx.Ok (n : Nat) (b : Bx) : Prop where
  w0 : 0 < b.w
  h0 : 0 < b.h
  sl : Sz n b.l
  st : Sz n b.t
  sw : Sz n b.w
  sh : Sz n b.h
theorem Bx.Ok.mono {m n : Nat} {b : Bx} (x : b.Ok m) (h : m ≤ n) : b.Ok n := ⟨x.w0, x.h0, x.sl.mono h, x.st.mono h, x.sw.mono h, x.sh.mono h⟩
section
variable {K : PySem.W.Frag} {H H' : Hp}
/-- a box as it stands: its tuple at a, its parts -/
def BxAt (K : PySem.W.Frag) (H : Hp) (a : Addr) (v1 v2 v3 v4 : V) (b : Bx) : Prop :=
  SqT K H a [v1, v2, v3, v4] ∧ PtV K H v1 b.l ∧ PtV K H v2 b.t ∧ PtV K H v3 b.w ∧ PtV K H v4 b.h
def BxV (K : PySem.W.Frag) (H : Hp) (v : V) (b : Bx) : Prop := ∃ a v1 v2 v3 v4, v = .ref a ∧ BxAt K H a v1 v2 v3 v4 b
theorem BxAt.same {a : Addr} {v1 v2 v3 v4 : V} {b : Bx} (x : BxAt K H a v1 v2 v3 v4 b) (e : Same H H') : BxAt K H' a v1 v2 v3 v4 b :=
  ⟨seqT_same e x.1, x.2.1.same e, x.2.2.1.same e, x.2.2.2.1.same e, x.2.2.2.2.same e⟩
theorem BxAt.bag {a c : Addr} {v1 v2 v3 v4 : V} {b : Bx} (x : BxAt K H a v1 v2 v3 v4 b) (e : Kp c H H') (hb : Bag H c) : BxAt K H' a v1 v2 v3 v4 b := by
  obtain ⟨ys, h⟩ := hb.lst
  exact ⟨seqT_kp e h x.1, x.2.1.kp e h, x.2.2.1.kp e h, x.2.2.2.1.kp e h, x.2.2.2.2.kp e h⟩
theorem BxV.same {v : V} {b : Bx} (x : BxV K H v b) (e : Same H H') : BxV K H' v b := by
  obtain ⟨a, v1, v2, v3, v4, rfl, x⟩ := x
  exact ⟨a, v1, v2, v3, v4, rfl, x.same e⟩
theorem BxV.bag {c : Addr} {v : V} {b : Bx} (x : BxV K H v b) (e : Kp c H H') (hb : Bag H c) : BxV K H' v b := by
  obtain ⟨a, v1, v2, v3, v4, rfl, x⟩ := x
  exact ⟨a, v1, v2, v3, v4, rfl, x.bag e hb⟩
theorem BxV.mk {p : Addr} {v1 v2 v3 v4 : V} {b : Bx} (np : H p = none) (h1 : PtV K H v1 b.l) (h2 : PtV K H v2 b.t) (h3 : PtV K H v3 b.w) (h4 : PtV K H v4 b.h) : BxV K (upd H p (.tup [v1, v2, v3, v4])) (.ref p) b :=
  ⟨p, v1, v2, v3, v4, rfl, SqT.of upd_same, h1.same (same_new np), h2.same (same_new np), h3.same (same_new np), h4.same (same_new np)⟩
def dBox (b : Bx) : PyData := .tuple [dPart b.l, dPart b.t, dPart b.w, dPart b.h]
theorem BxV.dp {v : V} {b : Bx} (x : BxV K H v b) : Dp K H v (dBox b) := by
  obtain ⟨a, v1, v2, v3, v4, rfl, h, h1, h2, h3, h4⟩ := x
  exact .tup h (.cons h1.dp (.cons h2.dp (.cons h3.dp (.cons h4.dp .nil))))
/-- a part that is whole -/
theorem ptv_int {p : Addr} (np : H p = none) (i : Int) : PtV K (upd H p (.tup [.int i, .int 1])) (.ref p) (i : Rat) := PtV.new rfl rfl
end
/-- a name of the module that holds nought -/
def NoughtAt (K : PySem.W.Frag) (mg : Str → Option Value) : Prop := ∃ a, mg "NOUGHT" = some (.ref a) ∧ ∀ H, PtV K H (.ref a) 0
theorem nought_mk {K : PySem.W.Frag} {mg : Str → Option Value} {h : Heap} (X : K.In h) (G : h.Ns mainGlobals mg) {a : Addr} {dd : Option Addr} {n : Nat} {t u : Tok} {sl : Array (Option Value)}
    (e : PySem.W.nsIn K mainGlobals "NOUGHT" = some (some (.ref a))) (l : K.lookup a = some ⟨.type "tuple", dd, .seq #[.int 0 t, .int 1 u] n, sl⟩) : NoughtAt K mg :=
  ⟨a, PySem.W.mg_of X G e, fun _ => ⟨a, rfl, .inr ⟨_, _, _, l, rfl, rfl, (show 2 ≤ sizeLine by decide), .cons ⟨t, rfl⟩ (.cons ⟨u, rfl⟩ .nil)⟩⟩⟩
/-! ### promises -/
@[irreducible] def spIsNum : Sp := fun vs H Q _ => ∃ i : Int, vs = [.int i] ∧ ∀ r, r = V.bl true → Q r H
@[irreducible] def spIsPart (K : PySem.W.Frag) : Sp := fun vs H Q _ => ∃ (v : V) (q : Rat), vs = [v] ∧ PtV K H v q ∧ ∀ r, r = V.bl true → Q r H
@[irreducible] def spIsBox (K : PySem.W.Frag) : Sp := fun vs H Q _ => ∃ (v : V) (b : Bx), vs = [v] ∧ BxV K H v b ∧ b.Ok 3900 ∧ ∀ r H', Same H H' → r = V.bl true → Q r H'
@[irreducible] def spCheck (K : PySem.W.Frag) : Sp := fun vs H Q _ => ∃ (v : V) (b : Bx), vs = [v] ∧ BxV K H v b ∧ b.Ok 3900 ∧ ∀ r H', Same H H' → r = V.non → Q r H'
/-- a part of a box -/
@[irreducible] def spOfBox (K : PySem.W.Frag) (g : Bx → Rat) : Sp := fun vs H Q _ => ∃ (v : V) (b : Bx), vs = [v] ∧ BxV K H v b ∧ b.Ok 1900 ∧ ∀ u H', Same H H' → PtV K H' u (g b) → Q u H'
def gr (x y : Rat) : Rat := if x < y then y else x
def ls (x y : Rat) : Rat := if x < y then x else y
def shp (b : Bx) : Rat := gr (b.w / b.h) (b.h / b.w)
@[irreducible] def spSomeBox (K : PySem.W.Frag) : Sp := fun vs H Q _ => ∃ c : Addr, vs = [.ref c] ∧ Bag H c ∧ ∀ v b H', BxV K H' v b → b.Ok 202 → Bag H' c → Kp c H H' → Q v H'
@[irreducible] def spAbove (K : PySem.W.Frag) : Sp := fun vs H Q _ => ∃ c : Addr, vs = [.ref c] ∧ Bag H c ∧ ∀ v q H', PtV K H' v q → 0 < q → Sz 202 q → Bag H' c → Kp c H H' → Q v H'
section
variable {K : PySem.W.Frag} {H : Hp} {v : V} {b : Bx} {Q : VK} {vs : List V} {E : XK} {q : Rat}
theorem isnum_step {i : Int} (h : Q (.bl true) H) (hvs : vs = [.int i] := by rfl) : spIsNum vs H Q E := by
  unfold spIsNum
  exact ⟨i, hvs, fun r e => by rw [e]; exact h⟩
theorem ispart_step (hv : PtV K H v q) (h : Q (.bl true) H) (hvs : vs = [v] := by rfl) : spIsPart K vs H Q E := by
  unfold spIsPart
  exact ⟨v, q, hvs, hv, fun r e => by rw [e]; exact h⟩
theorem isbox_step {n : Nat} (hv : BxV K H v b) (hb : b.Ok n) (hn : n ≤ 3900) (h : ∀ H', Same H H' → Q (.bl true) H') (hvs : vs = [v] := by rfl) : spIsBox K vs H Q E := by
  unfold spIsBox
  exact ⟨v, b, hvs, hv, hb.mono hn, fun r H' s e => by rw [e]; exact h H' s⟩
theorem check_step {n : Nat} (hv : BxV K H v b) (hb : b.Ok n) (hn : n ≤ 3900) (h : ∀ H', Same H H' → Q .non H') (hvs : vs = [v] := by rfl) : spCheck K vs H Q E := by
  unfold spCheck
  exact ⟨v, b, hvs, hv, hb.mono hn, fun r H' s e => by rw [e]; exact h H' s⟩
theorem ofbox_step {g : Bx → Rat} {n : Nat} (hv : BxV K H v b) (hb : b.Ok n) (hn : n ≤ 1900) (h : ∀ u H', Same H H' → PtV K H' u (g b) → Q u H') (hvs : vs = [v] := by rfl) : spOfBox K g vs H Q E := by
  unfold spOfBox
  exact ⟨v, b, hvs, hv, hb.mono hn, h⟩
theorem somebox_step {c : Addr} (hb : Bag H c) (h : ∀ v b H', BxV K H' v b → b.Ok 202 → Bag H' c → Kp c H H' → Q v H') (hvs : vs = [.ref c] := by rfl) : spSomeBox K vs H Q E := by
  unfold spSomeBox
  exact ⟨c, hvs, hb, h⟩
theorem above_step {c : Addr} (hb : Bag H c) (h : ∀ v q H', PtV K H' v q → 0 < q → Sz 202 q → Bag H' c → Kp c H H' → Q v H') (hvs : vs = [.ref c] := by rfl) : spAbove K vs H Q E := by
  unfold spAbove
  exact ⟨c, hvs, hb, h⟩
end
@[irreducible] def spPick : Sp := fun vs H Q _ => ∃ (c L : Addr) (xs : List V), vs = [.ref c, .ref L] ∧ Bag H c ∧ H L = some (.lst xs) ∧ L ≠ c ∧ 0 < xs.length ∧ xs.length ≤ 1000 ∧ ∀ v H', v ∈ xs → Bag H' c → Kp c H H' → Q v H'
@[irreducible] def spEnds (K : PySem.W.Frag) : Sp := fun vs H Q _ => ∃ (v : V) (b : Bx), vs = [v] ∧ BxV K H v b ∧ b.Ok 1900 ∧ ∀ p v1 v2 v3 v4 H', Same H H' → BxAt K H' p v1 v2 v3 v4 ⟨b.l, b.l + b.w, b.t, b.t + b.h⟩ → Q (.ref p) H'
@[irreducible] def spStretch (K : PySem.W.Frag) : Sp := fun vs H Q _ => ∃ (v1 v2 v3 : V) (x l p : Rat), vs = [v1, v2, v3] ∧ PtV K H v1 x ∧ PtV K H v2 l ∧ PtV K H v3 p ∧ Sz 1900 x ∧ Sz 1900 l ∧ Sz 3900 p ∧ ∀ r H', Same H H' → r = V.bl (!decide (p < x) && decide (p < x + l)) → Q r H'
def lies (b : Bx) (x y : Rat) : Bool := (!decide (x < b.l) && decide (x < b.l + b.w)) && (!decide (y < b.t) && decide (y < b.t + b.h))
@[irreducible] def spLies (K : PySem.W.Frag) : Sp := fun vs H Q _ => ∃ (v1 v2 v3 : V) (b : Bx) (x y : Rat), vs = [v1, v2, v3] ∧ BxV K H v1 b ∧ PtV K H v2 x ∧ PtV K H v3 y ∧ b.Ok 1900 ∧ Sz 3900 x ∧ Sz 3900 y ∧ ∀ r H', Same H H' → r = V.bl (lies b x y) → Q r H'
section
variable {K : PySem.W.Frag} {H : Hp} {v : V} {b : Bx} {Q : VK} {vs : List V} {E : XK}
theorem pick_step {c L : Addr} {xs : List V} (hb : Bag H c) (hL : H L = some (.lst xs)) (hne : L ≠ c) (h0 : 0 < xs.length) (h1 : xs.length ≤ 1000) (h : ∀ v H', v ∈ xs → Bag H' c → Kp c H H' → Q v H') (hvs : vs = [.ref c, .ref L] := by rfl) : spPick vs H Q E := by
  unfold spPick
  exact ⟨c, L, xs, hvs, hb, hL, hne, h0, h1, h⟩
theorem ends_step {n : Nat} (hv : BxV K H v b) (hb : b.Ok n) (hn : n ≤ 1900) (h : ∀ p v1 v2 v3 v4 H', Same H H' → BxAt K H' p v1 v2 v3 v4 ⟨b.l, b.l + b.w, b.t, b.t + b.h⟩ → Q (.ref p) H') (hvs : vs = [v] := by rfl) : spEnds K vs H Q E := by
  unfold spEnds
  exact ⟨v, b, hvs, hv, hb.mono hn, h⟩
theorem stretch_step {v1 v2 v3 : V} {x l p : Rat} {m n k : Nat} (h1 : PtV K H v1 x) (h2 : PtV K H v2 l) (h3 : PtV K H v3 p) (s1 : Sz m x) (s2 : Sz n l) (s3 : Sz k p) (hm : m ≤ 1900) (hn : n ≤ 1900) (hk : k ≤ 3900)
    (h : ∀ H', Same H H' → Q (.bl (!decide (p < x) && decide (p < x + l))) H') (hvs : vs = [v1, v2, v3] := by rfl) : spStretch K vs H Q E := by
  unfold spStretch
  exact ⟨v1, v2, v3, x, l, p, hvs, h1, h2, h3, s1.mono hm, s2.mono hn, s3.mono hk, fun r H' s e => by rw [e]; exact h H' s⟩
theorem lies_step {v1 v2 v3 : V} {x y : Rat} {m n k : Nat} (h1 : BxV K H v1 b) (h2 : PtV K H v2 x) (h3 : PtV K H v3 y) (s1 : b.Ok m) (s2 : Sz n x) (s3 : Sz k y) (hm : m ≤ 1900) (hn : n ≤ 3900) (hk : k ≤ 3900)
    (h : ∀ H', Same H H' → Q (.bl (lies b x y)) H') (hvs : vs = [v1, v2, v3] := by rfl) : spLies K vs H Q E := by
  unfold spLies
  exact ⟨v1, v2, v3, b, x, y, hvs, h1, h2, h3, s1.mono hm, s2.mono hn, s3.mono hk, fun r H' s e => by rw [e]; exact h H' s⟩
end
/-! ### mathematics -/
theorem divInt_pos {a c : Int} (h : 0 < a) (hc : 0 < c) : 0 < Rat.divInt a c := by
  rw [Rat.divInt_eq_div, Rat.div_def]
  exact Rat.mul_pos (Rat.intCast_pos.mpr h) (Rat.inv_pos.mpr (Rat.intCast_pos.mpr hc))
theorem int_pos {i : Int} (h : 0 < i) : (0 : Rat) < (i : Rat) := Rat.intCast_pos.mpr h
theorem int_sz {i : Int} (h : -1000 ≤ i ∧ i ≤ 1000) : Sz 202 ((i : Int) : Rat) := by
  constructor
  · show i.natAbs < 2 ^ 202
    exact Nat.lt_of_lt_of_le (show i.natAbs < 2 ^ 10 by omega) (Nat.pow_le_pow_right (by decide) (by decide))
  · exact Nat.one_lt_two_pow (by decide)

theorem dv_lt {w h : Rat} (hw : 0 < w) (hh : 0 < h) (e : w < h) : w / h < h / w := by
  have h1 : w / h < 1 := (Rat.div_lt_iff hh).mpr (by grind)
  have h2 : 1 < h / w := (Rat.lt_div_iff hw).mpr (by grind)
  grind
theorem gr_shape {w h : Rat} (hw : 0 < w) (hh : 0 < h) : (if w < h then h / w else w / h) = gr (w / h) (h / w) := by
  unfold gr
  by_cases e : w < h
  · rw [if_pos e, if_pos (dv_lt hw hh e)]
  · rw [if_neg e]
    by_cases e2 : h < w
    · rw [if_neg (by have := dv_lt hh hw e2; grind)]
    · have e3 : w = h := by grind
      subst e3
      rw [if_neg (by grind)]
theorem gr_comm (x y : Rat) : gr x y = gr y x := by
  unfold gr
  split <;> split <;> grind
theorem one_le_shape {w h : Rat} (hw : 0 < w) (hh : 0 < h) : ¬ gr (w / h) (h / w) < 1 := by
  rw [← gr_shape hw hh]
  split
  · rename_i e
    have h2 : 1 < h / w := (Rat.lt_div_iff hw).mpr (by grind)
    grind
  · rename_i e
    by_cases e2 : h < w
    · have h2 : 1 < w / h := (Rat.lt_div_iff hh).mpr (by grind)
      grind
    · have e3 : w = h := by grind
      subst e3
      rw [Rat.div_def, Rat.mul_inv_cancel w (by grind)]
      grind
/-! ### lists of parts -/
def PtsL (K : PySem.W.Frag) (H : Hp) (L : Addr) (n : Nat) : Prop := ∃ xs, H L = some (.lst xs) ∧ 0 < xs.length ∧ xs.length ≤ 1000 ∧ ∀ v ∈ xs, ∃ q, PtV K H v q ∧ Sz n q
theorem PtsL.same {K : PySem.W.Frag} {H H' : Hp} {L : Addr} {n : Nat} (x : PtsL K H L n) (e : Same H H') : PtsL K H' L n := by
  obtain ⟨xs, h, h0, h1, h2⟩ := x
  refine ⟨xs, e _ _ h, h0, h1, fun v hv => ?_⟩
  obtain ⟨q, hq, hz⟩ := h2 v hv
  exact ⟨q, hq.same e, hz⟩
theorem PtsL.bag {K : PySem.W.Frag} {H H' : Hp} {L c : Addr} {n : Nat} (x : PtsL K H L n) (e : Kp c H H') (hb : Bag H c) (hne : L ≠ c) : PtsL K H' L n := by
  obtain ⟨xs, h, h0, h1, h2⟩ := x
  refine ⟨xs, e _ _ h hne, h0, h1, fun v hv => ?_⟩
  obtain ⟨q, hq, hz⟩ := h2 v hv
  exact ⟨q, hq.bag e hb, hz⟩
theorem PtsL.pick {K : PySem.W.Frag} {H : Hp} {L c : Addr} {n : Nat} {Q : VK} {E : XK} {vs : List V} (x : PtsL K H L n) (hb : Bag H c) (hne : L ≠ c) (h : ∀ v q H', PtV K H' v q → Sz n q → Bag H' c → Kp c H H' → Q v H') (hvs : vs = [.ref c, .ref L] := by rfl) : spPick vs H Q E := by
  obtain ⟨xs, hL, h0, h1, h2⟩ := x
  refine pick_step hb hL hne h0 h1 (fun v H' hv hb' k => ?_) hvs
  obtain ⟨q, hq, hz⟩ := h2 v hv
  exact h v q H' (hq.bag k hb) hz hb' k
theorem tiny_part {K : PySem.W.Frag} {H : Hp} {p : Addr} {d : Int} (h0 : 0 < d) : PtV K (upd H p (.tup [.int 1, .int d])) (.ref p) (Rat.divInt 1 d) := by
  obtain ⟨e1, e2⟩ := divInt_num_eq (a := 1) h0
  rw [Int.one_gcd] at e1 e2
  exact PtV.new (by rw [e1]; rfl) (by rw [e2]; exact Int.ediv_one d)
end Cc
set_option exponentiation.threshold 10000
namespace Cc
open PySem PySem.Spec PyProof.Rows L2
local macro_rules | `(tactic| walk_at "sd") => `(tactic| first
  | exact cmul_r ⟨by decide, by decide⟩
  | exact cmul_l ⟨by decide, by decide⟩
  | exact cmul_l ⟨by omega, by omega⟩
  | exact cmul_w (by assumption) (by assumption) (by decide)
  | exact (show CPow 10 18 from ⟨by decide, by decide, by decide⟩)
  | exact (show (0 : Int) < 2147483629 by decide)
  | exact (show CDiv _ _ from ⟨by decide, by decide⟩)
  | exact (show CDiv _ _ from ⟨by assumption, by assumption⟩)
  | assumption)
local macro_rules | `(tactic| walk_at "rd") => `(tactic| first
  | refine ⟨_, rfl, ?_⟩
  | refine ⟨_, _, rfl, rfl, ?_⟩
  | (refine ⟨_, ?_, _, ?_, rfl, rfl, ?_, ?_, ?_⟩; rotate_left 2; (first | exact SqL.of (by assumption) | (show SqT _ _ _ _; assumption) | (show SqL _ _ _ _; assumption)); (first | exact rfl | assumption))
  | (refine ⟨_, ?_, rfl, ?_, ?_⟩; rotate_left 1; (first | exact .inl (SqL.of (by assumption)) | exact .inl (SqL.of upd_same)))
  | (refine And.intro ?_ ?_; (focus (walk_at "sd"))))
def top (i : Nat) : Stmt := PySem.Challenge.pw_calmcuts_k08_points_in_boxes.main.body.getD i (.Pass ⟨0, 0, 0, 0⟩)
abbrev s_is_number : Stmt := top 7
abbrev ps_is_number : List Str := ["thing"]
theorem sc_is_number : FnScope ["thing"] ps_is_number (defScope s_is_number) := ⟨rfl, rfl, rfl, by decide +kernel, rfl, by decide +kernel, by decide +kernel⟩
abbrev s_is_part : Stmt := top 8
abbrev ps_is_part : List Str := ["thing"]
theorem sc_is_part : FnScope ["thing", "above", "below"] ps_is_part (defScope s_is_part) := ⟨rfl, rfl, rfl, by decide +kernel, rfl, by decide +kernel, by decide +kernel⟩
abbrev s_part : Stmt := top 9
abbrev ps_part : List Str := ["above", "below"]
theorem sc_part : FnScope ["above", "below", "common"] ps_part (defScope s_part) := ⟨rfl, rfl, rfl, by decide +kernel, rfl, by decide +kernel, by decide +kernel⟩
abbrev s_plus : Stmt := top 10
abbrev ps_plus : List Str := ["one", "other"]
theorem sc_plus : FnScope ["one", "other"] ps_plus (defScope s_plus) := ⟨rfl, rfl, rfl, by decide +kernel, rfl, by decide +kernel, by decide +kernel⟩
abbrev s_less : Stmt := top 11
abbrev ps_less : List Str := ["one", "other"]
theorem sc_less : FnScope ["one", "other"] ps_less (defScope s_less) := ⟨rfl, rfl, rfl, by decide +kernel, rfl, by decide +kernel, by decide +kernel⟩
abbrev s_is_box : Stmt := top 13
abbrev ps_is_box : List Str := ["thing"]
theorem sc_is_box : FnScope ["thing", "number"] ps_is_box (defScope s_is_box) := ⟨rfl, rfl, rfl, by decide +kernel, rfl, by decide +kernel, by decide +kernel⟩
abbrev s_holds : Stmt := top 14
abbrev ps_holds : List Str := ["box", "x", "y"]
theorem sc_holds : FnScope ["box", "x", "y", "left", "top", "wide", "high"] ps_holds (defScope s_holds) := ⟨rfl, rfl, rfl, by decide +kernel, rfl, by decide +kernel, by decide +kernel⟩
abbrev s_check_box : Stmt := top 15
abbrev ps_check_box : List Str := ["thing"]
theorem sc_check_box : FnScope ["thing"] ps_check_box (defScope s_check_box) := ⟨rfl, rfl, rfl, by decide +kernel, rfl, by decide +kernel, by decide +kernel⟩
abbrev s__lies_in : Stmt := top 16
abbrev ps__lies_in : List Str := ["begin", "length", "point"]
theorem sc__lies_in : FnScope ["begin", "length", "point"] ps__lies_in (defScope s__lies_in) := ⟨rfl, rfl, rfl, by decide +kernel, rfl, by decide +kernel, by decide +kernel⟩
abbrev s__law_bag : Stmt := top 18
abbrev ps__law_bag : List Str := ["_law_script"]
theorem sc__law_bag : FnScope ["_law_script"] ps__law_bag (defScope s__law_bag) := ⟨rfl, rfl, rfl, by decide +kernel, rfl, by decide +kernel, by decide +kernel⟩
abbrev s__law_get : Stmt := top 19
abbrev ps__law_get : List Str := ["_law_bag_here", "_law_most"]
theorem sc__law_get : FnScope ["_law_bag_here", "_law_most", "_law_cell", "_law_got", "_law_before"] ps__law_get (defScope s__law_get) := ⟨rfl, rfl, rfl, by decide +kernel, rfl, by decide +kernel, by decide +kernel⟩
abbrev s__law_pick : Stmt := top 20
abbrev ps__law_pick : List Str := ["_law_bag_here", "_law_some"]
theorem sc__law_pick : FnScope ["_law_bag_here", "_law_some"] ps__law_pick (defScope s__law_pick) := ⟨rfl, rfl, rfl, by decide +kernel, rfl, by decide +kernel, by decide +kernel⟩
abbrev s__law_far : Stmt := top 21
abbrev ps__law_far : List Str := ["_law_bag_here", "_law_steps"]
theorem sc__law_far : FnScope ["_law_bag_here", "_law_steps", "_law_found", "_law_step"] ps__law_far (defScope s__law_far) := ⟨rfl, rfl, rfl, by decide +kernel, rfl, by decide +kernel, by decide +kernel⟩
abbrev s__law_same : Stmt := top 22
abbrev ps__law_same : List Str := ["_law_found", "_law_due"]
theorem sc__law_same : FnScope ["_law_found", "_law_due", "_law_key_now", "_law_one", "_law_other"] ps__law_same (defScope s__law_same) := ⟨rfl, rfl, rfl, by decide +kernel, rfl, by decide +kernel, by decide +kernel⟩
abbrev s__law_gcd : Stmt := top 23
abbrev ps__law_gcd : List Str := ["_law_one", "_law_other"]
theorem sc__law_gcd : FnScope ["_law_one", "_law_other"] ps__law_gcd (defScope s__law_gcd) := ⟨rfl, rfl, rfl, by decide +kernel, rfl, by decide +kernel, by decide +kernel⟩
abbrev s__law_part : Stmt := top 24
abbrev ps__law_part : List Str := ["_law_above_here", "_law_below"]
theorem sc__law_part : FnScope ["_law_above_here", "_law_below", "_law_by"] ps__law_part (defScope s__law_part) := ⟨rfl, rfl, rfl, by decide +kernel, rfl, by decide +kernel, by decide +kernel⟩
abbrev s__law_plus : Stmt := top 25
abbrev ps__law_plus : List Str := ["_law_one", "_law_other"]
theorem sc__law_plus : FnScope ["_law_one", "_law_other"] ps__law_plus (defScope s__law_plus) := ⟨rfl, rfl, rfl, by decide +kernel, rfl, by decide +kernel, by decide +kernel⟩
abbrev s__law_minus : Stmt := top 26
abbrev ps__law_minus : List Str := ["_law_one", "_law_other"]
theorem sc__law_minus : FnScope ["_law_one", "_law_other"] ps__law_minus (defScope s__law_minus) := ⟨rfl, rfl, rfl, by decide +kernel, rfl, by decide +kernel, by decide +kernel⟩
abbrev s__law_less : Stmt := top 27
abbrev ps__law_less : List Str := ["_law_one", "_law_other"]
theorem sc__law_less : FnScope ["_law_one", "_law_other"] ps__law_less (defScope s__law_less) := ⟨rfl, rfl, rfl, by decide +kernel, rfl, by decide +kernel, by decide +kernel⟩
abbrev s__law_number : Stmt := top 28
abbrev ps__law_number : List Str := ["_law_bag_here"]
theorem sc__law_number : FnScope ["_law_bag_here", "_law_kind"] ps__law_number (defScope s__law_number) := ⟨rfl, rfl, rfl, by decide +kernel, rfl, by decide +kernel, by decide +kernel⟩
abbrev s__law_some_part : Stmt := top 29
abbrev ps__law_some_part : List Str := ["_law_bag_here"]
theorem sc__law_some_part : FnScope ["_law_bag_here", "_law_below"] ps__law_some_part (defScope s__law_some_part) := ⟨rfl, rfl, rfl, by decide +kernel, rfl, by decide +kernel, by decide +kernel⟩
abbrev s__law_above : Stmt := top 30
abbrev ps__law_above : List Str := ["_law_bag_here"]
theorem sc__law_above : FnScope ["_law_bag_here", "_law_one"] ps__law_above (defScope s__law_above) := ⟨rfl, rfl, rfl, by decide +kernel, rfl, by decide +kernel, by decide +kernel⟩
abbrev s__law_small_box : Stmt := top 31
abbrev ps__law_small_box : List Str := ["_law_bag_here"]
theorem sc__law_small_box : FnScope ["_law_bag_here", "_law_x", "_law_y"] ps__law_small_box (defScope s__law_small_box) := ⟨rfl, rfl, rfl, by decide +kernel, rfl, by decide +kernel, by decide +kernel⟩
abbrev s__law_box : Stmt := top 32
abbrev ps__law_box : List Str := ["_law_bag_here"]
theorem sc__law_box : FnScope ["_law_bag_here"] ps__law_box (defScope s__law_box) := ⟨rfl, rfl, rfl, by decide +kernel, rfl, by decide +kernel, by decide +kernel⟩
abbrev s__law_ends : Stmt := top 33
abbrev ps__law_ends : List Str := ["_law_box_here"]
theorem sc__law_ends : FnScope ["_law_box_here"] ps__law_ends (defScope s__law_ends) := ⟨rfl, rfl, rfl, by decide +kernel, rfl, by decide +kernel, by decide +kernel⟩
abbrev s__law_lies : Stmt := top 34
abbrev ps__law_lies : List Str := ["_law_box_here", "_law_x", "_law_y"]
theorem sc__law_lies : FnScope ["_law_box_here", "_law_x", "_law_y", "_law_left", "_law_right", "_law_top", "_law_bottom"] ps__law_lies (defScope s__law_lies) := ⟨rfl, rfl, rfl, by decide +kernel, rfl, by decide +kernel, by decide +kernel⟩
abbrev s_law : Stmt := top 35
abbrev ps_law : List Str := ["_law_script"]
theorem sc_law : FnScope ["_law_script", "_law_bag_here", "_law_turn", "_law_box_here", "_law_left", "_law_right", "_law_top", "_law_bottom", "_law_tiny", "_law_across_now", "_law_down_now", "_law_step", "_law_x", "_law_y"] ps_law (defScope s_law) := ⟨rfl, rfl, rfl, by decide +kernel, rfl, by decide +kernel, by decide +kernel⟩
/-- all that the top has left -/
structure Tops (K : PySem.W.Frag) (mg : Str → Option Value) : Prop where
  d_is_number : DefAt K mg "is_number" s_is_number ps_is_number
  d_is_part : DefAt K mg "is_part" s_is_part ps_is_part
  d_part : DefAt K mg "part" s_part ps_part
  d_plus : DefAt K mg "plus" s_plus ps_plus
  d_less : DefAt K mg "less" s_less ps_less
  d_is_box : DefAt K mg "is_box" s_is_box ps_is_box
  d_holds : DefAt K mg "holds" s_holds ps_holds
  d_check_box : DefAt K mg "check_box" s_check_box ps_check_box
  d_lies_in : DefAt K mg "_lies_in" s__lies_in ps__lies_in
  d_law_bag : DefAt K mg "_law_bag" s__law_bag ps__law_bag
  d_law_get : DefAt K mg "_law_get" s__law_get ps__law_get
  d_law_pick : DefAt K mg "_law_pick" s__law_pick ps__law_pick
  d_law_far : DefAt K mg "_law_far" s__law_far ps__law_far
  d_law_same : DefAt K mg "_law_same" s__law_same ps__law_same
  d_law_gcd : DefAt K mg "_law_gcd" s__law_gcd ps__law_gcd
  d_law_part : DefAt K mg "_law_part" s__law_part ps__law_part
  d_law_plus : DefAt K mg "_law_plus" s__law_plus ps__law_plus
  d_law_minus : DefAt K mg "_law_minus" s__law_minus ps__law_minus
  d_law_less : DefAt K mg "_law_less" s__law_less ps__law_less
  d_law_number : DefAt K mg "_law_number" s__law_number ps__law_number
  d_law_some_part : DefAt K mg "_law_some_part" s__law_some_part ps__law_some_part
  d_law_above : DefAt K mg "_law_above" s__law_above ps__law_above
  d_law_small_box : DefAt K mg "_law_small_box" s__law_small_box ps__law_small_box
  d_law_box : DefAt K mg "_law_box" s__law_box ps__law_box
  d_law_ends : DefAt K mg "_law_ends" s__law_ends ps__law_ends
  d_law_lies : DefAt K mg "_law_lies" s__law_lies ps__law_lies
  m_abs : mg "abs" = none
  m_all : mg "all" = none
  m_bool : mg "bool" = none
  m_dict : mg "dict" = none
  m_int : mg "int" = none
  m_isinstance : mg "isinstance" = none
  m_len : mg "len" = none
  m_list : mg "list" = none
  m_range : mg "range" = none
  m_str : mg "str" = none
  m_tuple : mg "tuple" = none
  m_zip : mg "zip" = none
  m_NOUGHT : NoughtAt K mg
  m_gcd : mg "gcd" = some (.builtin "math.gcd")
section
variable {P : Program} {w : World} {K : PySem.W.Frag} {mg : Str → Option Value} {base : Heap}
theorem ok_is_number (T : Tops K mg)  : DefOk P w K mg base 1 "is_number" ps_is_number spIsNum := by
  refine T.d_is_number.ok sc_is_number (fun vs H Q E h => ?_) (fun f cdv A outer s H vs Q E hr h => ?_)
  · unfold spIsNum at h
    obtain ⟨_, rfl, _⟩ := h
    rfl
  · unfold spIsNum at h
    obtain ⟨i, rfl, q⟩ := h
    refine ⟨_, (pss_one (ps_ret (pe_and (pe_callB call_isiI (by rfl) T.m_isinstance (by decide +kernel) (pa_cons (pv 0) (pa_cons (pe_bltn (v := V.ty "int") (u := Value.type "int") (by rfl) T.m_int (by decide +kernel) rfl) pa_nil))) (pe_one (pe_not (pe_callB call_isiI (by rfl) T.m_isinstance (by decide +kernel) (pa_cons (pv 0) (pa_cons (pe_bltn (v := V.ty "bool") (u := Value.type "bool") (by rfl) T.m_bool (by decide +kernel) rfl) pa_nil)))))))), ?_⟩
    have hi : Dp K H (.int i) (.int i) := .int i
    refine ⟨_, rfl, isi_step "int" "int" true hi rfl (by decide +kernel) ⟨true, rfl, ?_⟩⟩
    refine ⟨_, rfl, isi_step "int" "bool" false hi rfl (by decide +kernel) ⟨false, rfl, q _ rfl⟩⟩
theorem ok_is_part (T : Tops K mg) (D_is_number : DefOk P w K mg base 1 "is_number" ps_is_number spIsNum) : DefOk P w K mg base 2 "is_part" ps_is_part (spIsPart K) := by
  refine T.d_is_part.ok sc_is_part (fun vs H Q E h => ?_) (fun f cdv A outer s H vs Q E hr h => ?_)
  · unfold spIsPart at h
    obtain ⟨_, _, rfl, _⟩ := h
    rfl
  · unfold spIsPart at h
    obtain ⟨v, x, rfl, ⟨a, rfl, ha⟩, q⟩ := h
    refine ⟨_, (pss_cons (ps_if (PW.pt (pw_or (pt_not (pt_val (pe_callB call_isiI (by rfl) T.m_isinstance (by decide +kernel) (pa_cons (pv 0) (pa_cons (pe_bltn (v := V.ty "tuple") (u := Value.type "tuple") (by rfl) T.m_tuple (by decide +kernel) rfl) pa_nil))))) (pw_or1 (pt_cmpR op_ne (pe_callB call_len_seq (by rfl) T.m_len PySem.boot_len (pa_cons (pv 0) pa_nil)) pe_int (nomark _))))) (pss_one (ps_ret pe_bl)) pss_nil) (pss_cons (ps_asg (pv 0) (pg_tup rfl (pgs_cons (pg_name (i := 1) sc_is_part.nd rfl (.inl rfl)) (pgs_cons (pg_name (i := 2) sc_is_part.nd rfl (.inl rfl)) pgs_nil)))) (pss_one (ps_ret (pe_and (pe_callD D_is_number hr (by decide) (by rfl) (pa_cons (pv 1) pa_nil)) (pe_and (pe_callD D_is_number hr (by decide) (by rfl) (pa_cons (pv 2) pa_nil)) (pe_and (pe_cmpR op_gt (pv 2) pe_int (nomark _)) (pe_one (pe_cmpR op_eq (pe_callBfun cr_gcd (by rfl) T.m_gcd (pa_cons (pv 1) (pa_cons (pv 2) pa_nil))) pe_int (nomark _)))))))))), ?_⟩
    have hd : Dp K H (.ref a) (dPart x) := PtV.dp ⟨a, rfl, ha⟩
    refine ⟨_, rfl, isi_step "tuple" "tuple" true hd rfl (by decide +kernel) ⟨_, rfl, ?_⟩⟩
    refine ⟨_, rfl, a, _, rfl, .inr ha, rfl, _, rfl, ?_⟩
    refine ⟨_, rfl, a, _, rfl, ha, rfl, _, _, rfl, _, _, rfl, rfl, ?_⟩
    refine ⟨_, rfl, isnum_step ⟨true, rfl, ?_⟩⟩
    refine ⟨_, rfl, isnum_step ⟨true, rfl, ?_⟩⟩
    refine ⟨_, rfl, _, _, rfl, rfl, true, congrArg V.bl (decide_eq_true (den_pos x)), ?_⟩
    refine ⟨_, rfl, _, rfl, _, _, rfl, rfl, ?_⟩
    refine q _ (congrArg V.bl (decide_eq_true (congrArg V.int ?_)))
    have e := x.reduced
    show ((Nat.gcd x.num.natAbs ((x.den : Int)).natAbs : Nat) : Int) = 1
    rw [Int.natAbs_natCast]
    exact congrArg Int.ofNat e
theorem ok_part (T : Tops K mg)  : DefOk P w K mg base 1 "part" ps_part (spPart K) := by
  refine T.d_part.ok sc_part (fun vs H Q E h => ?_) (fun f cdv A outer s H vs Q E hr h => ?_)
  · obtain ⟨a, c, rfl, _⟩ := h
    rfl
  · obtain ⟨a, c, rfl, hc0, ha, hc, q⟩ := h
    refine ⟨_, (pss_cons (ps_if (pt_cmpR op_eq (pv 1) pe_int (nomark _)) (pss_one ps_never) pss_nil) (pss_cons (ps_set (i := 2) sc_part.nd rfl (.inl rfl) (pe_callBfun cr_gcd (by rfl) T.m_gcd (pa_cons (pv 0) (pa_cons (pv 1) pa_nil)))) (pss_cons (ps_if (pt_cmpR op_lt (pv 1) pe_int (nomark _)) (pss_one (ps_set (i := 2) sc_part.nd rfl (.inl rfl) (pe_un un_neg (pv 2)))) pss_nil) (pss_one (ps_ret (pe_tup (pa_cons (pe_op op_fdivA (pv 0) (pv 2)) (pa_cons (pe_op op_fdivA (pv 1) (pv 2)) pa_nil)))))))), ?_⟩
    have g0 : (0 : Int) < ((Int.gcd a c : Nat) : Int) := by
      have := Int.gcd_pos_of_ne_zero_right a hc0
      omega
    have g1 : Int.gcd a c ≤ c.natAbs := Int.gcd_le_natAbs_right a hc0
    have gw1 : CDivA a ((Int.gcd a c : Nat) : Int) := ⟨by omega, Nat.lt_of_le_of_lt (show _ ≤ c.natAbs by omega) (pow_mono_lt hc (by decide))⟩
    have gw2 : CDivA a (-((Int.gcd a c : Nat) : Int)) := ⟨by omega, Nat.lt_of_le_of_lt (show _ ≤ c.natAbs by omega) (pow_mono_lt hc (by decide))⟩
    refine ⟨_, rfl, rfl, _, rfl, ?_⟩
    refine iteD (fun hd => absurd (V.int.inj hd) hc0) (fun _ => ?_)
    refine ⟨_, rfl, _, rfl, a, c, rfl, ?_⟩
    repeat (walk_at "rd")
    refine iteD (fun hd => ?_) (fun hd => ?_)
    · refine ⟨_, rfl, _, rfl, _, rfl, _, rfl, _, _, rfl, rfl, gw2, _, rfl, _, rfl, _, _, rfl, rfl, gw2, (show 2 ≤ sizeLine by decide), fun p np => ?_⟩
      obtain ⟨e1, e2⟩ := divInt_num_neg (a := a) hd
      exact q _ _ (same_new np) (PtV.new e1 e2)
    · refine ⟨_, rfl, _, rfl, _, _, rfl, rfl, gw1, _, rfl, _, rfl, _, _, rfl, rfl, gw1, (show 2 ≤ sizeLine by decide), fun p np => ?_⟩
      obtain ⟨e1, e2⟩ := divInt_num_eq (a := a) (show 0 < c by omega)
      refine q _ _ (same_new np) (PtV.new ?_ ?_)
      · exact e1.trans (Int.fdiv_eq_ediv_of_nonneg a (by exact Int.le_of_lt g0)).symm
      · exact e2.trans (Int.fdiv_eq_ediv_of_nonneg c (by exact Int.le_of_lt g0)).symm
theorem ok_plus (T : Tops K mg) (D_part : DefOk P w K mg base 1 "part" ps_part (spPart K)) : DefOk P w K mg base 2 "plus" ps_plus (spTwo K (fun _ _ => True) fun x y => x + y) := by
  refine T.d_plus.ok sc_plus (fun vs H Q E h => ?_) (fun f cdv A outer s H vs Q E hr h => ?_)
  · unfold spTwo at h
    obtain ⟨_, _, _, _, rfl, _⟩ := h
    rfl
  · unfold spTwo at h
    obtain ⟨v, u, x, y, rfl, ⟨a, rfl, ha⟩, ⟨b, rfl, hb⟩, sx, sy, _, q⟩ := h
    refine ⟨_, (pss_one (ps_ret (pe_callD D_part hr (by decide) (by rfl) (pa_cons (pe_op op_add (pe_op op_mulA (pe_ix ix_tup (pv 0) pe_int (fun _ _ => rfl)) (pe_ix ix_tup (pv 1) pe_int (fun _ _ => rfl))) (pe_op op_mulA (pe_ix ix_tup (pv 1) pe_int (fun _ _ => rfl)) (pe_ix ix_tup (pv 0) pe_int (fun _ _ => rfl)))) (pa_cons (pe_op op_mulA (pe_ix ix_tup (pv 0) pe_int (fun _ _ => rfl)) (pe_ix ix_tup (pv 1) pe_int (fun _ _ => rfl))) pa_nil))))), ?_⟩
    obtain ⟨x1, x2⟩ := sz_abs sx
    obtain ⟨y1, y2⟩ := sz_abs sy
    repeat (walk_at "rd")
    refine ⟨_, _, rfl, Int.ne_of_gt (Int.mul_pos (den_pos x) (den_pos y)), pow_mono_lt (natAbs_add_lt (natAbs_mul_lt x1 y2) (natAbs_mul_lt y1 x2)) (by decide), pow_mono_lt (natAbs_mul_lt x2 y2) (by decide), fun v H' s hv => q v H' s ?_⟩
    rw [dv_add] at hv
    exact hv
theorem ok_less (T : Tops K mg)  : DefOk P w K mg base 1 "less" ps_less (spLess K) := by
  refine T.d_less.ok sc_less (fun vs H Q E h => ?_) (fun f cdv A outer s H vs Q E hr h => ?_)
  · unfold spLess at h
    obtain ⟨_, _, _, _, rfl, _⟩ := h
    rfl
  · unfold spLess at h
    obtain ⟨v, u, x, y, rfl, ⟨a, rfl, ha⟩, ⟨b, rfl, hb⟩, sx, sy, q⟩ := h
    refine ⟨_, (pss_one (ps_ret (pe_cmpR op_lt (pe_op op_mulA (pe_ix ix_tup (pv 0) pe_int (fun _ _ => rfl)) (pe_ix ix_tup (pv 1) pe_int (fun _ _ => rfl))) (pe_op op_mulA (pe_ix ix_tup (pv 1) pe_int (fun _ _ => rfl)) (pe_ix ix_tup (pv 0) pe_int (fun _ _ => rfl))) (nomark _)))), ?_⟩
    obtain ⟨x1, x2⟩ := sz_abs sx
    obtain ⟨y1, y2⟩ := sz_abs sy
    repeat (walk_at "rd")
    have e : decide (x < y) = decide (x.num * y.den < y.num * x.den) := decide_eq_decide.mpr (Rat.lt_iff x y)
    refine q _ ?_
    rw [e]
theorem ok_is_box (T : Tops K mg) (D_is_part : DefOk P w K mg base 2 "is_part" ps_is_part (spIsPart K)) (D_less : DefOk P w K mg base 1 "less" ps_less (spLess K)) : DefOk P w K mg base 3 "is_box" ps_is_box (spIsBox K) := by
  refine T.d_is_box.ok sc_is_box (fun vs H Q E h => ?_) (fun f cdv A outer s H vs Q E hr h => ?_)
  · unfold spIsBox at h
    obtain ⟨_, _, rfl, _⟩ := h
    rfl
  · unfold spIsBox at h
    obtain ⟨v, b, rfl, ⟨a, v1, v2, v3, v4, rfl, hB⟩, hO, q⟩ := h
    obtain ⟨na_NOUGHT, mg_NOUGHT, hN⟩ := T.m_NOUGHT
    refine ⟨_, (pss_cons (ps_if (PW.pt (pw_or (pt_not (pt_val (pe_callB call_isiI (by rfl) T.m_isinstance (by decide +kernel) (pa_cons (pv 0) (pa_cons (pe_bltn (v := V.ty "tuple") (u := Value.type "tuple") (by rfl) T.m_tuple (by decide +kernel) rfl) pa_nil))))) (pw_or1 (pt_cmpR op_ne (pe_callB call_len_seq (by rfl) T.m_len PySem.boot_len (pa_cons (pv 0) pa_nil)) pe_int (nomark _))))) (pss_one (ps_ret pe_bl)) pss_nil) (pss_cons (ps_if (pt_not (pt_val (pe_callB (cr_all rfl) (by rfl) T.m_all (by decide +kernel) (pa_cons (pe_lc (own := [("number", 1)]) (g := gName 1) (by rfl) sc_is_box.nd (pi_tup (pv 0)) (blkOk_by (own := [("number", 1)]) (N := ["thing", "number"]) (sc := defScope s_is_box) (by decide +kernel)) (fun _ _ _ _ _ => (pg_name (i := 1) sc_is_box.nd rfl (.inl rfl))) (fun _ _ _ _ _ => pts_nil) (fun _ _ _ _ _ => (pe_callD D_is_part hr (by decide) (by rfl) (pa_cons (pv 1) pa_nil)))) pa_nil)))) (pss_one (ps_ret pe_bl)) pss_nil) (pss_one (ps_ret (pe_and (pe_callD D_less hr (by decide) (by rfl) (pa_cons (pe_glob (v := V.ref na_NOUGHT) (by rfl) mg_NOUGHT rfl) (pa_cons (pe_ix ix_tup (pv 0) pe_int (fun _ _ => rfl)) pa_nil))) (pe_one (pe_callD D_less hr (by decide) (by rfl) (pa_cons (pe_glob (v := V.ref na_NOUGHT) (by rfl) mg_NOUGHT rfl) (pa_cons (pe_ix ix_tup (pv 0) pe_int (fun _ _ => rfl)) pa_nil))))))))), ?_⟩
    have ha := hB.1
    have hd : Dp K H (.ref a) (dBox b) := BxV.dp ⟨a, v1, v2, v3, v4, rfl, hB⟩
    refine ⟨_, rfl, isi_step "tuple" "tuple" true hd rfl (by decide +kernel) ⟨_, rfl, ?_⟩⟩
    refine ⟨_, rfl, a, _, rfl, .inr ha, rfl, _, rfl, ?_⟩
    -- all([is_part(number) for number in thing])
    refine ⟨_, rfl, a, rfl, ⟨_, ha⟩, fun D nD => ?_⟩
    refine lc_tup (xs := [v1, v2, v3, v4]) (fun i H' => Same H H' ∧ H' D = some (.lst ((List.replicate i true).map V.bl))) ⟨same_new nD, upd_same⟩ (fun i H' _ z => seqT_same z.1 ha) ?_ ?_
    · rintro i x H' hx ⟨sH, hD⟩
      have hp : ∃ q, PtV K H' x q := by
        have h := hB.same sH
        match i, hx with
        | 0, hx => cases hx; exact ⟨_, h.2.1⟩
        | 1, hx => cases hx; exact ⟨_, h.2.2.1⟩
        | 2, hx => cases hx; exact ⟨_, h.2.2.2.1⟩
        | 3, hx => cases hx; exact ⟨_, h.2.2.2.2⟩
      obtain ⟨q1, hq1⟩ := hp
      have hi : i < 4 := (List.getElem?_eq_some_iff.mp hx).1
      refine ⟨rfl, ⟨_, rfl, ispart_step hq1 ⟨_, hD, ?_, ?_, ?_⟩⟩⟩
      · rw [List.length_map, List.length_replicate]
        exact small1000 (by omega)
      · intro c o hc
        rw [upd_ne (ne_of_none hc nD)]
        exact sH _ _ hc
      · rw [upd_same, List.replicate_succ', List.map_append]
        rfl
    · rintro H' ⟨sH, hD⟩
      refine ⟨D, List.replicate 4 true, rfl, SqL.of hD, _, rfl, ?_⟩
      have hB' := hB.same sH
      have z0 : Sz 3900 (0 : Rat) := ⟨Nat.pow_pos (by decide), Nat.one_lt_two_pow (by decide)⟩
      refine ⟨_, rfl, a, _, _, _, rfl, rfl, hB'.1, rfl, less_step (hN H') hB'.2.2.2.1 z0 hO.sw (Nat.le_refl _) (Nat.le_refl _) ⟨true, congrArg V.bl (decide_eq_true hO.w0), ?_⟩⟩
      refine ⟨_, rfl, a, _, _, _, rfl, rfl, hB'.1, rfl, less_step (hN H') hB'.2.2.2.2 z0 hO.sh (Nat.le_refl _) (Nat.le_refl _) ?_⟩
      exact q _ _ sH (congrArg V.bl (decide_eq_true hO.h0))
theorem ok_lies_in (T : Tops K mg) (D_plus : DefOk P w K mg base 2 "plus" ps_plus (spTwo K (fun _ _ => True) fun x y => x + y)) (D_less : DefOk P w K mg base 1 "less" ps_less (spLess K)) : DefOk P w K mg base 3 "_lies_in" ps__lies_in (spStretch K) := by
  refine T.d_lies_in.ok sc__lies_in (fun vs H Q E h => ?_) (fun f cdv A outer s H vs Q E hr h => ?_)
  · unfold spStretch at h
    obtain ⟨_, _, _, _, _, _, rfl, _⟩ := h
    rfl
  · unfold spStretch at h
    obtain ⟨v1, v2, v3, x, l, p, rfl, h1, h2, h3, z1, z2, z3, q⟩ := h
    refine ⟨_, (pss_one (ps_ret (pe_and (pe_not (pe_callD D_less hr (by decide) (by rfl) (pa_cons (pv 2) (pa_cons (pv 0) pa_nil)))) (pe_one (pe_callD D_less hr (by decide) (by rfl) (pa_cons (pv 2) (pa_cons (pe_callD D_plus hr (by decide) (by rfl) (pa_cons (pv 0) (pa_cons (pv 1) pa_nil))) pa_nil))))))), ?_⟩
    refine ⟨_, rfl, _, rfl, less_step h3 h1 z3 z1 (by decide) (by decide) ⟨_, rfl, !decide (p < x), rfl, ?_⟩⟩
    refine iteB (fun e => ?_) (fun e => ?_)
    · refine ⟨_, rfl, _, rfl, _, rfl, two_step h1 h2 z1 z2 (by decide) (by decide) trivial fun u H1 s1 hu => ?_⟩
      refine less_step (h3.same s1) hu z3 (sz_add z1 z2 (Nat.le_refl _)) (by decide) (by decide) (q _ H1 s1 ?_)
      rw [e, Bool.true_and]
    · refine q _ H (Same.refl H) ?_
      rw [e, Bool.false_and]
theorem ok_check_box (T : Tops K mg) (D_is_box : DefOk P w K mg base 3 "is_box" ps_is_box (spIsBox K)) : DefOk P w K mg base 4 "check_box" ps_check_box (spCheck K) := by
  refine T.d_check_box.ok sc_check_box (fun vs H Q E h => ?_) (fun f cdv A outer s H vs Q E hr h => ?_)
  · unfold spCheck at h
    obtain ⟨_, _, rfl, _⟩ := h
    rfl
  · unfold spCheck at h
    obtain ⟨v, b, rfl, hB, hO, q⟩ := h
    refine ⟨_, (pss_one (ps_if (pt_not (pt_val (pe_callD D_is_box hr (by decide) (by rfl) (pa_cons (pv 0) pa_nil)))) (pss_one ps_never) pss_nil)), ?_⟩
    refine ⟨_, rfl, isbox_step hB hO (Nat.le_refl _) fun H' s1 => ⟨_, rfl, ?_⟩⟩
    exact q _ _ s1 rfl
theorem ok_holds (T : Tops K mg) (D_lies_in : DefOk P w K mg base 3 "_lies_in" ps__lies_in (spStretch K)) (D_check_box : DefOk P w K mg base 4 "check_box" ps_check_box (spCheck K)) : DefOk P w K mg base 5 "holds" ps_holds (spLies K) := by
  refine T.d_holds.ok sc_holds (fun vs H Q E h => ?_) (fun f cdv A outer s H vs Q E hr h => ?_)
  · unfold spLies at h
    obtain ⟨_, _, _, _, _, _, rfl, _⟩ := h
    rfl
  · unfold spLies at h
    obtain ⟨v1, v2, v3, b, x, y, rfl, hV, hx, hy, hO, zx, zy, q⟩ := h
    refine ⟨_, (pss_cons (ps_expr (pe_callD D_check_box hr (by decide) (by rfl) (pa_cons (pv 0) pa_nil))) (pss_cons (ps_asg (pv 0) (pg_tup rfl (pgs_cons (pg_name (i := 3) sc_holds.nd rfl (.inl rfl)) (pgs_cons (pg_name (i := 4) sc_holds.nd rfl (.inl rfl)) (pgs_cons (pg_name (i := 5) sc_holds.nd rfl (.inl rfl)) (pgs_cons (pg_name (i := 6) sc_holds.nd rfl (.inl rfl)) pgs_nil)))))) (pss_one (ps_ret (pe_and (pe_callD D_lies_in hr (by decide) (by rfl) (pa_cons (pv 3) (pa_cons (pv 5) (pa_cons (pv 1) pa_nil)))) (pe_one (pe_callD D_lies_in hr (by decide) (by rfl) (pa_cons (pv 4) (pa_cons (pv 6) (pa_cons (pv 2) pa_nil)))))))))), ?_⟩
    refine ⟨_, rfl, check_step hV hO (by decide) fun H1 s1 => ?_⟩
    obtain ⟨a, u1, u2, u3, u4, rfl, hA⟩ := hV.same s1
    refine ⟨_, rfl, a, _, rfl, hA.1, rfl, _, _, rfl, _, _, rfl, _, _, rfl, _, _, rfl, rfl, ?_⟩
    refine ⟨_, rfl, _, rfl, _, rfl, stretch_step hA.2.1 hA.2.2.2.1 (hx.same s1) hO.sl hO.sw zx (by decide) (by decide) (by decide) fun H2 s2 => ⟨_, rfl, ?_⟩⟩
    have hA := hA.same s2
    refine iteB (fun e => ?_) (fun e => ?_)
    · refine ⟨_, rfl, _, rfl, _, rfl, stretch_step hA.2.2.1 hA.2.2.2.2 ((hy.same s1).same s2) hO.st hO.sh zy (by decide) (by decide) (by decide) fun H3 s3 => ?_⟩
      refine q _ H3 (s1.trans (s2.trans s3)) ?_
      unfold lies
      rw [e, Bool.true_and]
    · refine q _ H2 (s1.trans s2) ?_
      unfold lies
      rw [e, Bool.false_and]
theorem ok_law_bag (T : Tops K mg)  : DefOk P w K mg base 1 "_law_bag" ps__law_bag (spBag K) := by
  refine T.d_law_bag.ok sc__law_bag (fun vs H Q E h => ?_) (fun f cdv A outer s H vs Q E hr h => ?_)
  · obtain ⟨a, ns, rfl, _⟩ := h
    rfl
  · obtain ⟨a, ns, rfl, hS, hlen, q⟩ := h
    refine ⟨_, (pss_one (ps_ret (pe_lst (pa_cons (pe_callTy call_list_of (by rfl) T.m_list (by decide +kernel) (pa_cons (pe_slice sl_list (pv 0) po_none (po_some pe_int)) pa_nil)) (pa_cons pe_int (pa_cons pe_int (pa_cons (pe_op op_add pe_int (pe_callB call_len_seq (by rfl) T.m_len PySem.boot_len (pa_cons (pe_slice sl_list (pv 0) po_none (po_some pe_int)) pa_nil))) (pa_cons pe_int pa_nil)))))))), ?_⟩
    have ec : cutV (ns.map V.int) none (some 63) = ns.map V.int := cut63 (by rw [List.length_map]; exact hlen)
    refine ⟨_, rfl, _, rfl, a, _, rfl, hS, fun p np => ⟨p, _, rfl, .inl (SqL.of upd_same), fun l nl => ?_⟩⟩
    rw [ec] at nl ⊢
    have s1 : Same H (upd H p (.lst (ns.map V.int))) := same_new np
    have s2 := s1.trans (same_new (o := .lst (ns.map V.int)) nl)
    refine ⟨_, rfl, _, rfl, a, _, rfl, s2.seq hS, fun p2 np2 => ⟨p2, _, rfl, .inl (SqL.of upd_same), ?_⟩⟩
    refine ⟨_, _, rfl, rfl, (show 5 ≤ sizeLine by decide), fun b nb => q b _ ?_ ?_ ?_⟩
    · exact (s2.trans (same_new np2)).free nb
    · exact (s2.trans (same_new np2)).trans (same_new nb)
    · have hl0 : (upd (upd H p (.lst (ns.map V.int))) l (.lst (ns.map V.int))) l = some (.lst (ns.map V.int)) := upd_same
      have s3 := (same_new (o := .lst (cutV (ns.map V.int) none (some 63))) np2).trans (same_new (o := HO.lst [V.ref l, V.int 0, V.int 0, V.int (9103 + ((cutV (ns.map V.int) none (some 63)).length : Nat)), V.int 0]) nb)
      refine ⟨l, ns, 0, 0, _, 0, upd_same, s3 _ _ hl0, ?_, hlen, Int.le_refl 0, ?_, ?_⟩
      · exact ne_of_none (same_new np2 _ _ hl0) nb
      all_goals
        rw [ec, List.length_map]
        omega
theorem ok_law_get (T : Tops K mg)  : DefOk P w K mg base 1 "_law_get" ps__law_get spGet := by
  refine T.d_law_get.ok sc__law_get (fun vs H Q E h => ?_) (fun f cdv A outer s H vs Q E hr h => ?_)
  · obtain ⟨a, c, rfl, _⟩ := h
    rfl
  · obtain ⟨b, m, rfl, hB, hm0, hm1, q⟩ := h
    refine ⟨_, (C8.pss_cut (ps_if (PW.pt (pw_and (pt_cmpR op_lt (pe_ix ix_list (pv 0) pe_int (fun _ _ => rfl)) (pv 1) (nomark _)) (pw_and1 (pt_cmpR op_lt (pe_ix ix_list (pv 0) pe_int (fun _ _ => rfl)) (pe_callB call_len_seq (by rfl) T.m_len PySem.boot_len (pa_cons (pe_ix ix_list (pv 0) pe_int (fun _ _ => rfl)) pa_nil)) (nomark _))))) (pss_cons (ps_set (i := 2) sc__law_get.nd rfl (.inl rfl) (pe_ix ix_list (pe_ix ix_list (pv 0) pe_int (fun _ _ => rfl)) (pe_ix ix_list (pv 0) pe_int (fun _ _ => rfl)) (fun _ _ => rfl))) (pss_cons (ps_asg (pe_op op_add (pe_ix ix_list (pv 0) pe_int (fun _ _ => rfl)) pe_int) (pg_sub (pv 0) pe_int set_list)) (pss_cons (ps_asg (pe_ifExp (pt_cmpR op_ge (pv 2) (pe_op op_pow pe_int pe_int) (nomark _)) (pe_op op_sub (pv 2) (pe_op op_pow pe_int pe_int)) pe_int) (pg_sub (pv 0) pe_int set_list)) (pss_one (ps_asg (pe_op op_mod (pe_op op_add (pe_op op_add (pe_op op_mulA (pe_ix ix_list (pv 0) pe_int (fun _ _ => rfl)) pe_int) (pe_op op_mulA (pv 2) pe_int)) (pe_op op_mulA pe_int (pe_ix ix_list (pv 0) pe_int (fun _ _ => rfl)))) pe_int) (pg_sub (pv 0) pe_int set_list)))))) pss_nil) (pss_cons (ps_if (pt_cmpR op_ge (pe_ix ix_list (pv 0) pe_int (fun _ _ => rfl)) (pv 1) (nomark _)) (pss_cons (ps_set (i := 3) sc__law_get.nd rfl (.inl rfl) (pe_op op_mod (pe_ix ix_list (pv 0) pe_int (fun _ _ => rfl)) (pv 1))) (pss_cons (ps_asg (pe_op op_fdiv (pe_ix ix_list (pv 0) pe_int (fun _ _ => rfl)) (pv 1)) (pg_sub (pv 0) pe_int set_list)) (pss_one (ps_ret (pv 3))))) pss_nil) (pss_cons (ps_asg (pe_op op_add (pe_ix ix_list (pv 0) pe_int (fun _ _ => rfl)) pe_int) (pg_sub (pv 0) pe_int set_list)) (pss_cons (ps_set (i := 4) sc__law_get.nd rfl (.inl rfl) (pe_ix ix_list (pv 0) pe_int (fun _ _ => rfl))) (pss_cons (ps_asg (pe_op op_mod (pe_op op_add (pe_op op_add (pe_op op_add (pe_op op_mulA (pv 4) (pv 4)) (pe_op op_mulA pe_int (pv 4))) (pe_op op_mulA pe_int (pe_ix ix_list (pv 0) pe_int (fun _ _ => rfl)))) pe_int) pe_int) (pg_sub (pv 0) pe_int set_list)) (pss_one (ps_ret (pe_op op_mod (pe_op op_add (pe_op op_fdiv (pe_ix ix_list (pv 0) pe_int (fun _ _ => rfl)) pe_int) (pe_op op_mulA (pe_op op_fdiv (pv 4) pe_int) pe_int)) (pv 1))))))))), ?_⟩
    obtain ⟨c, ns, p, r, x, z, hb, hc, hcb, hl, hp, hx0, hx1⟩ := id hB
    refine ⟨fun σ' H' => ∃ v2, σ' = [some (.ref b), some (.int m), v2, none, none] ∧ Bag H' b ∧ Kp b H H', ?_, ?_⟩
    · repeat (walk_at "rd")
      refine iteD (fun hd => ?_) (fun hd => ?_)
      · repeat (walk_at "rd")
        refine iteD (fun hd2 => ?_) (fun hd2 => ?_)
        · rw [List.length_map] at hd2
          have hp2 : p.toNat < ns.length := by omega
          have ecell : atI (ns.map V.int) p = some (.int ns[p.toNat]) := by
            have e : p = ((p.toNat : Nat) : Int) := by omega
            have h := atI_nat (xs := ns.map V.int) (j := p.toNat) (v := .int ns[p.toNat]) (by rw [List.getElem?_map, List.getElem?_eq_getElem hp2]; rfl)
            rw [← e] at h
            exact h
          repeat (walk_at "rd")
          refine setL_step (ys := [.ref c, .int (p + 1), .int r, .int x, .int z]) hb (by rfl) (by rfl) fun H1 hb1 k1 => ?_
          repeat (walk_at "rd")
          refine iteD (fun hd3 => ?_) (fun hd3 => ?_)
          all_goals
            repeat (walk_at "rd")
            refine setL_step (ys := [.ref c, .int (p + 1), .int _, .int x, .int z]) hb1 (by rfl) (by rfl) fun H2 hb2 k2 => ?_
            repeat (walk_at "rd")
            refine setL_step (ys := [.ref c, .int (p + 1), .int _, .int _, .int z]) hb2 (by rfl) (by rfl) fun H3 hb3 k3 => ?_
            exact ⟨_, rfl, ⟨c, ns, p + 1, _, _, z, hb3, k3 _ _ (k2 _ _ (k1 _ _ hc hcb) hcb) hcb, hcb, hl, by omega, Int.emod_nonneg _ (by decide), Int.emod_lt_of_pos _ (by decide)⟩, k1.trans (k2.trans k3)⟩
        · exact ⟨_, rfl, hB, Kp.refl _ _⟩
      · repeat (walk_at "rd")
        exact Kp.refl _ _
    · rintro σ' H' ⟨v2, rfl, hB', kp⟩
      obtain ⟨c, ns, p, r, x, z, hb, hc, hcb, hl, hp, hx0, hx1⟩ := hB'
      repeat (walk_at "rd")
      refine iteD (fun hd => ?_) (fun hd => ?_)
      · repeat (walk_at "rd")
        refine setL_step (ys := [.ref c, .int p, .int _, .int x, .int z]) hb (by rfl) (by rfl) fun H1 hb1 k1 => ?_
        refine ⟨_, rfl, q _ H1 (Int.emod_nonneg _ (by omega)) (Int.emod_lt_of_pos _ hm0) ⟨c, ns, p, _, x, z, hb1, k1 _ _ hc hcb, hcb, hl, hp, hx0, hx1⟩ (kp.trans k1)⟩
      · refine ⟨_, rfl, ?_⟩
        repeat (walk_at "rd")
        refine setL_step (ys := [.ref c, .int p, .int r, .int x, .int (z + 1)]) hb (by rfl) (by rfl) fun H1 hb1 k1 => ?_
        repeat (walk_at "rd")
        refine setL_step (ys := [.ref c, .int p, .int r, .int _, .int (z + 1)]) hb1 (by rfl) (by rfl) fun H2 hb2 k2 => ?_
        repeat (walk_at "rd")
        refine q _ H2 (Int.emod_nonneg _ (by omega)) (Int.emod_lt_of_pos _ hm0) ⟨c, ns, p, r, _, _, hb2, k2 _ _ (k1 _ _ hc hcb) hcb, hcb, hl, hp, Int.emod_nonneg _ (by decide), Int.emod_lt_of_pos _ (by decide)⟩ (kp.trans (k1.trans k2))
theorem ok_law_pick (T : Tops K mg) (D_law_get : DefOk P w K mg base 1 "_law_get" ps__law_get spGet) : DefOk P w K mg base 2 "_law_pick" ps__law_pick spPick := by
  refine T.d_law_pick.ok sc__law_pick (fun vs H Q E h => ?_) (fun f cdv A outer s H vs Q E hr h => ?_)
  · unfold spPick at h
    obtain ⟨_, _, _, rfl, _⟩ := h
    rfl
  · unfold spPick at h
    obtain ⟨c, L, xs, rfl, hC, hL, hne, hx0, hx1, q⟩ := h
    refine ⟨_, (pss_one (ps_ret (pe_ix ix_seq (pv 1) (pe_callD D_law_get hr (by decide) (by rfl) (pa_cons (pv 0) (pa_cons (pe_callB call_len_seq (by rfl) T.m_len PySem.boot_len (pa_cons (pv 1) pa_nil)) pa_nil))) (fun _ _ => rfl)))), ?_⟩
    refine ⟨_, rfl, _, rfl, _, rfl, L, xs, rfl, .inl (SqL.of hL), c, _, rfl, hC, by omega, by omega, fun r H' h0 h1 hC' k => ?_⟩
    have hi : r.toNat < xs.length := by omega
    have e : r = ((r.toNat : Nat) : Int) := by omega
    have ha : atI xs r = some xs[r.toNat] := by
      have h := atI_nat (xs := xs) (j := r.toNat) (List.getElem?_eq_getElem hi)
      rw [← e] at h
      exact h
    exact .inl ⟨L, xs, r, _, rfl, rfl, SqL.of (k _ _ hL hne), ha, q _ H' (List.getElem_mem hi) hC' k⟩
theorem ok_law_far (T : Tops K mg) (D_law_get : DefOk P w K mg base 1 "_law_get" ps__law_get spGet) : DefOk P w K mg base 2 "_law_far" ps__law_far spFar := by
  refine T.d_law_far.ok sc__law_far (fun vs H Q E h => ?_) (fun f cdv A outer s H vs Q E hr h => ?_)
  · obtain ⟨a, c, rfl, _⟩ := h
    rfl
  · obtain ⟨b, k, rfl, hB, hk, q⟩ := h
    refine ⟨_, (pss_cons (ps_set (i := 2) sc__law_far.nd rfl (.inl rfl) pe_int) (pss_cons (ps_for PassesOwn.never rfl (pi_range1 rfl T.m_range (pa_cons (pv 1) pa_nil)) (pg_name (i := 3) sc__law_far.nd rfl (.inl rfl)) (pss_one (ps_set (i := 2) sc__law_far.nd rfl (.inl rfl) (pe_op op_add (pe_op op_mulA (pv 2) pe_int) (pe_callD D_law_get hr (by decide) (by rfl) (pa_cons (pv 0) (pa_cons pe_int pa_nil))))))) (pss_one (ps_ret (pv 2))))), ?_⟩
    refine ⟨_, rfl, (k : Int), rfl, by omega, by omega, for_range (lo := 0) (n := k) (fun i σ H' => ∃ (r : Int) (v3 : Option V), σ = [some (.ref b), some (.int k), some (.int r), v3] ∧ 0 ≤ r ∧ r < 1000 ^ i ∧ Bag H' b ∧ Kp b H H') ⟨0, none, rfl, by decide, by decide, hB, Kp.refl _ _⟩ ?_ ?_⟩
    · rintro i σ H1 hi ⟨r, v3, rfl, h0, h1, hB1, k1⟩
      repeat (walk_at "rd")
      refine ⟨b, 1000, rfl, hB1, by decide, by decide, fun r' H2 h0' h1' hB2 k2 => ?_⟩
      refine ⟨_, _, rfl, rfl, _, _, rfl, ?_, ?_, hB2, k1.trans k2⟩
      · show 0 ≤ r * 1000 + r'
        omega
      · show r * 1000 + r' < 1000 ^ (i + 1)
        rw [Int.pow_succ]
        generalize (1000 : Int) ^ i = p at *
        omega
    · rintro σ H1 ⟨r, v3, rfl, h0, h1, hB1, k1⟩
      exact ⟨_, rfl, q r H1 h0 h1 hB1 k1⟩
theorem ok_law_same (T : Tops K mg)  : ∀ n, DefOk P w K mg base n "_law_same" ps__law_same (spSame K n)
  | 0 => defOk_none T.d_law_same fun vs H Q E z => by
    unfold spSame at z
    obtain ⟨_, _, d, _, _, _, h, _⟩ := z
    exact Bool.noConfusion h
  | n + 1 => by
    have D_law_same := ok_law_same T n
    refine T.d_law_same.ok sc__law_same (fun vs H Q E h => ?_) (fun f cdv A outer s H vs Q E hr h => ?_)
    · unfold spSame at h
      obtain ⟨_, _, _, rfl, _⟩ := h
      rfl
    · unfold spSame at h
      obtain ⟨v, u, d, rfl, hv, hu, hd, q⟩ := h
      refine ⟨_, (pss_cons (ps_if (pt_val (pe_callB call_isiI (by rfl) T.m_isinstance (by decide +kernel) (pa_cons (pv 1) (pa_cons (pe_bltn (v := V.ty "dict") (u := Value.type "dict") (by rfl) T.m_dict (by decide +kernel) rfl) pa_nil)))) (pss_cons ps_never (pss_one ps_never)) pss_nil) (pss_cons (ps_if (pt_val (pe_callB call_isiTI (by rfl) T.m_isinstance (by decide +kernel) (pa_cons (pv 1) (pa_cons (pe_tup (pa_cons (pe_bltn (v := V.ty "list") (u := Value.type "list") (by rfl) T.m_list (by decide +kernel) rfl) (pa_cons (pe_bltn (v := V.ty "tuple") (u := Value.type "tuple") (by rfl) T.m_tuple (by decide +kernel) rfl) pa_nil))) pa_nil)))) (pss_cons (ps_if (PW.pt (pw_or (pt_cmpR op_ne (pe_callB call_isiI (by rfl) T.m_isinstance (by decide +kernel) (pa_cons (pv 0) (pa_cons (pe_bltn (v := V.ty "tuple") (u := Value.type "tuple") (by rfl) T.m_tuple (by decide +kernel) rfl) pa_nil))) (pe_callB call_isiI (by rfl) T.m_isinstance (by decide +kernel) (pa_cons (pv 1) (pa_cons (pe_bltn (v := V.ty "tuple") (u := Value.type "tuple") (by rfl) T.m_tuple (by decide +kernel) rfl) pa_nil))) (nomark _)) (pw_or1 (pt_cmpR op_ne (pe_callB call_isiI (by rfl) T.m_isinstance (by decide +kernel) (pa_cons (pv 0) (pa_cons (pe_bltn (v := V.ty "list") (u := Value.type "list") (by rfl) T.m_list (by decide +kernel) rfl) pa_nil))) (pe_callB call_isiI (by rfl) T.m_isinstance (by decide +kernel) (pa_cons (pv 1) (pa_cons (pe_bltn (v := V.ty "list") (u := Value.type "list") (by rfl) T.m_list (by decide +kernel) rfl) pa_nil))) (nomark _))))) (pss_one (ps_ret pe_bl)) pss_nil) (pss_one (ps_ret (pe_and (pe_cmpR op_eq (pe_callB call_len_seq (by rfl) T.m_len PySem.boot_len (pa_cons (pv 0) pa_nil)) (pe_callB call_len_seq (by rfl) T.m_len PySem.boot_len (pa_cons (pv 1) pa_nil)) (nomark _)) (pe_one (pe_callB (cr_all rfl) (by rfl) T.m_all (by decide +kernel) (pa_cons (pe_lc (own := [("_law_one", 3), ("_law_other", 4)]) (g := gTup K 2 (gCons (gName 3) (gCons (gName 4) gNil))) (by rfl) sc__law_same.nd (RZ.pi_zipA (by rfl) T.m_zip (pa_cons (pv 0) (pa_cons (pv 1) pa_nil))) (blkOk_by (own := [("_law_one", 3), ("_law_other", 4)]) (N := ["_law_found", "_law_due", "_law_key_now", "_law_one", "_law_other"]) (sc := defScope s__law_same) (by decide +kernel)) (fun _ _ _ _ _ => (pg_tup rfl (pgs_cons (pg_name (i := 3) sc__law_same.nd rfl (.inl rfl)) (pgs_cons (pg_name (i := 4) sc__law_same.nd rfl (.inl rfl)) pgs_nil)))) (fun _ _ _ _ _ => pts_nil) (fun _ _ _ _ _ => (pe_callD D_law_same hr (Nat.le_refl _) (by rfl) (pa_cons (pv 3) (pa_cons (pv 4) pa_nil))))) pa_nil))))))) pss_nil) (pss_cons (ps_if (PW.pt (pw_or (pt_cmpR op_ne (pe_callB call_isiI (by rfl) T.m_isinstance (by decide +kernel) (pa_cons (pv 1) (pa_cons (pe_bltn (v := V.ty "bool") (u := Value.type "bool") (by rfl) T.m_bool (by decide +kernel) rfl) pa_nil))) (pe_callB call_isiI (by rfl) T.m_isinstance (by decide +kernel) (pa_cons (pv 0) (pa_cons (pe_bltn (v := V.ty "bool") (u := Value.type "bool") (by rfl) T.m_bool (by decide +kernel) rfl) pa_nil))) (nomark _)) (pw_or1 (pt_cmpR op_ne (pe_callB call_isiI (by rfl) T.m_isinstance (by decide +kernel) (pa_cons (pv 1) (pa_cons (pe_bltn (v := V.ty "str") (u := Value.type "str") (by rfl) T.m_str (by decide +kernel) rfl) pa_nil))) (pe_callB call_isiI (by rfl) T.m_isinstance (by decide +kernel) (pa_cons (pv 0) (pa_cons (pe_bltn (v := V.ty "str") (u := Value.type "str") (by rfl) T.m_str (by decide +kernel) rfl) pa_nil))) (nomark _))))) (pss_one (ps_ret pe_bl)) pss_nil) (pss_cons (ps_if (pt_cmpR op_ne (pe_callB call_isiI (by rfl) T.m_isinstance (by decide +kernel) (pa_cons (pv 1) (pa_cons (pe_bltn (v := V.ty "int") (u := Value.type "int") (by rfl) T.m_int (by decide +kernel) rfl) pa_nil))) (pe_callB call_isiI (by rfl) T.m_isinstance (by decide +kernel) (pa_cons (pv 0) (pa_cons (pe_bltn (v := V.ty "int") (u := Value.type "int") (by rfl) T.m_int (by decide +kernel) rfl) pa_nil))) (nomark _)) (pss_one (ps_ret pe_bl)) pss_nil) (pss_one (ps_ret (pe_and (pe_cmpR op_eq (pe_cmpR op_isN (pv 1) pe_non (nomark _)) (pe_cmpR op_isN (pv 0) pe_non (nomark _)) (nomark _)) (pe_one (pe_cmpR (op_eqD hr.units) (pv 0) (pv 1) (nomark _)))))))))), ?_⟩
      have nodict : kitB (tyN d) "dict" = some false := by
        cases d with
        | dict _ => exact Bool.noConfusion hd
        | none => exact (show kitB "NoneType" "dict" = some false by decide +kernel)
        | bool _ => exact (show kitB "bool" "dict" = some false by decide +kernel)
        | int _ => exact (show kitB "int" "dict" = some false by decide +kernel)
        | str _ => exact (show kitB "str" "dict" = some false by decide +kernel)
        | list _ => exact (show kitB "list" "dict" = some false by decide +kernel)
        | tuple _ => exact (show kitB "tuple" "dict" = some false by decide +kernel)
      refine ⟨_, rfl, isi_step _ "dict" false hu rfl nodict ⟨_, rfl, ?_⟩⟩
      have go : ∀ (t : String) (b c : Bool), tyN d = t → kitB t "list" = some b → kitB t "tuple" = some c → ∀ p, H p = none → ∀ (R : VK), R (.bl (b || c)) (upd H p (.tup [.ty "list", .ty "tuple"])) → rIsiTI K [u, .ref p] (upd H p (.tup [.ty "list", .ty "tuple"])) R :=
        fun t b c ht hb hc p np R q => isiT_step (Dp.mono (same_new np) _ _ hu) ht upd_same hb hc q
      refine ⟨_, rfl, (show 2 ≤ sizeLine by decide), fun p np => ?_⟩
      have s1 : Same H (upd H p (.tup [.ty "list", .ty "tuple"])) := same_new np
      have hv1 := Dp.mono s1 _ _ hv
      have hu1 := Dp.mono s1 _ _ hu
      cases d with
      | none =>
        refine go "NoneType" false false rfl (by decide +kernel) (by decide +kernel) p np _ ⟨_, rfl, ?_⟩
        refine ⟨_, rfl, isi_step "NoneType" "bool" false hu1 rfl (by decide +kernel) ⟨_, rfl, isi_step "NoneType" "bool" false hv1 rfl (by decide +kernel) ⟨rfl, _, rfl, iteNS rfl ?_⟩⟩⟩
        refine ⟨_, rfl, isi_step "NoneType" "str" false hu1 rfl (by decide +kernel) ⟨_, rfl, isi_step "NoneType" "str" false hv1 rfl (by decide +kernel) ⟨rfl, _, rfl, iteNS rfl ?_⟩⟩⟩
        refine ⟨_, rfl, isi_step "NoneType" "int" false hu1 rfl (by decide +kernel) ⟨_, rfl, isi_step "NoneType" "int" false hv1 rfl (by decide +kernel) ⟨rfl, _, rfl, iteNS rfl ?_⟩⟩⟩
        refine ⟨_, rfl, rfl, _, rfl, rfl, rfl, true, congrArg V.bl (decide_eq_true (by cases hv; cases hu; rfl)), ?_⟩
        refine ⟨_, rfl, _, rfl, _, _, hv1, hu1, rfl, rfl, q _ _ s1 (congrArg V.bl (show _ = true from rfl))⟩
      | bool b =>
        refine go "bool" false false rfl (by decide +kernel) (by decide +kernel) p np _ ⟨_, rfl, ?_⟩
        refine ⟨_, rfl, isi_step "bool" "bool" true hu1 rfl (by decide +kernel) ⟨_, rfl, isi_step "bool" "bool" true hv1 rfl (by decide +kernel) ⟨rfl, _, rfl, iteNS rfl ?_⟩⟩⟩
        refine ⟨_, rfl, isi_step "bool" "str" false hu1 rfl (by decide +kernel) ⟨_, rfl, isi_step "bool" "str" false hv1 rfl (by decide +kernel) ⟨rfl, _, rfl, iteNS rfl ?_⟩⟩⟩
        refine ⟨_, rfl, isi_step "bool" "int" true hu1 rfl (by decide +kernel) ⟨_, rfl, isi_step "bool" "int" true hv1 rfl (by decide +kernel) ⟨rfl, _, rfl, iteNS rfl ?_⟩⟩⟩
        refine ⟨_, rfl, rfl, _, rfl, rfl, rfl, true, congrArg V.bl (decide_eq_true (by cases hv; cases hu; rfl)), ?_⟩
        refine ⟨_, rfl, _, rfl, _, _, hv1, hu1, rfl, rfl, q _ _ s1 (congrArg V.bl (show _ = true from by cases b <;> rfl))⟩
      | int i =>
        refine go "int" false false rfl (by decide +kernel) (by decide +kernel) p np _ ⟨_, rfl, ?_⟩
        refine ⟨_, rfl, isi_step "int" "bool" false hu1 rfl (by decide +kernel) ⟨_, rfl, isi_step "int" "bool" false hv1 rfl (by decide +kernel) ⟨rfl, _, rfl, iteNS rfl ?_⟩⟩⟩
        refine ⟨_, rfl, isi_step "int" "str" false hu1 rfl (by decide +kernel) ⟨_, rfl, isi_step "int" "str" false hv1 rfl (by decide +kernel) ⟨rfl, _, rfl, iteNS rfl ?_⟩⟩⟩
        refine ⟨_, rfl, isi_step "int" "int" true hu1 rfl (by decide +kernel) ⟨_, rfl, isi_step "int" "int" true hv1 rfl (by decide +kernel) ⟨rfl, _, rfl, iteNS rfl ?_⟩⟩⟩
        refine ⟨_, rfl, rfl, _, rfl, rfl, rfl, true, congrArg V.bl (decide_eq_true (by cases hv; cases hu; rfl)), ?_⟩
        refine ⟨_, rfl, _, rfl, _, _, hv1, hu1, rfl, rfl, q _ _ s1 (congrArg V.bl (show _ = true from beq_self_eq_true i))⟩
      | str x =>
        refine go "str" false false rfl (by decide +kernel) (by decide +kernel) p np _ ⟨_, rfl, ?_⟩
        refine ⟨_, rfl, isi_step "str" "bool" false hu1 rfl (by decide +kernel) ⟨_, rfl, isi_step "str" "bool" false hv1 rfl (by decide +kernel) ⟨rfl, _, rfl, iteNS rfl ?_⟩⟩⟩
        refine ⟨_, rfl, isi_step "str" "str" true hu1 rfl (by decide +kernel) ⟨_, rfl, isi_step "str" "str" true hv1 rfl (by decide +kernel) ⟨rfl, _, rfl, iteNS rfl ?_⟩⟩⟩
        refine ⟨_, rfl, isi_step "str" "int" false hu1 rfl (by decide +kernel) ⟨_, rfl, isi_step "str" "int" false hv1 rfl (by decide +kernel) ⟨rfl, _, rfl, iteNS rfl ?_⟩⟩⟩
        refine ⟨_, rfl, rfl, _, rfl, rfl, rfl, true, congrArg V.bl (decide_eq_true (by cases hv; cases hu; rfl)), ?_⟩
        refine ⟨_, rfl, _, rfl, _, _, hv1, hu1, hd, hd, q _ _ s1 (congrArg V.bl (show _ = true from beq_self_eq_true x))⟩
      | list ds =>
        have hd2 : ds.length ≤ 1000 ∧ ∀ e ∈ ds, dle n e = true := by
          have h := hd
          simp only [dle, Bool.and_eq_true, decide_eq_true_eq, List.all_eq_true] at h
          exact h
        refine go "list" true false rfl (by decide +kernel) (by decide +kernel) p np _ ⟨_, rfl, ?_⟩
        refine ⟨_, rfl, isi_step "list" "tuple" false hv1 rfl (by decide +kernel) ⟨_, rfl, isi_step "list" "tuple" false hu1 rfl (by decide +kernel) ⟨rfl, _, rfl, iteNS rfl ?_⟩⟩⟩
        refine ⟨_, rfl, isi_step "list" "list" true hv1 rfl (by decide +kernel) ⟨_, rfl, isi_step "list" "list" true hu1 rfl (by decide +kernel) ⟨rfl, _, rfl, iteNS rfl ?_⟩⟩⟩
        cases hv1 with
        | @lst a xs _ ha hxs =>
        cases hu1 with
        | @lst b ys _ hb hys =>
        have lx := dpAll_len hxs
        have ly := dpAll_len hys
        refine ⟨_, rfl, a, xs, rfl, .inl ha, _, rfl, b, ys, rfl, .inl hb, rfl, true, congrArg V.bl (decide_eq_true (by rw [lx, ly])), ?_⟩
        refine ⟨_, rfl, _, rfl, a, b, xs, ys, rfl, .inl ⟨ha, hb, fun D nD => ?_⟩⟩
        refine ⟨fun i m H' => i + m = ds.length ∧ Same (upd H p (.tup [.ty "list", .ty "tuple"])) H' ∧ H' D = some (.lst ((List.replicate i true).map V.bl)), ⟨ds.length, by omega, same_new nD, upd_same⟩, ?_⟩
        rintro i m H' ⟨him, sH, hD⟩
        have ha' := seqL_same sH ha
        have hb' := seqL_same sH hb
        by_cases hi : i < ds.length
        · refine .inr ⟨⟨xs, ys, xs[i], ys[i], ha', hb', List.getElem?_eq_getElem (by omega), List.getElem?_eq_getElem (by omega)⟩, fun H2 => (i + 1) + (m - 1) = ds.length ∧ Same (upd H p (.tup [.ty "list", .ty "tuple"])) H2 ∧ H2 D = some (.lst ((List.replicate (i + 1) true).map V.bl)), fun H2 z => ⟨m - 1, by omega, z⟩, ?_⟩
          rintro z H2 ⟨t, x, y, rfl, nt, rfl, hx, hy⟩
          have hx := hx xs ha'
          have hy := hy ys hb'
          obtain ⟨e, he, hxe⟩ := dpAll_get hxs hx
          obtain ⟨e', he', hye⟩ := dpAll_get hys hy
          rw [he] at he'
          cases he'
          have s2 : Same (upd H p (.tup [.ty "list", .ty "tuple"])) (upd H' t (.tup [x, y])) := sH.trans (same_new nt)
          have ntD : D ≠ t := ne_of_none hD nt
          refine ⟨t, [x, y], rfl, SqT.of upd_same, rfl, x, [y], rfl, y, [], rfl, rfl, rfl, ?_⟩
          refine ⟨_, rfl, _, rfl, same_step (Dp.mono s2 _ _ hxe) (Dp.mono s2 _ _ hye) (hd2.2 e (List.mem_of_getElem? he)) fun H3 s3 => ?_⟩
          have hD3 : H3 D = some (.lst ((List.replicate i true).map V.bl)) := s3 _ _ (by rw [upd_ne ntD]; exact hD)
          refine ⟨_, hD3, ?_, by omega, ?_, ?_⟩
          · rw [List.length_map, List.length_replicate]
            exact small1000 (by omega)
          · intro b o hbo
            have hbD : b ≠ D := ne_of_none hbo nD
            rw [upd_ne hbD]
            exact s3 _ _ (s2 _ _ hbo)
          · rw [upd_same, List.replicate_succ', List.map_append]
            rfl
        · refine .inl ⟨⟨xs, ys, ha', hb', .inl (by omega)⟩, ?_⟩
          have ei : i = ds.length := by omega
          refine ⟨D, List.replicate i true, rfl, SqL.of hD, q _ _ (s1.trans sH) ?_⟩
          rw [show (List.replicate i true).all id = true from List.all_eq_true.mpr fun b hb => List.eq_of_mem_replicate hb]
      | tuple ds =>
        have hd2 : ds.length ≤ 1000 ∧ ∀ e ∈ ds, dle n e = true := by
          have h := hd
          simp only [dle, Bool.and_eq_true, decide_eq_true_eq, List.all_eq_true] at h
          exact h
        refine go "tuple" false true rfl (by decide +kernel) (by decide +kernel) p np _ ⟨_, rfl, ?_⟩
        refine ⟨_, rfl, isi_step "tuple" "tuple" true hv1 rfl (by decide +kernel) ⟨_, rfl, isi_step "tuple" "tuple" true hu1 rfl (by decide +kernel) ⟨rfl, _, rfl, iteNS rfl ?_⟩⟩⟩
        refine ⟨_, rfl, isi_step "tuple" "list" false hv1 rfl (by decide +kernel) ⟨_, rfl, isi_step "tuple" "list" false hu1 rfl (by decide +kernel) ⟨rfl, _, rfl, iteNS rfl ?_⟩⟩⟩
        cases hv1 with
        | @tup a xs _ ha hxs =>
        cases hu1 with
        | @tup b ys _ hb hys =>
        have lx := dpAll_len hxs
        have ly := dpAll_len hys
        refine ⟨_, rfl, a, xs, rfl, .inr ha, _, rfl, b, ys, rfl, .inr hb, rfl, true, congrArg V.bl (decide_eq_true (by rw [lx, ly])), ?_⟩
        refine ⟨_, rfl, _, rfl, a, b, xs, ys, rfl, .inr ⟨ha, hb, fun D nD => ?_⟩⟩
        refine ⟨fun i m H' => i + m = ds.length ∧ Same (upd H p (.tup [.ty "list", .ty "tuple"])) H' ∧ H' D = some (.lst ((List.replicate i true).map V.bl)), ⟨ds.length, by omega, same_new nD, upd_same⟩, ?_⟩
        rintro i m H' ⟨him, sH, hD⟩
        have ha' := seqT_same sH ha
        have hb' := seqT_same sH hb
        by_cases hi : i < ds.length
        · refine .inr ⟨⟨xs, ys, xs[i], ys[i], ha', hb', List.getElem?_eq_getElem (by omega), List.getElem?_eq_getElem (by omega)⟩, fun H2 => (i + 1) + (m - 1) = ds.length ∧ Same (upd H p (.tup [.ty "list", .ty "tuple"])) H2 ∧ H2 D = some (.lst ((List.replicate (i + 1) true).map V.bl)), fun H2 z => ⟨m - 1, by omega, z⟩, ?_⟩
          rintro z H2 ⟨t, x, y, rfl, nt, rfl, hx, hy⟩
          have hx := hx xs ha'
          have hy := hy ys hb'
          obtain ⟨e, he, hxe⟩ := dpAll_get hxs hx
          obtain ⟨e', he', hye⟩ := dpAll_get hys hy
          rw [he] at he'
          cases he'
          have s2 : Same (upd H p (.tup [.ty "list", .ty "tuple"])) (upd H' t (.tup [x, y])) := sH.trans (same_new nt)
          have ntD : D ≠ t := ne_of_none hD nt
          refine ⟨t, [x, y], rfl, SqT.of upd_same, rfl, x, [y], rfl, y, [], rfl, rfl, rfl, ?_⟩
          refine ⟨_, rfl, _, rfl, same_step (Dp.mono s2 _ _ hxe) (Dp.mono s2 _ _ hye) (hd2.2 e (List.mem_of_getElem? he)) fun H3 s3 => ?_⟩
          have hD3 : H3 D = some (.lst ((List.replicate i true).map V.bl)) := s3 _ _ (by rw [upd_ne ntD]; exact hD)
          refine ⟨_, hD3, ?_, by omega, ?_, ?_⟩
          · rw [List.length_map, List.length_replicate]
            exact small1000 (by omega)
          · intro b o hbo
            have hbD : b ≠ D := ne_of_none hbo nD
            rw [upd_ne hbD]
            exact s3 _ _ (s2 _ _ hbo)
          · rw [upd_same, List.replicate_succ', List.map_append]
            rfl
        · refine .inl ⟨⟨xs, ys, ha', hb', .inl (by omega)⟩, ?_⟩
          have ei : i = ds.length := by omega
          refine ⟨D, List.replicate i true, rfl, SqL.of hD, q _ _ (s1.trans sH) ?_⟩
          rw [show (List.replicate i true).all id = true from List.all_eq_true.mpr fun b hb => List.eq_of_mem_replicate hb]
      | dict kvs => exact Bool.noConfusion hd
theorem ok_law_gcd (T : Tops K mg)  : DefOk P w K mg base 1 "_law_gcd" ps__law_gcd spGcd := by
  refine T.d_law_gcd.ok sc__law_gcd (fun vs H Q E h => ?_) (fun f cdv A outer s H vs Q E hr h => ?_)
  · obtain ⟨a, c, rfl, _⟩ := h
    rfl
  · obtain ⟨a, c, rfl, ha, hc, q⟩ := h
    refine ⟨_, (pss_cons (ps_while PassesOwn.never (pt_cmpR op_gt (pv 1) pe_int (nomark _)) (pss_one (ps_par (i := 0) (j := 1) (by rfl) sc__law_gcd.nd rfl rfl (by decide) rfl rfl (pa_cons (pv 1) (pa_cons (pe_op op_mod (pv 0) (pv 1)) pa_nil)) (by rfl)))) (pss_one (ps_ret (pv 0)))), ?_⟩
    refine ⟨fun m σ H' => H' = H ∧ ∃ x y : Int, σ = [some (.int x), some (.int y)] ∧ 0 ≤ x ∧ 0 ≤ y ∧ Int.gcd x y = Int.gcd a c ∧ m = y.toNat, ⟨_, rfl, a, c, rfl, ha, hc, rfl, rfl⟩, ?_⟩
    rintro m σ H' ⟨rfl, x, y, rfl, hx, hy, hg, hm⟩
    refine ⟨_, rfl, _, _, rfl, rfl, _, rfl, ?_⟩
    refine ite2 (fun hd => ?_) (fun hd => ?_)
    · have hy0 : 0 < y := of_decide_eq_true hd
      refine ⟨fun σ' H'' => H'' = H' ∧ ∃ x' y' : Int, σ' = [some (.int x'), some (.int y')] ∧ 0 ≤ x' ∧ 0 ≤ y' ∧ Int.gcd x' y' = Int.gcd a c ∧ y'.toNat < m, fun σ' H'' h => ?_, ?_⟩
      · obtain ⟨rfl, x', y', rfl, h1, h2, h3, h4⟩ := h
        exact ⟨_, h4, rfl, x', y', rfl, h1, h2, h3, rfl⟩
      · refine ⟨_, rfl, _, rfl, _, rfl, _, _, rfl, rfl, hy0, _, _, rfl, rfl, y, x % y, rfl, hy, Int.emod_nonneg x (by omega), ?_, ?_⟩
        · rw [← hg, gcd_step]
        · have := Int.emod_lt_of_pos x hy0
          have := Int.emod_nonneg x (show y ≠ 0 by omega)
          omega
    · have hy0 : y = 0 := by
        have : ¬ 0 < y := fun z => hd (decide_eq_true z)
        omega
      subst hy0
      refine ⟨_, rfl, ?_⟩
      have e : ((Int.gcd a c : Nat) : Int) = x := by
        rw [← hg, Int.gcd_zero_right]
        omega
      rw [e] at q
      exact q
theorem ok_law_part (T : Tops K mg) (D_law_gcd : DefOk P w K mg base 1 "_law_gcd" ps__law_gcd spGcd) : DefOk P w K mg base 2 "_law_part" ps__law_part (spPart K) := by
  refine T.d_law_part.ok sc__law_part (fun vs H Q E h => ?_) (fun f cdv A outer s H vs Q E hr h => ?_)
  · obtain ⟨a, c, rfl, _⟩ := h
    rfl
  · obtain ⟨a, c, rfl, hc0, ha, hc, q⟩ := h
    refine ⟨_, (C8.pss_cut (ps_if (pt_cmpR op_lt (pv 1) pe_int (nomark _)) (pss_one (ps_par (i := 0) (j := 1) (by rfl) sc__law_part.nd rfl rfl (by decide) rfl rfl (pa_cons (pe_op op_sub pe_int (pv 0)) (pa_cons (pe_op op_sub pe_int (pv 1)) pa_nil)) (by rfl))) pss_nil) (pss_cons (ps_set (i := 2) sc__law_part.nd rfl (.inl rfl) (pe_callD D_law_gcd hr (by decide) (by rfl) (pa_cons (pe_callB call_abs (by rfl) T.m_abs (by decide +kernel) (pa_cons (pv 0) pa_nil)) (pa_cons (pv 1) pa_nil)))) (pss_one (ps_ret (pe_tup (pa_cons (pe_op op_fdivA (pv 0) (pv 2)) (pa_cons (pe_op op_fdivA (pv 1) (pv 2)) pa_nil))))))), ?_⟩
    refine ⟨fun σ' H' => H' = H ∧ ∃ a' c' : Int, σ' = [some (.int a'), some (.int c'), none] ∧ 0 < c' ∧ Rat.divInt a' c' = Rat.divInt a c ∧ a'.natAbs = a.natAbs ∧ c'.natAbs = c.natAbs, ?_, ?_⟩
    · repeat (walk_at "rd")
      refine iteD (fun hd => ?_) (fun hd => ?_)
      · refine ⟨_, rfl, _, _, rfl, rfl, _, rfl, _, _, rfl, rfl, _, _, rfl, rfl, 0 - a, 0 - c, rfl, by omega, ?_, by omega, by omega⟩
        rw [Int.zero_sub, Int.zero_sub, Rat.neg_divInt_neg]
      · exact ⟨rfl, a, c, rfl, by omega, rfl, rfl, rfl⟩
    · rintro σ' H' ⟨rfl, a', c', rfl, hc', he, ea, ec⟩
      refine ⟨_, rfl, _, rfl, _, rfl, _, c', rfl, ?_, by omega, ?_⟩
      · split <;> omega
      have eg : Int.gcd (if a' < 0 then -a' else a') c' = Int.gcd a' c' := by
        split
        · rw [Int.neg_gcd]
        · rfl
      rw [eg]
      have g0 : (0 : Int) < ((Int.gcd a' c' : Nat) : Int) := by
        have := Int.gcd_pos_of_ne_zero_right a' (show c' ≠ 0 by omega)
        omega
      have g1 : ((Int.gcd a' c' : Nat) : Int) ≤ c' := Int.gcd_le_right a' hc'
      have gw : CDivA a' ((Int.gcd a' c' : Nat) : Int) := ⟨by omega, Nat.lt_of_le_of_lt (show _ ≤ c.natAbs by omega) (pow_mono_lt hc (by decide))⟩
      obtain ⟨e1, e2⟩ := divInt_num_eq (a := a') hc'
      refine ⟨_, rfl, _, rfl, _, _, rfl, rfl, gw, _, rfl, _, rfl, _, _, rfl, rfl, gw, (show 2 ≤ sizeLine by decide), fun p np => ?_⟩
      refine q _ _ (same_new np) (PtV.new ?_ ?_)
      · rw [← he, e1, Int.fdiv_eq_ediv_of_nonneg a' (by omega)]
      · rw [← he, e2, Int.fdiv_eq_ediv_of_nonneg c' (by omega)]
theorem ok_law_plus (T : Tops K mg) (D_law_part : DefOk P w K mg base 2 "_law_part" ps__law_part (spPart K)) : DefOk P w K mg base 3 "_law_plus" ps__law_plus (spTwo K (fun _ _ => True) fun x y => x + y) := by
  refine T.d_law_plus.ok sc__law_plus (fun vs H Q E h => ?_) (fun f cdv A outer s H vs Q E hr h => ?_)
  · unfold spTwo at h
    obtain ⟨_, _, _, _, rfl, _⟩ := h
    rfl
  · unfold spTwo at h
    obtain ⟨v, u, x, y, rfl, ⟨a, rfl, ha⟩, ⟨b, rfl, hb⟩, sx, sy, _, q⟩ := h
    refine ⟨_, (pss_one (ps_ret (pe_callD D_law_part hr (by decide) (by rfl) (pa_cons (pe_op op_add (pe_op op_mulA (pe_ix ix_tup (pv 0) pe_int (fun _ _ => rfl)) (pe_ix ix_tup (pv 1) pe_int (fun _ _ => rfl))) (pe_op op_mulA (pe_ix ix_tup (pv 1) pe_int (fun _ _ => rfl)) (pe_ix ix_tup (pv 0) pe_int (fun _ _ => rfl)))) (pa_cons (pe_op op_mulA (pe_ix ix_tup (pv 0) pe_int (fun _ _ => rfl)) (pe_ix ix_tup (pv 1) pe_int (fun _ _ => rfl))) pa_nil))))), ?_⟩
    obtain ⟨x1, x2⟩ := sz_abs sx
    obtain ⟨y1, y2⟩ := sz_abs sy
    repeat (walk_at "rd")
    refine ⟨_, _, rfl, Int.ne_of_gt (Int.mul_pos (den_pos x) (den_pos y)), pow_mono_lt (natAbs_add_lt (natAbs_mul_lt x1 y2) (natAbs_mul_lt y1 x2)) (by decide), pow_mono_lt (natAbs_mul_lt x2 y2) (by decide), fun v H' s hv => q v H' s ?_⟩
    rw [dv_add] at hv
    exact hv
theorem ok_law_minus (T : Tops K mg) (D_law_part : DefOk P w K mg base 2 "_law_part" ps__law_part (spPart K)) : DefOk P w K mg base 3 "_law_minus" ps__law_minus (spTwo K (fun _ _ => True) fun x y => x - y) := by
  refine T.d_law_minus.ok sc__law_minus (fun vs H Q E h => ?_) (fun f cdv A outer s H vs Q E hr h => ?_)
  · unfold spTwo at h
    obtain ⟨_, _, _, _, rfl, _⟩ := h
    rfl
  · unfold spTwo at h
    obtain ⟨v, u, x, y, rfl, ⟨a, rfl, ha⟩, ⟨b, rfl, hb⟩, sx, sy, _, q⟩ := h
    refine ⟨_, (pss_one (ps_ret (pe_callD D_law_part hr (by decide) (by rfl) (pa_cons (pe_op op_sub (pe_op op_mulA (pe_ix ix_tup (pv 0) pe_int (fun _ _ => rfl)) (pe_ix ix_tup (pv 1) pe_int (fun _ _ => rfl))) (pe_op op_mulA (pe_ix ix_tup (pv 1) pe_int (fun _ _ => rfl)) (pe_ix ix_tup (pv 0) pe_int (fun _ _ => rfl)))) (pa_cons (pe_op op_mulA (pe_ix ix_tup (pv 0) pe_int (fun _ _ => rfl)) (pe_ix ix_tup (pv 1) pe_int (fun _ _ => rfl))) pa_nil))))), ?_⟩
    obtain ⟨x1, x2⟩ := sz_abs sx
    obtain ⟨y1, y2⟩ := sz_abs sy
    repeat (walk_at "rd")
    refine ⟨_, _, rfl, Int.ne_of_gt (Int.mul_pos (den_pos x) (den_pos y)), pow_mono_lt (natAbs_sub_lt (natAbs_mul_lt x1 y2) (natAbs_mul_lt y1 x2)) (by decide), pow_mono_lt (natAbs_mul_lt x2 y2) (by decide), fun v H' s hv => q v H' s ?_⟩
    rw [dv_sub] at hv
    exact hv
theorem ok_law_less (T : Tops K mg)  : DefOk P w K mg base 1 "_law_less" ps__law_less (spLess K) := by
  refine T.d_law_less.ok sc__law_less (fun vs H Q E h => ?_) (fun f cdv A outer s H vs Q E hr h => ?_)
  · unfold spLess at h
    obtain ⟨_, _, _, _, rfl, _⟩ := h
    rfl
  · unfold spLess at h
    obtain ⟨v, u, x, y, rfl, ⟨a, rfl, ha⟩, ⟨b, rfl, hb⟩, sx, sy, q⟩ := h
    refine ⟨_, (pss_one (ps_ret (pe_cmpR op_lt (pe_op op_mulA (pe_ix ix_tup (pv 0) pe_int (fun _ _ => rfl)) (pe_ix ix_tup (pv 1) pe_int (fun _ _ => rfl))) (pe_op op_mulA (pe_ix ix_tup (pv 1) pe_int (fun _ _ => rfl)) (pe_ix ix_tup (pv 0) pe_int (fun _ _ => rfl))) (nomark _)))), ?_⟩
    obtain ⟨x1, x2⟩ := sz_abs sx
    obtain ⟨y1, y2⟩ := sz_abs sy
    repeat (walk_at "rd")
    have e : decide (x < y) = decide (x.num * y.den < y.num * x.den) := decide_eq_decide.mpr (Rat.lt_iff x y)
    refine q _ ?_
    rw [e]
theorem ok_law_number (T : Tops K mg) (D_law_get : DefOk P w K mg base 1 "_law_get" ps__law_get spGet) (D_law_far : DefOk P w K mg base 2 "_law_far" ps__law_far spFar) : DefOk P w K mg base 3 "_law_number" ps__law_number spNumber := by
  refine T.d_law_number.ok sc__law_number (fun vs H Q E h => ?_) (fun f cdv A outer s H vs Q E hr h => ?_)
  · obtain ⟨a, rfl, _⟩ := h
    rfl
  · obtain ⟨b, rfl, hB, q⟩ := h
    refine ⟨_, (pss_cons (ps_set (i := 1) sc__law_number.nd rfl (.inl rfl) (pe_callD D_law_get hr (by decide) (by rfl) (pa_cons (pv 0) (pa_cons pe_int pa_nil)))) (pss_cons (ps_if (pt_cmpR op_lt (pv 1) pe_int (nomark _)) (pss_one (ps_ret (pe_op op_sub (pe_callD D_law_get hr (by decide) (by rfl) (pa_cons (pv 0) (pa_cons pe_int pa_nil))) pe_int))) pss_nil) (pss_cons (ps_if (pt_cmpR op_eq (pv 1) pe_int (nomark _)) (pss_one (ps_ret (pe_op op_sub (pe_callD D_law_get hr (by decide) (by rfl) (pa_cons (pv 0) (pa_cons pe_int pa_nil))) pe_int))) pss_nil) (pss_one (ps_ret (pe_op op_mulA (pe_op op_add (pe_callD D_law_far hr (by decide) (by rfl) (pa_cons (pv 0) (pa_cons (pe_ix ix_list (pe_lst (pa_cons pe_int (pa_cons pe_int pa_nil))) (pe_op op_sub (pv 1) pe_int) (fun _ _ => rfl)) pa_nil))) pe_int) (pe_op op_sub pe_int (pe_op op_mulA pe_int (pe_callD D_law_get hr (by decide) (by rfl) (pa_cons (pv 0) (pa_cons pe_int pa_nil))))))))))), ?_⟩
    have small : ∀ r : Int, -1000 ≤ r → r ≤ 2000 → r.natAbs < 2 ^ 200 := fun r h1 h2 => Nat.lt_of_lt_of_le (show r.natAbs < 2 ^ 11 by omega) (Nat.pow_le_pow_right (by decide) (by decide))
    refine ⟨_, rfl, b, 5, rfl, hB, by decide, by decide, fun r H1 h0 h1 hB1 k1 => ?_⟩
    repeat (walk_at "rd")
    refine iteD (fun hd => ?_) (fun hd => ?_)
    · refine ⟨_, rfl, b, 9, rfl, hB1, by decide, by decide, fun r2 H2 h2 h3 hB2 k2 => ?_⟩
      refine ⟨_, _, rfl, rfl, q _ H2 (small _ (by omega) (by omega)) hB2 (k1.trans k2)⟩
    · refine ⟨_, rfl, rfl, _, rfl, ?_⟩
      refine iteD (fun hd2 => ?_) (fun hd2 => ?_)
      · refine ⟨_, rfl, b, 2001, rfl, hB1, by decide, by decide, fun r2 H2 h2 h3 hB2 k2 => ?_⟩
        refine ⟨_, _, rfl, rfl, q _ H2 (small _ (by omega) (by omega)) hB2 (k1.trans k2)⟩
      · have hr3 : r = 3 ∨ r = 4 := by
          have : ¬ r = 2 := fun z => hd2 (by rw [z])
          omega
        refine ⟨_, rfl, (show 2 ≤ sizeLine by decide), fun p np => ?_⟩
        have hBp := hB1.same (same_new (o := .lst [.int 3, .int 20]) np)
        refine ⟨_, rfl, _, _, rfl, rfl, ?_⟩
        rcases hr3 with rfl | rfl
        all_goals
          refine ⟨p, _, _, _, rfl, rfl, SqL.of upd_same, rfl, b, _, rfl, hBp, (by decide), fun r2 H2 h2 h3 hB2 k2 => ?_⟩
          refine ⟨_, _, rfl, rfl, _, rfl, b, 2, rfl, hB2, by decide, by decide, fun r3 H3 h4 h5 hB3 k3 => ?_⟩
          refine ⟨_, _, rfl, rfl, cmul_l ⟨by decide, by decide⟩, _, _, rfl, rfl, _, _, rfl, rfl, cmul_r ⟨by omega, by omega⟩, ?_⟩
          refine q _ H3 ?_ hB3 (k1.trans ((Kp.of (same_new np)).trans (k2.trans k3)))
          exact far_size h2 h3 (by decide) (by omega)
theorem ok_law_some_part (T : Tops K mg) (D_law_get : DefOk P w K mg base 1 "_law_get" ps__law_get spGet) (D_law_part : DefOk P w K mg base 2 "_law_part" ps__law_part (spPart K)) (D_law_number : DefOk P w K mg base 3 "_law_number" ps__law_number spNumber) : DefOk P w K mg base 4 "_law_some_part" ps__law_some_part (spSomePart K) := by
  refine T.d_law_some_part.ok sc__law_some_part (fun vs H Q E h => ?_) (fun f cdv A outer s H vs Q E hr h => ?_)
  · obtain ⟨a, rfl, _⟩ := h
    rfl
  · obtain ⟨b, rfl, hB, q⟩ := h
    refine ⟨_, (pss_cons (ps_set (i := 1) sc__law_some_part.nd rfl (.inl rfl) (pe_op op_add (pe_callB call_abs (by rfl) T.m_abs (by decide +kernel) (pa_cons (pe_callD D_law_number hr (by decide) (by rfl) (pa_cons (pv 0) pa_nil)) pa_nil)) pe_int)) (pss_one (ps_ret (pe_callD D_law_part hr (by decide) (by rfl) (pa_cons (pe_callD D_law_number hr (by decide) (by rfl) (pa_cons (pv 0) pa_nil)) (pa_cons (pe_ifExp (pt_cmpR op_gt (pe_callD D_law_get hr (by decide) (by rfl) (pa_cons (pv 0) (pa_cons pe_int pa_nil))) pe_int (nomark _)) (pv 1) pe_int) pa_nil)))))), ?_⟩
    refine ⟨_, rfl, b, rfl, hB, fun r H1 hr1 hB1 k1 => ?_⟩
    refine ⟨_, rfl, _, _, rfl, rfl, ?_⟩
    refine ⟨_, rfl, b, rfl, hB1, fun r2 H2 hr2 hB2 k2 => ?_⟩
    refine ⟨_, rfl, b, 3, rfl, hB2, by decide, by decide, fun r3 H3 h4 h5 hB3 k3 => ?_⟩
    have k := k1.trans (k2.trans k3)
    have p201 : (2 : Nat) ^ 201 = 2 ^ 200 * 2 := by rw [← Nat.pow_succ]
    have p0 : 0 < (2 : Nat) ^ 200 := Nat.pow_pos (by decide)
    have b1 : (if r < 0 then -r else r) + 1 ≠ 0 ∧ ((if r < 0 then -r else r) + 1).natAbs < 2 ^ 201 := by
      rw [p201]
      generalize (2 : Nat) ^ 200 = N at *
      split <;> omega
    have b2 : r2.natAbs < 2 ^ 201 := pow_mono_lt hr2 (by decide)
    have b3 : (1 : Int) ≠ 0 ∧ (1 : Int).natAbs < 2 ^ 201 := ⟨by decide, by
      rw [p201]
      generalize (2 : Nat) ^ 200 = N at *
      omega⟩
    repeat (walk_at "rd")
    refine iteD (fun hd => ?_) (fun hd => ?_)
    · refine ⟨_, rfl, _, _, rfl, b1.1, pow_mono_lt b2 (by decide), pow_mono_lt b1.2 (by decide), fun v H4 s4 hv => ?_⟩
      exact q v _ H4 hv (size_divInt b1.1 b2 b1.2) (hB3.same s4) (k.trans (Kp.of s4))
    · refine ⟨_, _, rfl, b3.1, pow_mono_lt b2 (by decide), pow_mono_lt b3.2 (by decide), fun v H4 s4 hv => ?_⟩
      exact q v _ H4 hv (size_divInt b3.1 b2 b3.2) (hB3.same s4) (k.trans (Kp.of s4))
theorem ok_law_above (T : Tops K mg) (D_law_part : DefOk P w K mg base 2 "_law_part" ps__law_part (spPart K)) (D_law_some_part : DefOk P w K mg base 4 "_law_some_part" ps__law_some_part (spSomePart K)) : DefOk P w K mg base 5 "_law_above" ps__law_above (spAbove K) := by
  refine T.d_law_above.ok sc__law_above (fun vs H Q E h => ?_) (fun f cdv A outer s H vs Q E hr h => ?_)
  · unfold spAbove at h
    obtain ⟨_, rfl, _⟩ := h
    rfl
  · unfold spAbove at h
    obtain ⟨c, rfl, hC, q⟩ := h
    refine ⟨_, (pss_cons (ps_set (i := 1) sc__law_above.nd rfl (.inl rfl) (pe_callD D_law_some_part hr (by decide) (by rfl) (pa_cons (pv 0) pa_nil))) (pss_one (ps_ret (pe_callD D_law_part hr (by decide) (by rfl) (pa_cons (pe_op op_add (pe_callB call_abs (by rfl) T.m_abs (by decide +kernel) (pa_cons (pe_ix ix_tup (pv 1) pe_int (fun _ _ => rfl)) pa_nil)) pe_int) (pa_cons (pe_ix ix_tup (pv 1) pe_int (fun _ _ => rfl)) pa_nil)))))), ?_⟩
    refine ⟨_, rfl, c, rfl, hC, fun v x H1 hx sx hC1 k1 => ?_⟩
    obtain ⟨a, rfl, ha⟩ := hx
    obtain ⟨x1, x2⟩ := sz_abs sx
    refine ⟨_, rfl, a, _, _, _, rfl, rfl, ha, rfl, _, rfl, _, _, rfl, rfl, ?_⟩
    refine ⟨_, rfl, a, _, _, _, rfl, rfl, ha, rfl, ?_⟩
    have p202 : (2 : Nat) ^ 202 = 2 ^ 201 * 2 := by rw [← Nat.pow_succ]
    have e0 : 0 < (if x.num < 0 then -x.num else x.num) + 1 := by split <;> omega
    have e1 : ((if x.num < 0 then -x.num else x.num) + 1).natAbs < 2 ^ 202 := by
      rw [p202]
      have h1 := x1
      have h2 : 0 < (2 : Nat) ^ 201 := Nat.pow_pos (by decide)
      generalize (2 : Nat) ^ 201 = N at *
      split <;> omega
    have e2 : ((x.den : Nat) : Int).natAbs < 2 ^ 202 := pow_mono_lt x2 (by decide)
    have d0 : ((x.den : Nat) : Int) ≠ 0 := Int.ne_of_gt (den_pos x)
    refine ⟨_, _, rfl, d0, pow_mono_lt e1 (by decide), pow_mono_lt e2 (by decide), fun u H2 s2 hu => ?_⟩
    refine q u _ H2 hu ?_ (size_divInt d0 e1 e2) (hC1.same s2) (k1.trans (Kp.of s2))
    exact divInt_pos e0 (den_pos x)
theorem ok_law_small_box (T : Tops K mg) (D_law_get : DefOk P w K mg base 1 "_law_get" ps__law_get spGet) : DefOk P w K mg base 2 "_law_small_box" ps__law_small_box (spSomeBox K) := by
  refine T.d_law_small_box.ok sc__law_small_box (fun vs H Q E h => ?_) (fun f cdv A outer s H vs Q E hr h => ?_)
  · unfold spSomeBox at h
    obtain ⟨_, rfl, _⟩ := h
    rfl
  · unfold spSomeBox at h
    obtain ⟨c, rfl, hC, q⟩ := h
    refine ⟨_, (pss_cons (ps_par (i := 1) (j := 2) (by rfl) sc__law_small_box.nd rfl rfl (by decide) rfl rfl (pa_cons (pe_op op_sub (pe_callD D_law_get hr (by decide) (by rfl) (pa_cons (pv 0) (pa_cons pe_int pa_nil))) pe_int) (pa_cons (pe_op op_sub (pe_callD D_law_get hr (by decide) (by rfl) (pa_cons (pv 0) (pa_cons pe_int pa_nil))) pe_int) pa_nil)) (by rfl)) (pss_one (ps_ret (pe_tup (pa_cons (pe_tup (pa_cons (pv 1) (pa_cons pe_int pa_nil))) (pa_cons (pe_tup (pa_cons (pv 2) (pa_cons pe_int pa_nil))) (pa_cons (pe_tup (pa_cons (pe_op op_add pe_int (pe_callD D_law_get hr (by decide) (by rfl) (pa_cons (pv 0) (pa_cons pe_int pa_nil)))) (pa_cons pe_int pa_nil))) (pa_cons (pe_tup (pa_cons (pe_op op_add pe_int (pe_callD D_law_get hr (by decide) (by rfl) (pa_cons (pv 0) (pa_cons pe_int pa_nil)))) (pa_cons pe_int pa_nil))) pa_nil)))))))), ?_⟩
    refine ⟨_, rfl, c, 30, rfl, hC, by decide, by decide, fun x H1 hx0 hx1 hC1 k1 => ?_⟩
    refine ⟨_, _, rfl, rfl, _, rfl, c, 30, rfl, hC1, by decide, by decide, fun y H2 hy0 hy1 hC2 k2 => ?_⟩
    refine ⟨_, _, rfl, rfl, _, _, rfl, ?_⟩
    refine ⟨_, rfl, (show 2 ≤ sizeLine by decide), fun p1 n1 => ?_⟩
    have hC3 := hC2.same (same_new (o := .tup [.int (x - 9), .int 1]) n1)
    have g1 : PtV K _ _ ((x - 9 : Int) : Rat) := ptv_int n1 (x - 9)
    refine ⟨_, rfl, (show 2 ≤ sizeLine by decide), fun p2 n2 => ?_⟩
    have hC4 := hC3.same (same_new (o := .tup [.int (y - 9), .int 1]) n2)
    have g2 : PtV K _ _ ((y - 9 : Int) : Rat) := ptv_int n2 (y - 9)
    have g1 := g1.same (same_new (o := .tup [.int (y - 9), .int 1]) n2)
    refine ⟨_, rfl, c, 40, rfl, hC4, by decide, by decide, fun z H5 hz0 hz1 hC5 k5 => ?_⟩
    have g1 := g1.bag k5 hC4
    have g2 := g2.bag k5 hC4
    refine ⟨_, _, rfl, rfl, (show 2 ≤ sizeLine by decide), fun p3 n3 => ?_⟩
    have hC6 := hC5.same (same_new (o := .tup [.int (1 + z), .int 1]) n3)
    have g3 : PtV K _ _ ((1 + z : Int) : Rat) := ptv_int n3 (1 + z)
    have g1 := g1.same (same_new (o := .tup [.int (1 + z), .int 1]) n3)
    have g2 := g2.same (same_new (o := .tup [.int (1 + z), .int 1]) n3)
    refine ⟨_, rfl, c, 40, rfl, hC6, by decide, by decide, fun w2 H7 hw0 hw1 hC7 k7 => ?_⟩
    have g1 := g1.bag k7 hC6
    have g2 := g2.bag k7 hC6
    have g3 := g3.bag k7 hC6
    refine ⟨_, _, rfl, rfl, (show 2 ≤ sizeLine by decide), fun p4 n4 => ?_⟩
    have hC8 := hC7.same (same_new (o := .tup [.int (1 + w2), .int 1]) n4)
    have g4 : PtV K _ _ ((1 + w2 : Int) : Rat) := ptv_int n4 (1 + w2)
    have g1 := g1.same (same_new (o := .tup [.int (1 + w2), .int 1]) n4)
    have g2 := g2.same (same_new (o := .tup [.int (1 + w2), .int 1]) n4)
    have g3 := g3.same (same_new (o := .tup [.int (1 + w2), .int 1]) n4)
    refine ⟨(show 4 ≤ sizeLine by decide), fun p5 n5 => ?_⟩
    refine q _ ⟨((x - 9 : Int) : Rat), ((y - 9 : Int) : Rat), ((1 + z : Int) : Rat), ((1 + w2 : Int) : Rat)⟩ _ (BxV.mk n5 g1 g2 g3 g4) ⟨?_, ?_, ?_, ?_, ?_, ?_⟩ (hC8.same (same_new n5)) ?_
    · exact int_pos (by omega)
    · exact int_pos (by omega)
    · exact int_sz (by omega)
    · exact int_sz (by omega)
    · exact int_sz (by omega)
    · exact int_sz (by omega)
    · exact k1.trans (k2.trans ((Kp.of (same_new n1)).trans ((Kp.of (same_new n2)).trans (k5.trans ((Kp.of (same_new n3)).trans (k7.trans ((Kp.of (same_new n4)).trans (Kp.of (same_new n5)))))))))
theorem ok_law_box (T : Tops K mg) (D_law_get : DefOk P w K mg base 1 "_law_get" ps__law_get spGet) (D_law_some_part : DefOk P w K mg base 4 "_law_some_part" ps__law_some_part (spSomePart K)) (D_law_above : DefOk P w K mg base 5 "_law_above" ps__law_above (spAbove K)) (D_law_small_box : DefOk P w K mg base 2 "_law_small_box" ps__law_small_box (spSomeBox K)) : DefOk P w K mg base 6 "_law_box" ps__law_box (spSomeBox K) := by
  refine T.d_law_box.ok sc__law_box (fun vs H Q E h => ?_) (fun f cdv A outer s H vs Q E hr h => ?_)
  · unfold spSomeBox at h
    obtain ⟨_, rfl, _⟩ := h
    rfl
  · unfold spSomeBox at h
    obtain ⟨c, rfl, hC, q⟩ := h
    refine ⟨_, (pss_cons (ps_if (pt_cmpR op_eq (pe_callD D_law_get hr (by decide) (by rfl) (pa_cons (pv 0) (pa_cons pe_int pa_nil))) pe_int (nomark _)) (pss_one (ps_ret (pe_callD D_law_small_box hr (by decide) (by rfl) (pa_cons (pv 0) pa_nil)))) pss_nil) (pss_one (ps_ret (pe_tup (pa_cons (pe_callD D_law_some_part hr (by decide) (by rfl) (pa_cons (pv 0) pa_nil)) (pa_cons (pe_callD D_law_some_part hr (by decide) (by rfl) (pa_cons (pv 0) pa_nil)) (pa_cons (pe_callD D_law_above hr (by decide) (by rfl) (pa_cons (pv 0) pa_nil)) (pa_cons (pe_callD D_law_above hr (by decide) (by rfl) (pa_cons (pv 0) pa_nil)) pa_nil)))))))), ?_⟩
    refine ⟨_, rfl, c, 2, rfl, hC, by decide, by decide, fun r H1 h0 h1 hC1 k1 => ?_⟩
    refine ⟨rfl, _, rfl, ?_⟩
    refine iteD (fun e => ?_) (fun e => ?_)
    · exact ⟨_, rfl, somebox_step hC1 fun v b H2 hv hb hC2 k2 => q v b H2 hv hb hC2 (k1.trans k2)⟩
    · refine ⟨_, rfl, c, rfl, hC1, fun v1 x1 H2 g1 z1 hC2 k2 => ?_⟩
      refine ⟨_, rfl, c, rfl, hC2, fun v2 x2 H3 g2 z2 hC3 k3 => ?_⟩
      refine ⟨_, rfl, above_step hC3 fun v3 x3 H4 g3 p3 z3 hC4 k4 => ?_⟩
      refine ⟨_, rfl, above_step hC4 fun v4 x4 H5 g4 p4 z4 hC5 k5 => ?_⟩
      refine ⟨(show 4 ≤ sizeLine by decide), fun p np => ?_⟩
      refine q _ ⟨x1, x2, x3, x4⟩ _ (BxV.mk np (((g1.bag k3 hC2).bag k4 hC3).bag k5 hC4) ((g2.bag k4 hC3).bag k5 hC4) (g3.bag k5 hC4) g4) ⟨p3, p4, z1.mono (by decide), z2.mono (by decide), z3, z4⟩ (hC5.same (same_new np)) ?_
      exact k1.trans (k2.trans (k3.trans (k4.trans (k5.trans (Kp.of (same_new np))))))
theorem ok_law_ends (T : Tops K mg) (D_law_plus : DefOk P w K mg base 3 "_law_plus" ps__law_plus (spTwo K (fun _ _ => True) fun x y => x + y)) : DefOk P w K mg base 4 "_law_ends" ps__law_ends (spEnds K) := by
  refine T.d_law_ends.ok sc__law_ends (fun vs H Q E h => ?_) (fun f cdv A outer s H vs Q E hr h => ?_)
  · unfold spEnds at h
    obtain ⟨_, _, rfl, _⟩ := h
    rfl
  · unfold spEnds at h
    obtain ⟨v, b, rfl, ⟨a, v1, v2, v3, v4, rfl, hA⟩, hO, q⟩ := h
    refine ⟨_, (pss_one (ps_ret (pe_tup (pa_cons (pe_ix ix_tup (pv 0) pe_int (fun _ _ => rfl)) (pa_cons (pe_callD D_law_plus hr (by decide) (by rfl) (pa_cons (pe_ix ix_tup (pv 0) pe_int (fun _ _ => rfl)) (pa_cons (pe_ix ix_tup (pv 0) pe_int (fun _ _ => rfl)) pa_nil))) (pa_cons (pe_ix ix_tup (pv 0) pe_int (fun _ _ => rfl)) (pa_cons (pe_callD D_law_plus hr (by decide) (by rfl) (pa_cons (pe_ix ix_tup (pv 0) pe_int (fun _ _ => rfl)) (pa_cons (pe_ix ix_tup (pv 0) pe_int (fun _ _ => rfl)) pa_nil))) pa_nil))))))), ?_⟩
    refine ⟨_, rfl, a, _, _, _, rfl, rfl, hA.1, rfl, ?_⟩
    refine ⟨_, rfl, a, _, _, _, rfl, rfl, hA.1, rfl, _, rfl, a, _, _, _, rfl, rfl, hA.1, rfl, two_step hA.2.1 hA.2.2.2.1 hO.sl hO.sw (by decide) (by decide) trivial fun u1 H1 s1 g1 => ?_⟩
    have hA := hA.same s1
    refine ⟨_, rfl, a, _, _, _, rfl, rfl, hA.1, rfl, ?_⟩
    refine ⟨_, rfl, a, _, _, _, rfl, rfl, hA.1, rfl, _, rfl, a, _, _, _, rfl, rfl, hA.1, rfl, two_step hA.2.2.1 hA.2.2.2.2 hO.st hO.sh (by decide) (by decide) trivial fun u2 H2 s2 g2 => ?_⟩
    have hA := hA.same s2
    refine ⟨(show 4 ≤ sizeLine by decide), fun p np => ?_⟩
    have s3 := same_new (o := .tup [v1, u1, v2, u2]) np
    exact q p v1 u1 v2 u2 _ (s1.trans (s2.trans s3)) ⟨SqT.of upd_same, hA.2.1.same s3, (g1.same s2).same s3, hA.2.2.1.same s3, g2.same s3⟩
theorem ok_law_lies (T : Tops K mg) (D_law_less : DefOk P w K mg base 1 "_law_less" ps__law_less (spLess K)) (D_law_ends : DefOk P w K mg base 4 "_law_ends" ps__law_ends (spEnds K)) : DefOk P w K mg base 5 "_law_lies" ps__law_lies (spLies K) := by
  refine T.d_law_lies.ok sc__law_lies (fun vs H Q E h => ?_) (fun f cdv A outer s H vs Q E hr h => ?_)
  · unfold spLies at h
    obtain ⟨_, _, _, _, _, _, rfl, _⟩ := h
    rfl
  · unfold spLies at h
    obtain ⟨v1, v2, v3, b, x, y, rfl, hV, hx, hy, hO, zx, zy, q⟩ := h
    refine ⟨_, (pss_cons (ps_asg (pe_callD D_law_ends hr (by decide) (by rfl) (pa_cons (pv 0) pa_nil)) (pg_tup rfl (pgs_cons (pg_name (i := 3) sc__law_lies.nd rfl (.inl rfl)) (pgs_cons (pg_name (i := 4) sc__law_lies.nd rfl (.inl rfl)) (pgs_cons (pg_name (i := 5) sc__law_lies.nd rfl (.inl rfl)) (pgs_cons (pg_name (i := 6) sc__law_lies.nd rfl (.inl rfl)) pgs_nil)))))) (pss_one (ps_ret (pe_and (pe_not (pe_callD D_law_less hr (by decide) (by rfl) (pa_cons (pv 1) (pa_cons (pv 3) pa_nil)))) (pe_and (pe_callD D_law_less hr (by decide) (by rfl) (pa_cons (pv 1) (pa_cons (pv 4) pa_nil))) (pe_and (pe_not (pe_callD D_law_less hr (by decide) (by rfl) (pa_cons (pv 2) (pa_cons (pv 5) pa_nil)))) (pe_one (pe_callD D_law_less hr (by decide) (by rfl) (pa_cons (pv 2) (pa_cons (pv 6) pa_nil)))))))))), ?_⟩
    refine ⟨_, rfl, ends_step hV hO (by decide) fun p u1 u2 u3 u4 H1 s1 hA => ?_⟩
    have hx := hx.same s1
    have hy := hy.same s1
    have zr : Sz 3801 (b.l + b.w) := sz_add hO.sl hO.sw (by decide)
    have zb : Sz 3801 (b.t + b.h) := sz_add hO.st hO.sh (by decide)
    refine ⟨p, _, rfl, hA.1, rfl, _, _, rfl, _, _, rfl, _, _, rfl, _, _, rfl, rfl, ?_⟩
    refine ⟨_, rfl, _, rfl, less_step hx hA.2.1 zx hO.sl (by decide) (by decide) ⟨_, rfl, _, rfl, ?_⟩⟩
    refine iteB (fun e1 => ?_) (fun e1 => q _ H1 s1 (by unfold lies; rw [e1]; rfl))
    refine ⟨_, rfl, _, rfl, less_step hx hA.2.2.1 zx zr (by decide) (by decide) ⟨_, rfl, ?_⟩⟩
    refine iteB (fun e2 => ?_) (fun e2 => q _ H1 s1 (by unfold lies; rw [e1, e2]; rfl))
    refine ⟨_, rfl, _, rfl, less_step hy hA.2.2.2.1 zy hO.st (by decide) (by decide) ⟨_, rfl, _, rfl, ?_⟩⟩
    refine iteB (fun e3 => ?_) (fun e3 => q _ H1 s1 (by unfold lies; rw [e1, e2, e3]; rfl))
    refine ⟨_, rfl, _, rfl, less_step hy hA.2.2.2.2 zy zb (by decide) (by decide) ?_⟩
    refine q _ H1 s1 ?_
    unfold lies
    rw [e1, e2, e3]
    rfl
end
end Cc
set_option exponentiation.threshold 10000
namespace Cc
open PySem PySem.Spec PyProof.Rows L2
local macro_rules | `(tactic| walk_at "sd") => `(tactic| first
  | exact cmul_r ⟨by decide, by decide⟩
  | exact cmul_l ⟨by decide, by decide⟩
  | exact cmul_l ⟨by omega, by omega⟩
  | exact cmul_w (by assumption) (by assumption) (by decide)
  | exact (show CPow 10 18 from ⟨by decide, by decide, by decide⟩)
  | exact (show (0 : Int) < 2147483629 by decide)
  | exact (show CDiv _ _ from ⟨by decide, by decide⟩)
  | exact (show CDiv _ _ from ⟨by assumption, by assumption⟩)
  | assumption)
local macro_rules | `(tactic| walk_at "rd") => `(tactic| first
  | refine ⟨_, rfl, ?_⟩
  | refine ⟨_, _, rfl, rfl, ?_⟩
  | (refine ⟨_, ?_, _, ?_, rfl, rfl, ?_, ?_, ?_⟩; rotate_left 2; (first | exact SqL.of (by assumption) | (show SqT _ _ _ _; assumption) | (show SqL _ _ _ _; assumption)); (first | exact rfl | assumption))
  | (refine ⟨_, ?_, rfl, ?_, ?_⟩; rotate_left 1; (first | exact .inl (SqL.of (by assumption)) | exact .inl (SqL.of upd_same)))
  | (refine And.intro ?_ ?_; (focus (walk_at "sd"))))
section
variable {P : Program} {w : World} {K : PySem.W.Frag} {mg : Str → Option Value} {base : Heap}
theorem ok_law {f : Addr} {fd : FuncData} (T : Tops K mg) (F : Fun K "law" "law" s_law f fd) (D_holds : DefOk P w K mg base 5 "holds" ps_holds (spLies K)) (D_law_bag : DefOk P w K mg base 1 "_law_bag" ps__law_bag (spBag K)) (D_law_get : DefOk P w K mg base 1 "_law_get" ps__law_get spGet) (D_law_pick : DefOk P w K mg base 2 "_law_pick" ps__law_pick spPick) (D_law_same : DefOk P w K mg base 6 "_law_same" ps__law_same (spSame K 6)) (D_law_plus : DefOk P w K mg base 3 "_law_plus" ps__law_plus (spTwo K (fun _ _ => True) fun x y => x + y)) (D_law_minus : DefOk P w K mg base 3 "_law_minus" ps__law_minus (spTwo K (fun _ _ => True) fun x y => x - y)) (D_law_some_part : DefOk P w K mg base 4 "_law_some_part" ps__law_some_part (spSomePart K)) (D_law_box : DefOk P w K mg base 6 "_law_box" ps__law_box (spSomeBox K)) (D_law_ends : DefOk P w K mg base 4 "_law_ends" ps__law_ends (spEnds K)) (D_law_lies : DefOk P w K mg base 5 "_law_lies" ps__law_lies (spLies K)) : FnOk P w K mg base CX0 7 f fd ps_law (spLaw K) := by
  refine F.ok sc_law (fun vs H Q E h => ?_) (fun cdv A outer s H vs Q E hr h => ?_)
  · obtain ⟨_, _, rfl, _⟩ := h
    rfl
  · obtain ⟨a, ns, rfl, hS, hlen, q⟩ := h
    refine ⟨_, (pss_cons (ps_set (i := 1) sc_law.nd rfl (.inl rfl) (pe_callD D_law_bag hr (by decide) (by rfl) (pa_cons (pv 0) pa_nil))) (pss_cons (ps_for PassesOwn.never rfl (pi_range1 rfl T.m_range (pa_cons pe_int pa_nil)) (pg_name (i := 2) sc_law.nd rfl (.inl rfl)) (pss_cons (ps_set (i := 3) sc_law.nd rfl (.inl rfl) (pe_callD D_law_box hr (by decide) (by rfl) (pa_cons (pv 1) pa_nil))) (pss_cons (ps_asg (pe_callD D_law_ends hr (by decide) (by rfl) (pa_cons (pv 3) pa_nil)) (pg_tup rfl (pgs_cons (pg_name (i := 4) sc_law.nd rfl (.inl rfl)) (pgs_cons (pg_name (i := 5) sc_law.nd rfl (.inl rfl)) (pgs_cons (pg_name (i := 6) sc_law.nd rfl (.inl rfl)) (pgs_cons (pg_name (i := 7) sc_law.nd rfl (.inl rfl)) pgs_nil)))))) (pss_cons (ps_set (i := 8) sc_law.nd rfl (.inl rfl) (pe_tup (pa_cons pe_int (pa_cons (pe_op op_add (pe_op op_pow pe_int pe_int) (pe_callD D_law_get hr (by decide) (by rfl) (pa_cons (pv 1) (pa_cons pe_int pa_nil)))) pa_nil)))) (pss_cons (ps_set (i := 9) sc_law.nd rfl (.inl rfl) (pe_lst (pa_cons (pv 4) (pa_cons (pv 5) (pa_cons (pe_callD D_law_plus hr (by decide) (by rfl) (pa_cons (pv 4) (pa_cons (pv 8) pa_nil))) (pa_cons (pe_callD D_law_minus hr (by decide) (by rfl) (pa_cons (pv 4) (pa_cons (pv 8) pa_nil))) (pa_cons (pe_callD D_law_minus hr (by decide) (by rfl) (pa_cons (pv 5) (pa_cons (pv 8) pa_nil))) (pa_cons (pe_callD D_law_some_part hr (by decide) (by rfl) (pa_cons (pv 1) pa_nil)) pa_nil)))))))) (pss_cons (ps_set (i := 10) sc_law.nd rfl (.inl rfl) (pe_lst (pa_cons (pv 6) (pa_cons (pv 7) (pa_cons (pe_callD D_law_plus hr (by decide) (by rfl) (pa_cons (pv 6) (pa_cons (pv 8) pa_nil))) (pa_cons (pe_callD D_law_minus hr (by decide) (by rfl) (pa_cons (pv 6) (pa_cons (pv 8) pa_nil))) (pa_cons (pe_callD D_law_minus hr (by decide) (by rfl) (pa_cons (pv 7) (pa_cons (pv 8) pa_nil))) (pa_cons (pe_callD D_law_some_part hr (by decide) (by rfl) (pa_cons (pv 1) pa_nil)) pa_nil)))))))) (pss_cons (ps_for PassesOwn.never rfl (pi_range1 rfl T.m_range (pa_cons pe_int pa_nil)) (pg_name (i := 11) sc_law.nd rfl (.inl rfl)) (pss_cons (ps_par (i := 12) (j := 13) (by rfl) sc_law.nd rfl rfl (by decide) rfl rfl (pa_cons (pe_callD D_law_pick hr (by decide) (by rfl) (pa_cons (pv 1) (pa_cons (pv 9) pa_nil))) (pa_cons (pe_callD D_law_pick hr (by decide) (by rfl) (pa_cons (pv 1) (pa_cons (pv 10) pa_nil))) pa_nil)) (by rfl)) (pss_one (ps_if (pt_not (pt_val (pe_callD D_law_same hr (by decide) (by rfl) (pa_cons (pe_callD D_holds hr (by decide) (by rfl) (pa_cons (pv 3) (pa_cons (pv 12) (pa_cons (pv 13) pa_nil)))) (pa_cons (pe_callD D_law_lies hr (by decide) (by rfl) (pa_cons (pv 3) (pa_cons (pv 12) (pa_cons (pv 13) pa_nil)))) pa_nil))))) (pss_one (ps_ret pe_bl)) pss_nil)))) (pss_one (ps_if (PW.pt (pw_or (pt_cmpR op_notBl (pe_callD D_holds hr (by decide) (by rfl) (pa_cons (pv 3) (pa_cons (pv 4) (pa_cons (pv 6) pa_nil)))) pe_bl (nomark _)) (pw_or1 (pt_cmpR op_notBl (pe_callD D_holds hr (by decide) (by rfl) (pa_cons (pv 3) (pa_cons (pv 5) (pa_cons (pv 6) pa_nil)))) pe_bl (nomark _))))) (pss_one (ps_ret pe_bl)) pss_nil))))))))) (pss_one (ps_ret pe_bl)))), ?_⟩
    refine ⟨_, rfl, a, ns, rfl, hS, hlen, fun b H1 nb s1 hB => ?_⟩
    refine ⟨8, rfl, by decide, by decide, for_range (lo := 0) (n := 8) (fun i σ H' => ∃ (v2 v3 v4 v5 v6 v7 v8 v9 v10 v11 v12 v13 : Option V), σ = [some (.ref a), some (.ref b), v2, v3, v4, v5, v6, v7, v8, v9, v10, v11, v12, v13] ∧ Bag H' b) ⟨none, none, none, none, none, none, none, none, none, none, none, none, rfl, hB⟩ ?_ ?_⟩
    · rintro i σ H2 hi ⟨v2, v3, v4, v5, v6, v7, v8, v9, v10, v11, v12, v13, rfl, hB2⟩
      refine ⟨_, rfl, somebox_step hB2 fun w bx H3 hw hb hB3 k3 => ?_⟩
      refine ⟨_, rfl, ends_step hw hb (by decide) fun p u1 u2 u3 u4 H4 s4 hE => ?_⟩
      have hB4 := hB3.same s4
      have hw := hw.same s4
      refine ⟨p, _, rfl, hE.1, rfl, _, _, rfl, _, _, rfl, _, _, rfl, _, _, rfl, rfl, ?_⟩
      -- tiny
      refine ⟨_, _, rfl, rfl, ⟨by decide, by decide, by decide⟩, _, rfl, b, 1000, rfl, hB4, by decide, by decide, fun r H5 h0 h1 hB5 k5 => ⟨_, _, rfl, rfl, (show 2 ≤ sizeLine by decide), fun p6 n6 => ?_⟩⟩
      have hE := hE.bag k5 hB4
      have hw := hw.bag k5 hB4
      have d0 : (0 : Int) < 10 ^ Int.toNat 9 + r := by
        have : (10 : Int) ^ Int.toNat 9 = 1000000000 := by decide
        omega
      have d1 : ((10 : Int) ^ Int.toNat 9 + r).natAbs < 2 ^ 31 := by
        have : (10 : Int) ^ Int.toNat 9 = 1000000000 := by decide
        omega
      have s6 : Same H5 (upd H5 p6 (.tup [.int 1, .int ((10 : Int) ^ Int.toNat 9 + r)])) := same_new n6
      have ht : PtV K (upd H5 p6 (.tup [.int 1, .int ((10 : Int) ^ Int.toNat 9 + r)])) (.ref p6) (Rat.divInt 1 ((10 : Int) ^ Int.toNat 9 + r)) := tiny_part d0
      have zt : Sz 31 (Rat.divInt 1 ((10 : Int) ^ Int.toNat 9 + r)) := size_divInt (by omega) (show (1 : Int).natAbs < 2 ^ 31 by decide) d1
      generalize Rat.divInt 1 ((10 : Int) ^ Int.toNat 9 + r) = tn at *
      have hE := hE.same s6
      have hw := hw.same s6
      have hB6 := hB5.same s6
      have zl : Sz 405 bx.l := hb.sl.mono (by decide)
      have zr : Sz 405 (bx.l + bx.w) := sz_add hb.sl hb.sw (by decide)
      have zo : Sz 405 bx.t := hb.st.mono (by decide)
      have zb : Sz 405 (bx.t + bx.h) := sz_add hb.st hb.sh (by decide)
      -- across
      refine ⟨_, rfl, _, rfl, _, rfl, _, rfl, two_step hE.2.1 ht zl zt (by decide) (by decide) trivial fun a3 G1 e1 g3 => ?_⟩
      have hE1 := hE.same e1
      refine ⟨_, rfl, _, rfl, two_step hE1.2.1 (ht.same e1) zl zt (by decide) (by decide) trivial fun a4 G2 e2 g4 => ?_⟩
      have hE2 := hE1.same e2
      refine ⟨_, rfl, _, rfl, two_step hE2.2.2.1 ((ht.same e1).same e2) zr zt (by decide) (by decide) trivial fun a5 G3 e3 g5 => ?_⟩
      have hE3 := hE2.same e3
      have e13 := e1.trans (e2.trans e3)
      have hB7 := hB6.same e13
      refine ⟨_, rfl, b, rfl, hB7, fun a6 x6 G4 g6 z6 hB8 k4 => ?_⟩
      have hE4 := hE3.bag k4 hB7
      refine ⟨(show 6 ≤ sizeLine by decide), fun L nL => ?_⟩
      have eL : Same G4 (upd G4 L (.lst [u1, u2, a3, a4, a5, a6])) := same_new nL
      have hLb : L ≠ b := fun z => by
        obtain ⟨ys, hy⟩ := hB8.lst
        rw [z, hy] at nL
        cases nL
      have hP : PtsL K (upd G4 L (.lst [u1, u2, a3, a4, a5, a6])) L 700 := by
        refine ⟨_, upd_same, (show 0 < 6 by decide), (show 6 ≤ 1000 by decide), fun v hv => ?_⟩
        rcases List.mem_cons.mp hv with rfl | hv
        · exact ⟨_, hE4.2.1.same eL, zl.mono (by decide)⟩
        rcases List.mem_cons.mp hv with rfl | hv
        · exact ⟨_, hE4.2.2.1.same eL, zr.mono (by decide)⟩
        rcases List.mem_cons.mp hv with rfl | hv
        · exact ⟨_, (((g3.same e2).same e3).bag k4 hB7).same eL, sz_add zl zt (by decide)⟩
        rcases List.mem_cons.mp hv with rfl | hv
        · exact ⟨_, ((g4.same e3).bag k4 hB7).same eL, sz_sub zl zt (by decide)⟩
        rcases List.mem_cons.mp hv with rfl | hv
        · exact ⟨_, (g5.bag k4 hB7).same eL, sz_sub zr zt (by decide)⟩
        rcases List.mem_cons.mp hv with rfl | hv
        · exact ⟨_, g6.same eL, z6.mono (by decide)⟩
        · cases hv
      have hE := hE4.same eL
      have hB9 := hB8.same eL
      have hw := ((hw.same e13).bag k4 hB7).same eL
      have ht := ((ht.same e13).bag k4 hB7).same eL
      clear g3 g4 g5 g6 hE1 hE2 hE3 hE4
      generalize upd G4 L (.lst [u1, u2, a3, a4, a5, a6]) = G5 at *
      -- down
      refine ⟨_, rfl, _, rfl, _, rfl, _, rfl, two_step hE.2.2.2.1 ht zo zt (by decide) (by decide) trivial fun c3 J1 f1 g3 => ?_⟩
      have hE1 := hE.same f1
      refine ⟨_, rfl, _, rfl, two_step hE1.2.2.2.1 (ht.same f1) zo zt (by decide) (by decide) trivial fun c4 J2 f2 g4 => ?_⟩
      have hE2 := hE1.same f2
      refine ⟨_, rfl, _, rfl, two_step hE2.2.2.2.2 ((ht.same f1).same f2) zb zt (by decide) (by decide) trivial fun c5 J3 f3 g5 => ?_⟩
      have hE3 := hE2.same f3
      have f13 := f1.trans (f2.trans f3)
      have hB10 := hB9.same f13
      refine ⟨_, rfl, b, rfl, hB10, fun c6 y6 J4 g6 zy6 hB11 k5' => ?_⟩
      have hE4 := hE3.bag k5' hB10
      refine ⟨(show 6 ≤ sizeLine by decide), fun M nM => ?_⟩
      have eM : Same J4 (upd J4 M (.lst [u3, u4, c3, c4, c5, c6])) := same_new nM
      have hMb : M ≠ b := fun z => by
        obtain ⟨ys, hy⟩ := hB11.lst
        rw [z, hy] at nM
        cases nM
      have hR : PtsL K (upd J4 M (.lst [u3, u4, c3, c4, c5, c6])) M 700 := by
        refine ⟨_, upd_same, (show 0 < 6 by decide), (show 6 ≤ 1000 by decide), fun v hv => ?_⟩
        rcases List.mem_cons.mp hv with rfl | hv
        · exact ⟨_, hE4.2.2.2.1.same eM, zo.mono (by decide)⟩
        rcases List.mem_cons.mp hv with rfl | hv
        · exact ⟨_, hE4.2.2.2.2.same eM, zb.mono (by decide)⟩
        rcases List.mem_cons.mp hv with rfl | hv
        · exact ⟨_, (((g3.same f2).same f3).bag k5' hB10).same eM, sz_add zo zt (by decide)⟩
        rcases List.mem_cons.mp hv with rfl | hv
        · exact ⟨_, ((g4.same f3).bag k5' hB10).same eM, sz_sub zo zt (by decide)⟩
        rcases List.mem_cons.mp hv with rfl | hv
        · exact ⟨_, (g5.bag k5' hB10).same eM, sz_sub zb zt (by decide)⟩
        rcases List.mem_cons.mp hv with rfl | hv
        · exact ⟨_, g6.same eM, zy6.mono (by decide)⟩
        · cases hv
      have hE := hE4.same eM
      have hB12 := hB11.same eM
      have hw := ((hw.same f13).bag k5' hB10).same eM
      have hP := ((hP.same f13).bag k5' hB10 hLb).same eM
      generalize upd J4 M (.lst [u3, u4, c3, c4, c5, c6]) = J5 at *
      -- the four points
      refine ⟨4, rfl, by decide, by decide, for_range (lo := 0) (n := 4) (fun j σ H' => ∃ (v11 v12 v13 : Option V), σ = [some (.ref a), some (.ref b), some (.int (0 + i)), some w, some u1, some u2, some u3, some u4, some (.ref p6), some (.ref L), some (.ref M), v11, v12, v13] ∧ Bag H' b ∧ BxV K H' w bx ∧ BxAt K H' p u1 u2 u3 u4 ⟨bx.l, bx.l + bx.w, bx.t, bx.t + bx.h⟩ ∧ PtsL K H' L 700 ∧ PtsL K H' M 700) ⟨_, _, _, rfl, hB12, hw, hE, hP, hR⟩ ?_ ?_⟩
      · rintro j σ H7 hj ⟨v11, v12, v13, rfl, hB7, hw, hE, hP, hR⟩
        refine ⟨_, rfl, _, rfl, hP.pick hB7 hLb fun x qx H8 hx zx hB8 k8 => ?_⟩
        have hw := hw.bag k8 hB7
        have hE := hE.bag k8 hB7
        have hR := hR.bag k8 hB7 hMb
        have hP := hP.bag k8 hB7 hLb
        refine ⟨_, rfl, _, rfl, hR.pick hB8 hMb fun y qy H9 hy zy hB9 k9 => ?_⟩
        have hw := hw.bag k9 hB8
        have hE := hE.bag k9 hB8
        have hR := hR.bag k9 hB8 hMb
        have hP := hP.bag k9 hB8 hLb
        have hx := hx.bag k9 hB8
        refine ⟨_, _, rfl, ?_⟩
        refine ⟨_, rfl, _, rfl, _, rfl, lies_step hw hx hy hb zx zy (by decide) (by decide) (by decide) fun H10 s10 => ?_⟩
        refine ⟨_, rfl, _, rfl, _, rfl, lies_step (hw.same s10) (hx.same s10) (hy.same s10) hb zx zy (by decide) (by decide) (by decide) fun H11 s11 => ?_⟩
        have s := s10.trans s11
        refine same_step (.bl _) (.bl _) rfl fun H12 s12 => ⟨_, rfl, ?_⟩
        have s := s.trans s12
        exact ⟨_, _, _, rfl, hB9.same s, hw.same s, hE.same s, hP.same s, hR.same s⟩
      · rintro σ H7 ⟨v11, v12, v13, rfl, hB7, hw, hE, hP, hR⟩
        have w0 := hb.w0
        have h0 := hb.h0
        refine ⟨_, rfl, _, rfl, _, rfl, lies_step hw hE.2.1 hE.2.2.2.1 hb hb.sl hb.st (by decide) (by decide) (by decide) fun H8 s8 => ?_⟩
        have l1 : lies bx bx.l bx.t = true := by
          unfold lies
          rw [decide_eq_false (show ¬ bx.l < bx.l by grind), decide_eq_true (show bx.l < bx.l + bx.w by grind), decide_eq_false (show ¬ bx.t < bx.t by grind), decide_eq_true (show bx.t < bx.t + bx.h by grind)]
          rfl
        have l2 : lies bx (bx.l + bx.w) bx.t = false := by
          unfold lies
          rw [decide_eq_false (show ¬ bx.l + bx.w < bx.l by grind), decide_eq_false (show ¬ bx.l + bx.w < bx.l + bx.w by grind)]
          rfl
        rw [l1]
        refine ⟨_, _, rfl, rfl, _, rfl, iteNS rfl ?_⟩
        have hE := hE.same s8
        refine ⟨_, rfl, _, rfl, _, rfl, lies_step (hw.same s8) hE.2.2.1 hE.2.2.2.1 hb zr hb.st (by decide) (by decide) (by decide) fun H9 s9 => ?_⟩
        have l2' : lies bx (Bx.t ⟨bx.l, bx.l + bx.w, bx.t, bx.t + bx.h⟩) (Bx.w ⟨bx.l, bx.l + bx.w, bx.t, bx.t + bx.h⟩) = false := l2
        rw [l2']
        refine ⟨_, _, rfl, rfl, _, rfl, iteNS rfl ?_⟩
        exact ⟨_, _, _, _, _, _, _, _, _, _, _, _, rfl, (hB7.same s8).same s9⟩
    · rintro σ H2 ⟨v2, v3, v4, v5, v6, v7, v8, v9, v10, v11, v12, v13, rfl, hB2⟩
      exact q H2
end
end Cc
set_option exponentiation.threshold 10000
namespace Cc
open PySem PySem.Spec PyProof.Rows L2
theorem law_of {l : PySem.W.OpenLaw} {w : World} {K : PySem.W.Frag} {mg : Str → Option Value} {fa : Addr} (hfa : mg "law" = some (.ref fa)) (T : Tops K mg)
    {h : Heap} (X : K.In h) (G : h.Ns mainGlobals mg) {f : Addr} {oc : Value} {od an : Option Addr} {osl : Array (Option Value)} {kV doc pm cdv ct : Value}
    (a : PySem.W.nsIn K mainGlobals "law" = some (some (.ref f))) (lk : K.lookup f = some ⟨oc, od, .func (PySem.W.fnOf "law" "law" (defArgs s_law) (defBody s_law) (defScope s_law) .none kV doc pm an cdv ct), osl⟩) (c : PySem.W.codeIn K cdv "law" = true) (k : PySem.W.keepIn K (.ref f) = true) :
    ∃ fd : FuncData, (∀ (s : Shared) (v : Value), BindsTo s fd ⟨[v], []⟩ [("_law_script", v)]) ∧ ∀ base : Heap, K.In base → base.Ns mainGlobals mg → FnOk l.prog w K mg base CX0 7 fa fd ["_law_script"] (spLaw K) := by
  have e := hfa.symm.trans (PySem.W.mg_of X G a)
  cases e
  refine ⟨PySem.W.fnOf "law" "law" (defArgs s_law) (defBody s_law) (defScope s_law) .none kV doc pm an cdv ct, fun s v => .of_eq rfl, fun base _ _ => ?_⟩
  have D_is_number := ok_is_number (P := l.prog) (w := w) (base := base) T
  have D_is_part := ok_is_part (P := l.prog) (w := w) (base := base) T D_is_number
  have D_part := ok_part (P := l.prog) (w := w) (base := base) T
  have D_plus := ok_plus (P := l.prog) (w := w) (base := base) T D_part
  have D_less := ok_less (P := l.prog) (w := w) (base := base) T
  have D_is_box := ok_is_box (P := l.prog) (w := w) (base := base) T D_is_part D_less
  have D_lies_in := ok_lies_in (P := l.prog) (w := w) (base := base) T D_plus D_less
  have D_check_box := ok_check_box (P := l.prog) (w := w) (base := base) T D_is_box
  have D_holds := ok_holds (P := l.prog) (w := w) (base := base) T D_lies_in D_check_box
  have D_law_bag := ok_law_bag (P := l.prog) (w := w) (base := base) T
  have D_law_get := ok_law_get (P := l.prog) (w := w) (base := base) T
  have D_law_pick := ok_law_pick (P := l.prog) (w := w) (base := base) T D_law_get
  have D_law_far := ok_law_far (P := l.prog) (w := w) (base := base) T D_law_get
  have D_law_same := (ok_law_same (P := l.prog) (w := w) (base := base) T) 6
  have D_law_gcd := ok_law_gcd (P := l.prog) (w := w) (base := base) T
  have D_law_part := ok_law_part (P := l.prog) (w := w) (base := base) T D_law_gcd
  have D_law_plus := ok_law_plus (P := l.prog) (w := w) (base := base) T D_law_part
  have D_law_minus := ok_law_minus (P := l.prog) (w := w) (base := base) T D_law_part
  have D_law_less := ok_law_less (P := l.prog) (w := w) (base := base) T
  have D_law_number := ok_law_number (P := l.prog) (w := w) (base := base) T D_law_get D_law_far
  have D_law_some_part := ok_law_some_part (P := l.prog) (w := w) (base := base) T D_law_get D_law_part D_law_number
  have D_law_above := ok_law_above (P := l.prog) (w := w) (base := base) T D_law_part D_law_some_part
  have D_law_small_box := ok_law_small_box (P := l.prog) (w := w) (base := base) T D_law_get
  have D_law_box := ok_law_box (P := l.prog) (w := w) (base := base) T D_law_get D_law_some_part D_law_above D_law_small_box
  have D_law_ends := ok_law_ends (P := l.prog) (w := w) (base := base) T D_law_plus
  have D_law_lies := ok_law_lies (P := l.prog) (w := w) (base := base) T D_law_less D_law_ends
  exact ok_law T (fun_mk lk c k) D_holds D_law_bag D_law_get D_law_pick D_law_same D_law_plus D_law_minus D_law_some_part D_law_box D_law_ends D_law_lies
end Cc
open PySem PySem.W PyProof.Rows
set_option maxRecDepth 100000 in
set_option maxHeartbeats 0 in
theorem PySem.Challenge.cw_calmcuts_k08_points_in_boxes_holds : PySem.Challenge.rw_calmcuts_k08_points_in_boxes.Holds := by
  w_on; o_law; k_head; (case hw => w_witness2)
  k_fill
  refine L2.walk_of (l := PySem.Challenge.rw_calmcuts_k08_points_in_boxes) (n := 63) (k := 7) (x := "_law_script") (CX := fun _ => L2.CX0) (sp := fun w => Cc.spLaw _) rfl (by decide) rfl ⟨rfl, by decide, by decide⟩ (fun w h Y => PySem.W.kIn_of Y) ?F (fun _ _ a ns hl _ hS => ⟨a, ns, rfl, hS, hl, fun _ => rfl⟩) (fun _ _ _ _ _ h => h)
  case F =>
    intro w mg fa h KX G hmg
    refine' Cc.law_of hmg ?T KX G ?a ?l ?c ?k
    (case a => k_is); (case l => k_is); (case c => k_is); (case k => k_is)
    (case T =>
      refine' ⟨?d_is_number, ?d_is_part, ?d_part, ?d_plus, ?d_less, ?d_is_box, ?d_holds, ?d_check_box, ?d_lies_in, ?d_law_bag, ?d_law_get, ?d_law_pick, ?d_law_far, ?d_law_same, ?d_law_gcd, ?d_law_part, ?d_law_plus, ?d_law_minus, ?d_law_less, ?d_law_number, ?d_law_some_part, ?d_law_above, ?d_law_small_box, ?d_law_box, ?d_law_ends, ?d_law_lies, PySem.W.mg_none_of KX G ?m_abs, PySem.W.mg_none_of KX G ?m_all, PySem.W.mg_none_of KX G ?m_bool, PySem.W.mg_none_of KX G ?m_dict, PySem.W.mg_none_of KX G ?m_int, PySem.W.mg_none_of KX G ?m_isinstance, PySem.W.mg_none_of KX G ?m_len, PySem.W.mg_none_of KX G ?m_list, PySem.W.mg_none_of KX G ?m_range, PySem.W.mg_none_of KX G ?m_str, PySem.W.mg_none_of KX G ?m_tuple, PySem.W.mg_none_of KX G ?m_zip, ?m_NOUGHT, PySem.W.mg_of KX G ?m_gcd⟩
      (case d_is_number => refine' Cc.defAt_mk KX G ?a ?l ?c ?k (fun _ _ _ _ _ _ us hl => match us, hl with | [_], _ => rfl); (case a => k_is); (case l => k_is); (case c => k_is); (case k => k_is))
      (case d_is_part => refine' Cc.defAt_mk KX G ?a ?l ?c ?k (fun _ _ _ _ _ _ us hl => match us, hl with | [_], _ => rfl); (case a => k_is); (case l => k_is); (case c => k_is); (case k => k_is))
      (case d_part => refine' Cc.defAt_mk KX G ?a ?l ?c ?k (fun _ _ _ _ _ _ us hl => match us, hl with | [_, _], _ => rfl); (case a => k_is); (case l => k_is); (case c => k_is); (case k => k_is))
      (case d_plus => refine' Cc.defAt_mk KX G ?a ?l ?c ?k (fun _ _ _ _ _ _ us hl => match us, hl with | [_, _], _ => rfl); (case a => k_is); (case l => k_is); (case c => k_is); (case k => k_is))
      (case d_less => refine' Cc.defAt_mk KX G ?a ?l ?c ?k (fun _ _ _ _ _ _ us hl => match us, hl with | [_, _], _ => rfl); (case a => k_is); (case l => k_is); (case c => k_is); (case k => k_is))
      (case d_is_box => refine' Cc.defAt_mk KX G ?a ?l ?c ?k (fun _ _ _ _ _ _ us hl => match us, hl with | [_], _ => rfl); (case a => k_is); (case l => k_is); (case c => k_is); (case k => k_is))
      (case d_holds => refine' Cc.defAt_mk KX G ?a ?l ?c ?k (fun _ _ _ _ _ _ us hl => match us, hl with | [_, _, _], _ => rfl); (case a => k_is); (case l => k_is); (case c => k_is); (case k => k_is))
      (case d_check_box => refine' Cc.defAt_mk KX G ?a ?l ?c ?k (fun _ _ _ _ _ _ us hl => match us, hl with | [_], _ => rfl); (case a => k_is); (case l => k_is); (case c => k_is); (case k => k_is))
      (case d_lies_in => refine' Cc.defAt_mk KX G ?a ?l ?c ?k (fun _ _ _ _ _ _ us hl => match us, hl with | [_, _, _], _ => rfl); (case a => k_is); (case l => k_is); (case c => k_is); (case k => k_is))
      (case d_law_bag => refine' Cc.defAt_mk KX G ?a ?l ?c ?k (fun _ _ _ _ _ _ us hl => match us, hl with | [_], _ => rfl); (case a => k_is); (case l => k_is); (case c => k_is); (case k => k_is))
      (case d_law_get => refine' Cc.defAt_mk KX G ?a ?l ?c ?k (fun _ _ _ _ _ _ us hl => match us, hl with | [_, _], _ => rfl); (case a => k_is); (case l => k_is); (case c => k_is); (case k => k_is))
      (case d_law_pick => refine' Cc.defAt_mk KX G ?a ?l ?c ?k (fun _ _ _ _ _ _ us hl => match us, hl with | [_, _], _ => rfl); (case a => k_is); (case l => k_is); (case c => k_is); (case k => k_is))
      (case d_law_far => refine' Cc.defAt_mk KX G ?a ?l ?c ?k (fun _ _ _ _ _ _ us hl => match us, hl with | [_, _], _ => rfl); (case a => k_is); (case l => k_is); (case c => k_is); (case k => k_is))
      (case d_law_same => refine' Cc.defAt_mk KX G ?a ?l ?c ?k (fun _ _ _ _ _ _ us hl => match us, hl with | [_, _], _ => rfl); (case a => k_is); (case l => k_is); (case c => k_is); (case k => k_is))
      (case d_law_gcd => refine' Cc.defAt_mk KX G ?a ?l ?c ?k (fun _ _ _ _ _ _ us hl => match us, hl with | [_, _], _ => rfl); (case a => k_is); (case l => k_is); (case c => k_is); (case k => k_is))
      (case d_law_part => refine' Cc.defAt_mk KX G ?a ?l ?c ?k (fun _ _ _ _ _ _ us hl => match us, hl with | [_, _], _ => rfl); (case a => k_is); (case l => k_is); (case c => k_is); (case k => k_is))
      (case d_law_plus => refine' Cc.defAt_mk KX G ?a ?l ?c ?k (fun _ _ _ _ _ _ us hl => match us, hl with | [_, _], _ => rfl); (case a => k_is); (case l => k_is); (case c => k_is); (case k => k_is))
      (case d_law_minus => refine' Cc.defAt_mk KX G ?a ?l ?c ?k (fun _ _ _ _ _ _ us hl => match us, hl with | [_, _], _ => rfl); (case a => k_is); (case l => k_is); (case c => k_is); (case k => k_is))
      (case d_law_less => refine' Cc.defAt_mk KX G ?a ?l ?c ?k (fun _ _ _ _ _ _ us hl => match us, hl with | [_, _], _ => rfl); (case a => k_is); (case l => k_is); (case c => k_is); (case k => k_is))
      (case d_law_number => refine' Cc.defAt_mk KX G ?a ?l ?c ?k (fun _ _ _ _ _ _ us hl => match us, hl with | [_], _ => rfl); (case a => k_is); (case l => k_is); (case c => k_is); (case k => k_is))
      (case d_law_some_part => refine' Cc.defAt_mk KX G ?a ?l ?c ?k (fun _ _ _ _ _ _ us hl => match us, hl with | [_], _ => rfl); (case a => k_is); (case l => k_is); (case c => k_is); (case k => k_is))
      (case d_law_above => refine' Cc.defAt_mk KX G ?a ?l ?c ?k (fun _ _ _ _ _ _ us hl => match us, hl with | [_], _ => rfl); (case a => k_is); (case l => k_is); (case c => k_is); (case k => k_is))
      (case d_law_small_box => refine' Cc.defAt_mk KX G ?a ?l ?c ?k (fun _ _ _ _ _ _ us hl => match us, hl with | [_], _ => rfl); (case a => k_is); (case l => k_is); (case c => k_is); (case k => k_is))
      (case d_law_box => refine' Cc.defAt_mk KX G ?a ?l ?c ?k (fun _ _ _ _ _ _ us hl => match us, hl with | [_], _ => rfl); (case a => k_is); (case l => k_is); (case c => k_is); (case k => k_is))
      (case d_law_ends => refine' Cc.defAt_mk KX G ?a ?l ?c ?k (fun _ _ _ _ _ _ us hl => match us, hl with | [_], _ => rfl); (case a => k_is); (case l => k_is); (case c => k_is); (case k => k_is))
      (case d_law_lies => refine' Cc.defAt_mk KX G ?a ?l ?c ?k (fun _ _ _ _ _ _ us hl => match us, hl with | [_, _, _], _ => rfl); (case a => k_is); (case l => k_is); (case c => k_is); (case k => k_is))
      (case m_abs => k_is)
      (case m_all => k_is)
      (case m_bool => k_is)
      (case m_dict => k_is)
      (case m_int => k_is)
      (case m_isinstance => k_is)
      (case m_len => k_is)
      (case m_list => k_is)
      (case m_range => k_is)
      (case m_str => k_is)
      (case m_tuple => k_is)
      (case m_zip => k_is)
      (case m_NOUGHT => refine' Cc.nought_mk KX G ?a ?l; (case a => k_is); (case l => k_is))
      (case m_gcd => k_is))
