import PyProof.Rows.All
import Wide.All
import OpenK.AllK
import Wide.FinOn
import HandS.Base
import HandS.Call
import HandS.List
import HandS.Comp
import HandS.Iter
import HandS.Text
import HandS.Words
import HandS.Codes
import PyProof.NoPylong
import PyProof.Fits
import Flt.Len
import KE.KMathG
import HandS.Gcd
import PySem.Challenge.RW_calmcuts_k03_whole_parts_there_and_back
set_option Elab.async false
set_option linter.all false
set_option maxRecDepth 100000
namespace Cc
/-! ### parts as rationals -/
/-- sizes: |num| and den below 2^n -/
def Sz (n : Nat) (q : Rat) : Prop := q.num.natAbs < 2 ^ n ∧ q.den < 2 ^ n
theorem den_pos (q : Rat) : (0 : Int) < (q.den : Int) := by
  have := q.den_nz
  omega
theorem divInt_own (q : Rat) : Rat.divInt q.num q.den = q := by
  rw [Rat.divInt_ofNat]
  exact Rat.mkRat_self q
theorem dv_add (x y : Rat) : Rat.divInt (x.num * y.den + y.num * x.den) (x.den * y.den) = x + y := by
  have h := Rat.divInt_add_divInt x.num y.num (Int.ne_of_gt (den_pos x)) (Int.ne_of_gt (den_pos y))
  rw [divInt_own, divInt_own] at h
  exact h.symm
theorem dv_mul (x y : Rat) : Rat.divInt (x.num * y.num) (x.den * y.den) = x * y := by
  have h := Rat.divInt_mul_divInt x.num y.num (d₁ := x.den) (d₂ := y.den)
  rw [divInt_own, divInt_own] at h
  exact h.symm
theorem dv_sub (x y : Rat) : Rat.divInt (x.num * y.den - y.num * x.den) (x.den * y.den) = x - y := by
  have h := Rat.divInt_add_divInt x.num (-y.num) (Int.ne_of_gt (den_pos x)) (Int.ne_of_gt (den_pos y))
  rw [divInt_own, ← Rat.neg_divInt, divInt_own] at h
  rw [Rat.sub_eq_add_neg, h, Int.neg_mul, Int.sub_eq_add_neg]
theorem dv_div (x y : Rat) : Rat.divInt (x.num * y.den) (x.den * y.num) = x / y := by
  rw [Rat.div_def]
  have h := Rat.divInt_mul_divInt x.num y.den (d₁ := x.den) (d₂ := y.num)
  rw [divInt_own] at h
  rw [← h]
  congr 1
  rw [← Rat.inv_divInt, divInt_own]
theorem num_zero_iff (q : Rat) : q.num = 0 ↔ q = 0 := by
  constructor
  · intro h
    have := divInt_own q
    rw [h, Rat.zero_divInt] at this
    exact this.symm
  · rintro rfl
    rfl
theorem rat_ext {x y : Rat} (h1 : x.num = y.num) (h2 : x.den = y.den) : x = y := by
  rw [← divInt_own x, ← divInt_own y, h1, h2]
/-- x is a/c in lowest terms: what part(a, c) computes -/
theorem divInt_num_eq {a c : Int} (h : 0 < c) : (Rat.divInt a c).num = a / ((Int.gcd a c : Nat) : Int) ∧ ((Rat.divInt a c).den : Int) = c / ((Int.gcd a c : Nat) : Int) := by
  have hc : c = ((c.toNat : Nat) : Int) := by omega
  have h0 : c.toNat ≠ 0 := by omega
  rw [hc, Rat.divInt_ofNat]
  have e1 := Rat.num_mkRat a c.toNat
  have e2 := Rat.den_mkRat a c.toNat
  rw [if_neg h0] at e1 e2
  have eg : Int.gcd a ((c.toNat : Nat) : Int) = c.toNat.gcd a.natAbs := by
    rw [Int.gcd_eq_natAbs_gcd_natAbs, Int.natAbs_natCast, Nat.gcd_comm]
  rw [e1, e2, eg]
  exact ⟨rfl, by rw [Int.natCast_ediv]⟩
theorem divInt_num_neg {a c : Int} (h : c < 0) : (Rat.divInt a c).num = a.fdiv (-((Int.gcd a c : Nat) : Int)) ∧ ((Rat.divInt a c).den : Int) = c.fdiv (-((Int.gcd a c : Nat) : Int)) := by
  have g := divInt_num_eq (a := -a) (c := -c) (by omega)
  rw [Rat.neg_divInt_neg, Int.neg_gcd, Int.gcd_neg] at g
  have nf : ∀ x : Int, x.fdiv (-((Int.gcd a c : Nat) : Int)) = (-x) / ((Int.gcd a c : Nat) : Int) := fun x => by
    have h1 := Int.neg_fdiv_neg (-x) ((Int.gcd a c : Nat) : Int)
    rw [Int.neg_neg] at h1
    rw [h1, Int.fdiv_eq_ediv_of_nonneg _ (Int.natCast_nonneg _)]
  rw [nf, nf]
  exact g
theorem size_divInt {a c : Int} {n : Nat} (h : c ≠ 0) (ha : a.natAbs < 2 ^ n) (hc : c.natAbs < 2 ^ n) : Sz n (Rat.divInt a c) := by
  have key : ∀ {a c : Int}, 0 < c → a.natAbs < 2 ^ n → c.natAbs < 2 ^ n → Sz n (Rat.divInt a c) := by
    intro a c h ha hc
    obtain ⟨e1, e2⟩ := divInt_num_eq (a := a) h
    constructor
    · rw [e1]
      have hd : ((Int.gcd a c : Nat) : Int) ∣ a := Int.gcd_dvd_left ..
      rw [Int.natAbs_ediv_of_dvd hd, Int.natAbs_natCast]
      exact Nat.lt_of_le_of_lt (Nat.div_le_self _ _) ha
    · have e3 : (Rat.divInt a c).den = c.natAbs / Int.gcd a c := by
        have hd : ((Int.gcd a c : Nat) : Int) ∣ c := Int.gcd_dvd_right ..
        have e4 := congrArg Int.natAbs e2
        rw [Int.natAbs_natCast, Int.natAbs_ediv_of_dvd hd, Int.natAbs_natCast] at e4
        exact e4
      rw [e3]
      exact Nat.lt_of_le_of_lt (Nat.div_le_self _ _) hc
  rcases Int.lt_trichotomy c 0 with h1 | h1 | h1
  · rw [← Rat.neg_divInt_neg]
    exact key (by omega) (by omega) (by omega)
  · exact absurd h1 h
  · exact key h1 ha hc
theorem natAbs_add_lt {a b : Int} {m n : Nat} (ha : a.natAbs < 2 ^ m) (hb : b.natAbs < 2 ^ n) : (a + b).natAbs < 2 ^ (max m n + 1) := by
  have h1 : 2 ^ m ≤ 2 ^ max m n := Nat.pow_le_pow_right (by decide) (Nat.le_max_left ..)
  have h2 : 2 ^ n ≤ 2 ^ max m n := Nat.pow_le_pow_right (by decide) (Nat.le_max_right ..)
  rw [Nat.pow_succ]
  omega
theorem natAbs_sub_lt {a b : Int} {m n : Nat} (ha : a.natAbs < 2 ^ m) (hb : b.natAbs < 2 ^ n) : (a - b).natAbs < 2 ^ (max m n + 1) := by
  rw [Int.sub_eq_add_neg]
  exact natAbs_add_lt ha (by rw [Int.natAbs_neg]; exact hb)
theorem natAbs_mul_lt {a b : Int} {m n : Nat} (ha : a.natAbs < 2 ^ m) (hb : b.natAbs < 2 ^ n) : (a * b).natAbs < 2 ^ (m + n) := by
  rw [Int.natAbs_mul, Nat.pow_add]
  exact Nat.mul_lt_mul'' ha hb
theorem pow_mono_lt {a m n : Nat} (h : a < 2 ^ m) (hm : m ≤ n) : a < 2 ^ n := Nat.lt_of_lt_of_le h (Nat.pow_le_pow_right (by decide) hm)
theorem Sz.mono {m n : Nat} {q : Rat} (h : Sz m q) (hm : m ≤ n) : Sz n q := ⟨pow_mono_lt h.1 hm, pow_mono_lt h.2 hm⟩
theorem Sz.pos {n : Nat} {q : Rat} (h : Sz n q) : 0 < n := by
  have h1 := h.2
  have h2 := q.den_nz
  rcases Nat.eq_zero_or_pos n with h3 | h3
  · subst h3
    omega
  · exact h3
theorem sz_add {m n k : Nat} {x y : Rat} (hx : Sz m x) (hy : Sz n y) (h : m + n + 1 ≤ k) : Sz k (x + y) := by
  refine Sz.mono (m := m + n + 1) ?_ h
  rw [← dv_add]
  refine size_divInt ?_ ?_ ?_
  · have h1 := den_pos x
    have h2 := den_pos y
    exact Int.ne_of_gt (Int.mul_pos h1 h2)
  · have h1 := natAbs_add_lt (natAbs_mul_lt hx.1 (b := (y.den : Int)) (n := n) (by rw [Int.natAbs_natCast]; exact hy.2)) (natAbs_mul_lt hy.1 (b := (x.den : Int)) (n := m) (by rw [Int.natAbs_natCast]; exact hx.2))
    exact pow_mono_lt h1 (by omega)
  · exact pow_mono_lt (natAbs_mul_lt (a := (x.den : Int)) (b := (y.den : Int)) (m := m) (n := n) (by rw [Int.natAbs_natCast]; exact hx.2) (by rw [Int.natAbs_natCast]; exact hy.2)) (by omega)
theorem sz_neg {m : Nat} {x : Rat} (hx : Sz m x) : Sz m (-x) := by
  constructor
  · rw [Rat.neg_num, Int.natAbs_neg]
    exact hx.1
  · rw [Rat.neg_den]
    exact hx.2
theorem sz_sub {m n k : Nat} {x y : Rat} (hx : Sz m x) (hy : Sz n y) (h : m + n + 1 ≤ k) : Sz k (x - y) := by
  rw [Rat.sub_eq_add_neg]
  exact sz_add hx (sz_neg hy) h
theorem sz_mul {m n k : Nat} {x y : Rat} (hx : Sz m x) (hy : Sz n y) (h : m + n ≤ k) : Sz k (x * y) := by
  refine Sz.mono (m := m + n) ?_ h
  rw [← dv_mul]
  refine size_divInt ?_ ?_ ?_
  · exact Int.ne_of_gt (Int.mul_pos (den_pos x) (den_pos y))
  · exact natAbs_mul_lt hx.1 hy.1
  · exact natAbs_mul_lt (a := (x.den : Int)) (b := (y.den : Int)) (m := m) (n := n) (by rw [Int.natAbs_natCast]; exact hx.2) (by rw [Int.natAbs_natCast]; exact hy.2)
theorem sz_div {m n k : Nat} {x y : Rat} (hx : Sz m x) (hy : Sz n y) (h0 : y ≠ 0) (h : m + n ≤ k) : Sz k (x / y) := by
  refine Sz.mono (m := m + n) ?_ h
  rw [← dv_div]
  refine size_divInt ?_ ?_ ?_
  · have h1 : y.num ≠ 0 := fun z => h0 ((num_zero_iff y).mp z)
    exact Int.mul_ne_zero (Int.ne_of_gt (den_pos x)) h1
  · exact natAbs_mul_lt (b := (y.den : Int)) hx.1 (by rw [Int.natAbs_natCast]; exact hy.2)
  · exact natAbs_mul_lt (a := (x.den : Int)) (by rw [Int.natAbs_natCast]; exact hx.2) hy.1
theorem dv_cancel (x : Rat) {d : Int} (h : d ≠ 0) : Rat.divInt (x.num * d) (d * x.den) = x := by
  have e := Rat.divInt_mul_divInt x.num d (d₁ := x.den) (d₂ := d)
  rw [divInt_own, Rat.divInt_self' h, Rat.mul_one] at e
  rw [Int.mul_comm d, ← e]
theorem far_size {r e : Int} {k : Nat} (h0 : 0 ≤ r) (h1 : r < 1000 ^ k) (hk : k ≤ 20) (he : e = 0 ∨ e = 1) : ((r + 1) * (1 - 2 * e)).natAbs < 2 ^ 200 := by
  have h2 : (1000 : Int) ^ k ≤ 1000 ^ 20 := by
    have h := Nat.pow_le_pow_right (n := 1000) (by decide) hk
    have e : ∀ n : Nat, (1000 : Int) ^ n = ((1000 ^ n : Nat) : Int) := fun n => (Int.natCast_pow 1000 n).symm
    rw [e, e]
    exact Int.ofNat_le.mpr h
  have h3 : (1000 : Int) ^ 20 < 2 ^ 200 := by decide
  have h4 : (2 : Int) ^ 200 = ((2 ^ 200 : Nat) : Int) := by decide
  have h5 : r + 1 < ((2 ^ 200 : Nat) : Int) := by omega
  generalize (2 ^ 200 : Nat) = N at *
  rcases he with rfl | rfl
  · rw [show (1 - 2 * 0 : Int) = 1 by decide, Int.mul_one]
    omega
  · rw [show (1 - 2 * 1 : Int) = -1 by decide, Int.mul_neg, Int.mul_one]
    omega
theorem gcd_step (x y : Int) : Int.gcd y (x % y) = Int.gcd x y := by
  have h := Int.gcd_add_mul_left_right y (x % y) (x / y)
  rw [Int.emod_add_mul_ediv] at h
  rw [← h, Int.gcd_comm]
end Cc
namespace Cc
open PySem PySem.Spec PyProof.Rows L2
/-! ### operators of ints of any size -/
/-- // by a divisor of any sign, below 2 ^ 9000 -/
def CDivA (_ j : Int) : Prop := j ≠ 0 ∧ j.natAbs < 2 ^ 9000
/-- * : one factor small, or both together below a million bits -/
def CMulA (i j : Int) : Prop := CMul i j ∨ ∃ a b : Nat, i.natAbs < 2 ^ a ∧ j.natAbs < 2 ^ b ∧ a + b ≤ 900000
theorem CMulA.ok {i j : Int} (h : CMulA i j) : IntMulOk i j := by
  rcases h with h | ⟨a, b, ha, hb, hab⟩
  · exact h.ok
  · have ha' := pow_mono_lt ha (Nat.le_succ a)
    have hb' := pow_mono_lt hb (Nat.le_succ b)
    have x := PySem.Flt.log2_lt_of (Nat.succ_pos a) ha'
    have y := PySem.Flt.log2_lt_of (Nat.succ_pos b) hb'
    have bb : ∀ x : Int, Builtin.Int.intBits x ≤ x.natAbs.log2 + 1 := fun x => by
      unfold Builtin.Int.intBits
      split <;> omega
    have h1 := bb i
    have h2 := bb j
    have e : bitsLine = 134217728 := by decide
    unfold IntMulOk
    intro z
    rw [Bool.and_eq_true] at z
    have z2 := z.2
    unfold Builtin.Int.intTooBig at z2
    have z3 := of_decide_eq_true z2
    rw [e] at z3
    omega
section
variable {X : Cx}
theorem op_fdivA : OpR X (binaryOp .FloorDiv) (rI CDivA fun i j => .int (i.fdiv j)) := opI fun i j _ _ _ _ _ hc q =>
  floordiv_int hc.1 q (.inl (PyProof.noPylong_of_log2 (PySem.Flt.log2_lt_of (by decide) hc.2)))
theorem op_mulA : OpR X (binaryOp .Mult) (rI CMulA fun i j => .int (i * j)) := opI fun _ _ _ _ _ _ _ hc q => mul_int q hc.ok
end
theorem cmul_l {i j : Int} (h : -(2 ^ 64) < i ∧ i < 2 ^ 64) : CMulA i j := .inl (.inl h)
theorem cmul_r {i j : Int} (h : -(2 ^ 64) < j ∧ j < 2 ^ 64) : CMulA i j := .inl (.inr h)
theorem cmul_w {i j : Int} {a b : Nat} (ha : i.natAbs < 2 ^ a) (hb : j.natAbs < 2 ^ b) (h : a + b ≤ 900000) : CMulA i j := .inr ⟨a, b, ha, hb, h⟩
/-! ### a def of the program, by its name -/
/-- the def of that name keeps the promise -/
def DefOk (P : Program) (w : World) (K : PySem.W.Frag) (mg : Str → Option Value) (base : Heap) (k : Nat) (x : Str) (ps : List Str) (sp : Sp) : Prop :=
  ∃ f fd, FnOk P w K mg base CX0 k f fd ps sp ∧ mg x = some (.ref f) ∧ PySem.W.keepIn K (.ref f) = true ∧ Binds K fd ps []
/-- the def as the top has left it -/
def DefAt (K : PySem.W.Frag) (mg : Str → Option Value) (x : Str) (st : Stmt) (ps : List Str) : Prop :=
  ∃ f fd, Fun K x x st f fd ∧ mg x = some (.ref f) ∧ Binds K fd ps []
theorem defAt_mk {K : PySem.W.Frag} {mg : Str → Option Value} {h : Heap} {x : Str} {st : Stmt} {ps : List Str} (X : K.In h) (G : h.Ns mainGlobals mg) {f : Addr} {oc : Value} {od an : Option Addr} {osl : Array (Option Value)} {kV doc pm cdv ct : Value}
    (a : PySem.W.nsIn K mainGlobals x = some (some (.ref f))) (l : K.lookup f = some ⟨oc, od, .func (PySem.W.fnOf x x (defArgs st) (defBody st) (defScope st) .none kV doc pm an cdv ct), osl⟩) (c : PySem.W.codeIn K cdv x = true) (k : PySem.W.keepIn K (.ref f) = true)
    (hb : ∀ (kV doc pm : Value) (an : Option Addr) (cdv ct : Value) (us : List Value), us.length = ps.length → bindArgs (PySem.W.fnOf x x (defArgs st) (defBody st) (defScope st) .none kV doc pm an cdv ct) ⟨us, []⟩ = pure (ps.zip us)) : DefAt K mg x st ps :=
  ⟨f, _, fun_mk l c k, PySem.W.mg_of X G a, (fun_mk l c k).binds hb⟩
section
variable {X : Cx} {k j : Nat} {x : Str} {ps : List Str} {sp : Sp} {p pos : Pos} {e : Expr} {es : List Expr} {t : TA}
theorem pe_callD (D : DefOk X.prog X.w X.K X.mg X.base k x ps sp) (hr : Room j X.A) (hkj : k ≤ j) (hg : Gl X x) (ha : PA X (e :: es) t) (hdb : (x == ("__debug__" : Str)) = false := by decide)
    (he : starEach (e :: es) X.env = (false, eval e X.env) :: starEach es X.env := by rfl) (hpl : (backTo pos (starEach es X.env)).any (·.1) = false := by rfl) :
    PE X (.Call (.Name x p) (e :: es) [] pos) (tCall sp [] E0 t) := by
  obtain ⟨f, fd, F, hm, hk, hb⟩ := D
  exact pe_call F (hr.mono hkj) hg hm hk hb .nil pass0 ha hdb he hpl
end
theorem DefAt.ok {P : Program} {w : World} {K : PySem.W.Frag} {mg : Str → Option Value} {base : Heap} {x : Str} {st : Stmt} {N ps : List Str} {k : Nat} {sp : Sp} (F : DefAt K mg x st ps) (S : FnScope N ps (defScope st)) (len : ∀ vs H Q E, sp vs H Q E → vs.length = ps.length)
    (hbody : ∀ (f : Addr) (cdv : Value) (A : Around) (outer : List Env) (s : Shared) (H : Hp) (vs : List V) (Q : VK) (E : XK), Room k (A.deeper (envOfC x (defScope st) s.heap.objs.size f cdv)) → sp vs H Q E →
      ∃ t, PSs (cxOf CX0 P w K mg base N x (defScope st) f cdv A outer s H E).nox (defBody st) t ∧ t { nx := fun _ H' => Q .non H', rt := Q } (start N vs) H) : DefOk P w K mg base (k + 1) x ps sp := by
  obtain ⟨f, fd, F, hm, hb⟩ := F
  exact ⟨f, fd, F.ok S len (hbody f), hm, F.kp, hb⟩
/-! ### tests -/
theorem iteB {c : Bool} {A B : Prop} (h1 : c = true → A) (h2 : c = false → B) : if c = true then A else B := by
  cases c with
  | true => exact iteT (h1 rfl)
  | false => exact iteF (h2 rfl)
theorem iteD {c A B : Prop} {i : Decidable c} (h1 : c → A) (h2 : ¬ c → B) : if (@decide c i) = true then A else B := by
  by_cases h : c
  · rw [if_pos (decide_eq_true h)]
    exact h1 h
  · rw [if_neg (by rw [decide_eq_false h]; exact Bool.false_ne_true)]
    exact h2 h
theorem iteDT {c A B : Prop} {i : Decidable c} (h : c) (h1 : A) : if (@decide c i) = true then A else B := iteD (fun _ => h1) (fun z => absurd h z)
theorem iteDF {c A B : Prop} {i : Decidable c} (h : ¬ c) (h1 : B) : if (@decide c i) = true then A else B := iteD (fun z => absurd z h) (fun _ => h1)
/-! ### heaps -/
theorem same_new {H : Hp} {p : Addr} {o : HO} (h : H p = none) : Same H (upd H p o) := fun b x e => by
  rw [upd_ne (ne_of_none e h)]
  exact e
/-- all but what stands at b is as it was -/
def Kp (b : Addr) (H H' : Hp) : Prop := ∀ a o, H a = some o → a ≠ b → H' a = some o
theorem Kp.refl (b : Addr) (H : Hp) : Kp b H H := fun _ _ h _ => h
theorem Kp.trans {b : Addr} {H H1 H2 : Hp} (x : Kp b H H1) (y : Kp b H1 H2) : Kp b H H2 := fun a o h n => y a o (x a o h n) n
theorem Kp.of {b : Addr} {H H' : Hp} (h : Same H H') : Kp b H H' := fun a o e _ => h a o e
theorem Kp.upd {b : Addr} {H : Hp} {o : HO} : Kp b H (upd H b o) := fun a u e n => by
  rw [upd_ne n]
  exact e
/-- xs[k] = v, the heap behind it a letter -/
theorem setL_step {H : Hp} {p : Addr} {xs ys : List V} {k : Int} {j : Nat} {v : V} {Q : Hp → Prop} (hp : H p = some (.lst xs)) (hj : ixN xs.length k = some j) (hy : xs.set j v = ys) (h : ∀ H1, H1 p = some (.lst ys) → Kp p H H1 → Q H1) :
    rSetL (.ref p) (.int k) v H Q := ⟨p, xs, k, j, rfl, rfl, hp, hj, h _ (by rw [hy]; exact upd_same) Kp.upd⟩
/-! ### parts as they stand -/
section
variable {K : PySem.W.Frag} {H H' : Hp}
def PtV (K : PySem.W.Frag) (H : Hp) (v : V) (q : Rat) : Prop := ∃ a, v = .ref a ∧ SqT K H a [.int q.num, .int (q.den : Int)]
theorem seqT_same {a : Addr} {xs : List V} (e : Same H H') (h : SqT K H a xs) : SqT K H' a xs := by
  rcases h with (h | ⟨o, h⟩) | h
  · exact .inl (.inl (e _ _ h))
  · exact .inl (.inr ⟨o, e _ _ h⟩)
  · exact .inr h
theorem seqT_kp {b a : Addr} {xs ys : List V} (e : Kp b H H') (hb : H b = some (.lst ys)) (h : SqT K H a xs) : SqT K H' a xs := by
  rcases h with (h | ⟨o, h⟩) | h
  · exact .inl (.inl (e _ _ h (ne_of h hb (by intro z; cases z))))
  · exact .inl (.inr ⟨o, e _ _ h (ne_of h hb (by intro z; cases z))⟩)
  · exact .inr h
theorem PtV.same {v : V} {q : Rat} (h : PtV K H v q) (e : Same H H') : PtV K H' v q := by
  obtain ⟨a, rfl, h⟩ := h
  exact ⟨a, rfl, seqT_same e h⟩
theorem PtV.kp {b : Addr} {ys : List V} {v : V} {q : Rat} (h : PtV K H v q) (e : Kp b H H') (hb : H b = some (.lst ys)) : PtV K H' v q := by
  obtain ⟨a, rfl, h⟩ := h
  exact ⟨a, rfl, seqT_kp e hb h⟩
theorem PtV.new {p : Addr} {q : Rat} {a c : Int} (h1 : q.num = a) (h2 : (q.den : Int) = c) : PtV K (upd H p (.tup [.int a, .int c])) (.ref p) q := by
  refine ⟨p, rfl, SqT.of ?_⟩
  rw [upd_same, h1, h2]
def dPart (q : Rat) : PyData := .tuple [.int q.num, .int (q.den : Int)]
theorem PtV.dp {v : V} {q : Rat} (h : PtV K H v q) : Dp K H v (dPart q) := by
  obtain ⟨a, rfl, h⟩ := h
  exact .tup h (.cons (.int _) (.cons (.int _) .nil))
theorem dPart_shaped (q : Rat) : SeqAt.shaped (dPart q) = true := by
  rfl
theorem eqv_part (x y : Rat) : PyData.eqv (dPart x) (dPart y) = decide (x = y) := by
  show (x.num == y.num && ((x.den : Int) == (y.den : Int) && true)) = decide (x = y)
  by_cases h : x = y
  · subst h
    simp
  · rw [decide_eq_false h]
    by_cases h1 : x.num = y.num
    · have h2 : ¬ (x.den : Int) = (y.den : Int) := fun z => h (rat_ext h1 (by omega))
      simp [h2]
    · simp [h1]
end
/-! ### the bag of the law -/
/-- at b: the bag; the cells of the script, the place, the rest, the mixed number, the count -/
def Bag (H : Hp) (b : Addr) : Prop := ∃ (c : Addr) (ns : List Int) (p r x q : Int), H b = some (.lst [.ref c, .int p, .int r, .int x, .int q]) ∧ H c = some (.lst (ns.map V.int)) ∧ c ≠ b ∧ ns.length ≤ 63 ∧ 0 ≤ p ∧ 0 ≤ x ∧ x < 2147483629
theorem Bag.lst {H : Hp} {b : Addr} (h : Bag H b) : ∃ ys, H b = some (.lst ys) := by
  obtain ⟨c, ns, p, r, x, q, h, _⟩ := h
  exact ⟨_, h⟩
theorem Bag.same {H H' : Hp} {b : Addr} (h : Bag H b) (e : Same H H') : Bag H' b := by
  obtain ⟨c, ns, p, r, x, q, h1, h2, h3⟩ := h
  exact ⟨c, ns, p, r, x, q, e _ _ h1, e _ _ h2, h3⟩
theorem PtV.bag {K : PySem.W.Frag} {H H' : Hp} {b : Addr} {v : V} {q : Rat} (h : PtV K H v q) (e : Kp b H H') (hb : Bag H b) : PtV K H' v q := by
  obtain ⟨ys, hb⟩ := hb.lst
  exact h.kp e hb
theorem cut63 {xs : List V} (h : xs.length ≤ 63) : cutV xs none (some 63) = xs := by
  unfold cutV
  rw [HT.sIx_none, show HT.sIx xs.length xs.length (some 63) = min 63 xs.length from HT.sIx_nat xs.length xs.length 63, List.drop_zero, Nat.sub_zero]
  exact List.take_of_length_le (by omega)
/-! ### the promises of the law's helpers -/
def spBag (K : PySem.W.Frag) : Sp := fun vs H Q _ => ∃ (a : Addr) (ns : List Int), vs = [.ref a] ∧ SqL K H a (ns.map V.int) ∧ ns.length ≤ 63 ∧ ∀ b H', H b = none → Same H H' → Bag H' b → Q (.ref b) H'
def spGet : Sp := fun vs H Q _ => ∃ (b : Addr) (m : Int), vs = [.ref b, .int m] ∧ Bag H b ∧ 0 < m ∧ m < 1073741824 ∧ ∀ r H', 0 ≤ r → r < m → Bag H' b → Kp b H H' → Q (.int r) H'
def spFar : Sp := fun vs H Q _ => ∃ (b : Addr) (k : Nat), vs = [.ref b, .int k] ∧ Bag H b ∧ k ≤ 300 ∧ ∀ (r : Int) H', 0 ≤ r → r < 1000 ^ k → Bag H' b → Kp b H H' → Q (.int r) H'
def spGcd : Sp := fun vs H Q _ => ∃ a c : Int, vs = [.int a, .int c] ∧ 0 ≤ a ∧ 0 ≤ c ∧ Q (.int (Int.gcd a c : Nat)) H
def spPart (K : PySem.W.Frag) : Sp := fun vs H Q _ => ∃ a c : Int, vs = [.int a, .int c] ∧ c ≠ 0 ∧ a.natAbs < 2 ^ 8000 ∧ c.natAbs < 2 ^ 8000 ∧ ∀ v H', Same H H' → PtV K H' v (Rat.divInt a c) → Q v H'
def spNumber : Sp := fun vs H Q _ => ∃ b : Addr, vs = [.ref b] ∧ Bag H b ∧ ∀ (r : Int) H', r.natAbs < 2 ^ 200 → Bag H' b → Kp b H H' → Q (.int r) H'
def spSomePart (K : PySem.W.Frag) : Sp := fun vs H Q _ => ∃ b : Addr, vs = [.ref b] ∧ Bag H b ∧ ∀ v q H', PtV K H' v q → Sz 201 q → Bag H' b → Kp b H H' → Q v H'
/-- two parts in, f of them out -/
@[irreducible] def spTwo (K : PySem.W.Frag) (C : Rat → Rat → Prop) (f : Rat → Rat → Rat) : Sp := fun vs H Q _ => ∃ (v w : V) (x y : Rat), vs = [v, w] ∧ PtV K H v x ∧ PtV K H w y ∧ Sz 3900 x ∧ Sz 3900 y ∧ C x y ∧ ∀ u H', Same H H' → PtV K H' u (f x y) → Q u H'
@[irreducible] def spLess (K : PySem.W.Frag) : Sp := fun vs H Q _ => ∃ (v w : V) (x y : Rat), vs = [v, w] ∧ PtV K H v x ∧ PtV K H w y ∧ Sz 3900 x ∧ Sz 3900 y ∧ ∀ r, r = V.bl (decide (x < y)) → Q r H
end Cc
namespace Cc
open PySem PySem.Spec PyProof.Rows L2
local macro_rules | `(tactic| walk_at "sd") => `(tactic| first
  | exact cmul_r ⟨by decide, by decide⟩
  | exact cmul_l ⟨by decide, by decide⟩
  | exact cmul_l ⟨by omega, by omega⟩
  | exact (show CPow 10 18 from ⟨by decide, by decide, by decide⟩)
  | exact (show (0 : Int) < 2147483629 by decide)
  | exact (show CDiv _ _ from ⟨by decide, by decide⟩)
  | exact (show CDiv _ _ from ⟨by assumption, by assumption⟩)
  | assumption)
local macro_rules | `(tactic| walk_at "rd") => `(tactic| first
  | refine ⟨_, rfl, ?_⟩
  | refine ⟨_, _, rfl, rfl, ?_⟩
  | (refine ⟨_, ?_, _, ?_, rfl, rfl, ?_, ?_, ?_⟩; rotate_left 2; exact SqL.of (by assumption); (first | exact rfl | assumption))
  | (refine ⟨_, ?_, rfl, ?_, ?_⟩; rotate_left 1; (first | exact .inl (SqL.of (by assumption)) | exact .inl (SqL.of upd_same)))
  | (refine And.intro ?_ ?_; (focus (walk_at "sd"))))
def top (i : Nat) : Stmt := PySem.Challenge.pw_calmcuts_k03_whole_parts_there_and_back.main.body.getD i (.Pass ⟨0, 0, 0, 0⟩)
section
variable {P : Program} {w : World} {K : PySem.W.Frag} {mg : Str → Option Value} {base : Heap}
abbrev s_gcd : Stmt := top 15
theorem sc_gcd : FnScope ["_law_one", "_law_other"] ["_law_one", "_law_other"] (defScope s_gcd) := ⟨rfl, rfl, rfl, by decide +kernel, rfl, by decide +kernel, by decide +kernel⟩
theorem ok_gcd (F : DefAt K mg "_law_gcd" s_gcd ["_law_one", "_law_other"]) : DefOk P w K mg base 1 "_law_gcd" ["_law_one", "_law_other"] spGcd := by
  refine F.ok sc_gcd (fun vs H Q E h => ?_) (fun f cdv A outer s H vs Q E hr h => ?_)
  · obtain ⟨a, c, rfl, _⟩ := h
    rfl
  · obtain ⟨a, c, rfl, ha, hc, q⟩ := h
    refine ⟨_, pss_cons (ps_while PassesOwn.never (pt_cmpR op_gt (pv 1) pe_int (nomark _))
        (pss_one (ps_par (i := 0) (j := 1) (by rfl) sc_gcd.nd rfl rfl (by decide) rfl rfl (pa_cons (pv 1) (pa_cons (pe_op op_mod (pv 0) (pv 1)) pa_nil)) (by rfl))))
      (pss_one (ps_ret (pv 0))), ?_⟩
    refine ⟨fun m σ H' => H' = H ∧ ∃ x y : Int, σ = [some (.int x), some (.int y)] ∧ 0 ≤ x ∧ 0 ≤ y ∧ Int.gcd x y = Int.gcd a c ∧ m = y.toNat, ⟨_, rfl, a, c, rfl, ha, hc, rfl, rfl⟩, ?_⟩
    rintro m σ H' ⟨rfl, x, y, rfl, hx, hy, hg, hm⟩
    refine ⟨_, rfl, _, _, rfl, rfl, _, rfl, ?_⟩
    refine ite2 (fun hd => ?_) (fun hd => ?_)
    · have hy0 : 0 < y := of_decide_eq_true hd
      refine ⟨fun σ' H'' => H'' = H' ∧ ∃ x' y' : Int, σ' = [some (.int x'), some (.int y')] ∧ 0 ≤ x' ∧ 0 ≤ y' ∧ Int.gcd x' y' = Int.gcd a c ∧ y'.toNat < m, fun σ' H'' h => ?_, ?_⟩
      · obtain ⟨rfl, x', y', rfl, h1, h2, h3, h4⟩ := h
        exact ⟨_, h4, rfl, x', y', rfl, h1, h2, h3, rfl⟩
      · refine ⟨_, rfl, _, rfl, _, rfl, _, _, rfl, rfl, hy0, _, _, rfl, rfl, y, x % y, rfl, hy, Int.emod_nonneg x (by omega), ?_, ?_⟩
        · rw [← hg, gcd_step]
        · have := Int.emod_lt_of_pos x hy0
          have := Int.emod_nonneg x (show y ≠ 0 by omega)
          omega
    · have hy0 : y = 0 := by
        have : ¬ 0 < y := fun z => hd (decide_eq_true z)
        omega
      subst hy0
      refine ⟨_, rfl, ?_⟩
      have e : ((Int.gcd a c : Nat) : Int) = x := by
        rw [← hg, Int.gcd_zero_right]
        omega
      rw [e] at q
      exact q
abbrev s_bag : Stmt := top 12
theorem sc_bag : FnScope ["_law_script"] ["_law_script"] (defScope s_bag) := ⟨rfl, rfl, rfl, by decide +kernel, rfl, by decide +kernel, by decide +kernel⟩
theorem ok_bag (F : DefAt K mg "_law_bag" s_bag ["_law_script"]) (mLen : mg "len" = none) (mList : mg "list" = none) : DefOk P w K mg base 1 "_law_bag" ["_law_script"] (spBag K) := by
  refine F.ok sc_bag (fun vs H Q E h => ?_) (fun f cdv A outer s H vs Q E hr h => ?_)
  · obtain ⟨a, ns, rfl, _⟩ := h
    rfl
  · obtain ⟨a, ns, rfl, hS, hlen, q⟩ := h
    refine ⟨_, pss_one (ps_ret (pe_lst (pa_cons (pe_callTy call_list_of (by rfl) mList (by decide +kernel) (pa_cons (pe_slice sl_list (pv 0) po_none (po_some pe_int)) pa_nil))
      (pa_cons pe_int (pa_cons pe_int (pa_cons (pe_op op_add pe_int (pe_callB call_len_seq (by rfl) mLen PySem.boot_len (pa_cons (pe_slice sl_list (pv 0) po_none (po_some pe_int)) pa_nil))) (pa_cons pe_int pa_nil))))))), ?_⟩
    have ec : cutV (ns.map V.int) none (some 63) = ns.map V.int := cut63 (by rw [List.length_map]; exact hlen)
    refine ⟨_, rfl, _, rfl, a, _, rfl, hS, fun p np => ⟨p, _, rfl, .inl (SqL.of upd_same), fun l nl => ?_⟩⟩
    rw [ec] at nl ⊢
    have s1 : Same H (upd H p (.lst (ns.map V.int))) := same_new np
    have s2 := s1.trans (same_new (o := .lst (ns.map V.int)) nl)
    refine ⟨_, rfl, _, rfl, a, _, rfl, s2.seq hS, fun p2 np2 => ⟨p2, _, rfl, .inl (SqL.of upd_same), ?_⟩⟩
    refine ⟨_, _, rfl, rfl, (show 5 ≤ sizeLine by decide), fun b nb => q b _ ?_ ?_ ?_⟩
    · exact (s2.trans (same_new np2)).free nb
    · exact (s2.trans (same_new np2)).trans (same_new nb)
    · have hl0 : (upd (upd H p (.lst (ns.map V.int))) l (.lst (ns.map V.int))) l = some (.lst (ns.map V.int)) := upd_same
      have s3 := (same_new (o := .lst (cutV (ns.map V.int) none (some 63))) np2).trans (same_new (o := HO.lst [V.ref l, V.int 0, V.int 0, V.int (9103 + ((cutV (ns.map V.int) none (some 63)).length : Nat)), V.int 0]) nb)
      refine ⟨l, ns, 0, 0, _, 0, upd_same, s3 _ _ hl0, ?_, hlen, Int.le_refl 0, ?_, ?_⟩
      · exact ne_of_none (same_new np2 _ _ hl0) nb
      all_goals
        rw [ec, List.length_map]
        omega
abbrev s_get : Stmt := top 13
theorem sc_get : FnScope ["_law_bag_here", "_law_most", "_law_cell", "_law_got", "_law_before"] ["_law_bag_here", "_law_most"] (defScope s_get) := ⟨rfl, rfl, rfl, by decide +kernel, rfl, by decide +kernel, by decide +kernel⟩
theorem ok_get (F : DefAt K mg "_law_get" s_get ["_law_bag_here", "_law_most"]) (mLen : mg "len" = none) : DefOk P w K mg base 1 "_law_get" ["_law_bag_here", "_law_most"] spGet := by
  refine F.ok sc_get (fun vs H Q E h => ?_) (fun f cdv A outer s H vs Q E hr h => ?_)
  · obtain ⟨a, c, rfl, _⟩ := h
    rfl
  · obtain ⟨b, m, rfl, hB, hm0, hm1, q⟩ := h
    refine ⟨_, C8.pss_cut (ps_if (PW.pt (pw_and (pt_cmpR op_lt (pe_ix ix_list (pv 0) pe_int (fun _ _ => rfl)) (pv 1) (nomark _)) (pw_and1 (pt_cmpR op_lt (pe_ix ix_list (pv 0) pe_int (fun _ _ => rfl)) (pe_callB call_len_seq (by rfl) mLen PySem.boot_len (pa_cons (pe_ix ix_list (pv 0) pe_int (fun _ _ => rfl)) pa_nil)) (nomark _)))))
      (pss_cons (ps_set (i := 2) sc_get.nd rfl (.inl rfl) (pe_ix ix_list (pe_ix ix_list (pv 0) pe_int (fun _ _ => rfl)) (pe_ix ix_list (pv 0) pe_int (fun _ _ => rfl)) (fun _ _ => rfl)))
      (pss_cons (ps_asg (pe_op op_add (pe_ix ix_list (pv 0) pe_int (fun _ _ => rfl)) pe_int) (pg_sub (pv 0) pe_int set_list))
      (pss_cons (ps_asg (pe_ifExp (pt_cmpR op_ge (pv 2) (pe_op op_pow pe_int pe_int) (nomark _)) (pe_op op_sub (pv 2) (pe_op op_pow pe_int pe_int)) pe_int) (pg_sub (pv 0) pe_int set_list))
      (pss_one (ps_asg (pe_op op_mod (pe_op op_add (pe_op op_add (pe_op op_mulA (pe_ix ix_list (pv 0) pe_int (fun _ _ => rfl)) pe_int) (pe_op op_mulA (pv 2) pe_int)) (pe_op op_mulA pe_int (pe_ix ix_list (pv 0) pe_int (fun _ _ => rfl)))) pe_int) (pg_sub (pv 0) pe_int set_list)))))) pss_nil)
      (pss_cons (ps_if (pt_cmpR op_ge (pe_ix ix_list (pv 0) pe_int (fun _ _ => rfl)) (pv 1) (nomark _))
        (pss_cons (ps_set (i := 3) sc_get.nd rfl (.inl rfl) (pe_op op_mod (pe_ix ix_list (pv 0) pe_int (fun _ _ => rfl)) (pv 1)))
        (pss_cons (ps_asg (pe_op op_fdiv (pe_ix ix_list (pv 0) pe_int (fun _ _ => rfl)) (pv 1)) (pg_sub (pv 0) pe_int set_list))
        (pss_one (ps_ret (pv 3))))) pss_nil)
      (pss_cons (ps_asg (pe_op op_add (pe_ix ix_list (pv 0) pe_int (fun _ _ => rfl)) pe_int) (pg_sub (pv 0) pe_int set_list))
      (pss_cons (ps_set (i := 4) sc_get.nd rfl (.inl rfl) (pe_ix ix_list (pv 0) pe_int (fun _ _ => rfl)))
      (pss_cons (ps_asg (pe_op op_mod (pe_op op_add (pe_op op_add (pe_op op_add (pe_op op_mulA (pv 4) (pv 4)) (pe_op op_mulA pe_int (pv 4))) (pe_op op_mulA pe_int (pe_ix ix_list (pv 0) pe_int (fun _ _ => rfl)))) pe_int) pe_int) (pg_sub (pv 0) pe_int set_list))
      (pss_one (ps_ret (pe_op op_mod (pe_op op_add (pe_op op_fdiv (pe_ix ix_list (pv 0) pe_int (fun _ _ => rfl)) pe_int) (pe_op op_mulA (pe_op op_fdiv (pv 4) pe_int) pe_int)) (pv 1)))))))), ?_⟩
    obtain ⟨c, ns, p, r, x, z, hb, hc, hcb, hl, hp, hx0, hx1⟩ := id hB
    refine ⟨fun σ' H' => ∃ v2, σ' = [some (.ref b), some (.int m), v2, none, none] ∧ Bag H' b ∧ Kp b H H', ?_, ?_⟩
    · repeat (walk_at "rd")
      refine iteD (fun hd => ?_) (fun hd => ?_)
      · repeat (walk_at "rd")
        refine iteD (fun hd2 => ?_) (fun hd2 => ?_)
        · rw [List.length_map] at hd2
          have hp2 : p.toNat < ns.length := by omega
          have ecell : atI (ns.map V.int) p = some (.int ns[p.toNat]) := by
            have e : p = ((p.toNat : Nat) : Int) := by omega
            have h := atI_nat (xs := ns.map V.int) (j := p.toNat) (v := .int ns[p.toNat]) (by rw [List.getElem?_map, List.getElem?_eq_getElem hp2]; rfl)
            rw [← e] at h
            exact h
          repeat (walk_at "rd")
          refine setL_step (ys := [.ref c, .int (p + 1), .int r, .int x, .int z]) hb (by rfl) (by rfl) fun H1 hb1 k1 => ?_
          repeat (walk_at "rd")
          refine iteD (fun hd3 => ?_) (fun hd3 => ?_)
          all_goals
            repeat (walk_at "rd")
            refine setL_step (ys := [.ref c, .int (p + 1), .int _, .int x, .int z]) hb1 (by rfl) (by rfl) fun H2 hb2 k2 => ?_
            repeat (walk_at "rd")
            refine setL_step (ys := [.ref c, .int (p + 1), .int _, .int _, .int z]) hb2 (by rfl) (by rfl) fun H3 hb3 k3 => ?_
            exact ⟨_, rfl, ⟨c, ns, p + 1, _, _, z, hb3, k3 _ _ (k2 _ _ (k1 _ _ hc hcb) hcb) hcb, hcb, hl, by omega, Int.emod_nonneg _ (by decide), Int.emod_lt_of_pos _ (by decide)⟩, k1.trans (k2.trans k3)⟩
        · exact ⟨_, rfl, hB, Kp.refl _ _⟩
      · repeat (walk_at "rd")
        exact Kp.refl _ _
    · rintro σ' H' ⟨v2, rfl, hB', kp⟩
      obtain ⟨c, ns, p, r, x, z, hb, hc, hcb, hl, hp, hx0, hx1⟩ := hB'
      repeat (walk_at "rd")
      refine iteD (fun hd => ?_) (fun hd => ?_)
      · repeat (walk_at "rd")
        refine setL_step (ys := [.ref c, .int p, .int _, .int x, .int z]) hb (by rfl) (by rfl) fun H1 hb1 k1 => ?_
        refine ⟨_, rfl, q _ H1 (Int.emod_nonneg _ (by omega)) (Int.emod_lt_of_pos _ hm0) ⟨c, ns, p, _, x, z, hb1, k1 _ _ hc hcb, hcb, hl, hp, hx0, hx1⟩ (kp.trans k1)⟩
      · refine ⟨_, rfl, ?_⟩
        repeat (walk_at "rd")
        refine setL_step (ys := [.ref c, .int p, .int r, .int x, .int (z + 1)]) hb (by rfl) (by rfl) fun H1 hb1 k1 => ?_
        repeat (walk_at "rd")
        refine setL_step (ys := [.ref c, .int p, .int r, .int _, .int (z + 1)]) hb1 (by rfl) (by rfl) fun H2 hb2 k2 => ?_
        repeat (walk_at "rd")
        refine q _ H2 (Int.emod_nonneg _ (by omega)) (Int.emod_lt_of_pos _ hm0) ⟨c, ns, p, r, _, _, hb2, k2 _ _ (k1 _ _ hc hcb) hcb, hcb, hl, hp, Int.emod_nonneg _ (by decide), Int.emod_lt_of_pos _ (by decide)⟩ (kp.trans (k1.trans k2))
end
end Cc
namespace Cc
open PySem PySem.Spec PyProof.Rows L2
local macro_rules | `(tactic| walk_at "sd") => `(tactic| first
  | exact cmul_r ⟨by decide, by decide⟩
  | exact cmul_l ⟨by decide, by decide⟩
  | exact cmul_l ⟨by omega, by omega⟩
  | exact cmul_w (by assumption) (by assumption) (by decide)
  | exact (show CPow 10 18 from ⟨by decide, by decide, by decide⟩)
  | exact (show (0 : Int) < 2147483629 by decide)
  | exact (show CDiv _ _ from ⟨by decide, by decide⟩)
  | exact (show CDiv _ _ from ⟨by assumption, by assumption⟩)
  | assumption)
local macro_rules | `(tactic| walk_at "rd") => `(tactic| first
  | refine ⟨_, rfl, ?_⟩
  | refine ⟨_, _, rfl, rfl, ?_⟩
  | (refine ⟨_, ?_, _, ?_, rfl, rfl, ?_, ?_, ?_⟩; rotate_left 2; (first | exact SqL.of (by assumption) | assumption); (first | exact rfl | assumption))
  | (refine ⟨_, ?_, rfl, ?_, ?_⟩; rotate_left 1; (first | exact .inl (SqL.of (by assumption)) | exact .inl (SqL.of upd_same)))
  | (refine And.intro ?_ ?_; (focus (walk_at "sd"))))
section
variable {P : Program} {w : World} {K : PySem.W.Frag} {mg : Str → Option Value} {base : Heap}
abbrev s_far : Stmt := top 14
theorem sc_far : FnScope ["_law_bag_here", "_law_steps", "_law_found", "_law_step"] ["_law_bag_here", "_law_steps"] (defScope s_far) := ⟨rfl, rfl, rfl, by decide +kernel, rfl, by decide +kernel, by decide +kernel⟩
theorem ok_far (F : DefAt K mg "_law_far" s_far ["_law_bag_here", "_law_steps"]) (mRange : mg "range" = none) (D : DefOk P w K mg base 1 "_law_get" ["_law_bag_here", "_law_most"] spGet) : DefOk P w K mg base 2 "_law_far" ["_law_bag_here", "_law_steps"] spFar := by
  refine F.ok sc_far (fun vs H Q E h => ?_) (fun f cdv A outer s H vs Q E hr h => ?_)
  · obtain ⟨a, c, rfl, _⟩ := h
    rfl
  · obtain ⟨b, k, rfl, hB, hk, q⟩ := h
    refine ⟨_, pss_cons (ps_set (i := 2) sc_far.nd rfl (.inl rfl) pe_int)
      (pss_cons (ps_for PassesOwn.never rfl (pi_range1 rfl mRange (pa_cons (pv 1) pa_nil)) (pg_name (i := 3) sc_far.nd rfl (.inl rfl))
        (pss_one (ps_set (i := 2) sc_far.nd rfl (.inl rfl) (pe_op op_add (pe_op op_mulA (pv 2) pe_int) (pe_callD D hr (by decide) (by rfl) (pa_cons (pv 0) (pa_cons pe_int pa_nil)))))))
      (pss_one (ps_ret (pv 2)))), ?_⟩
    refine ⟨_, rfl, (k : Int), rfl, by omega, by omega, for_range (lo := 0) (n := k) (fun i σ H' => ∃ (r : Int) (v3 : Option V), σ = [some (.ref b), some (.int k), some (.int r), v3] ∧ 0 ≤ r ∧ r < 1000 ^ i ∧ Bag H' b ∧ Kp b H H') ⟨0, none, rfl, by decide, by decide, hB, Kp.refl _ _⟩ ?_ ?_⟩
    · rintro i σ H1 hi ⟨r, v3, rfl, h0, h1, hB1, k1⟩
      repeat (walk_at "rd")
      refine ⟨b, 1000, rfl, hB1, by decide, by decide, fun r' H2 h0' h1' hB2 k2 => ?_⟩
      refine ⟨_, _, rfl, rfl, _, _, rfl, ?_, ?_, hB2, k1.trans k2⟩
      · show 0 ≤ r * 1000 + r'
        omega
      · show r * 1000 + r' < 1000 ^ (i + 1)
        rw [Int.pow_succ]
        generalize (1000 : Int) ^ i = p at *
        omega
    · rintro σ H1 ⟨r, v3, rfl, h0, h1, hB1, k1⟩
      exact ⟨_, rfl, q r H1 h0 h1 hB1 k1⟩
abbrev s_lpart : Stmt := top 16
theorem sc_lpart : FnScope ["_law_above", "_law_below", "_law_by"] ["_law_above", "_law_below"] (defScope s_lpart) := ⟨rfl, rfl, rfl, by decide +kernel, rfl, by decide +kernel, by decide +kernel⟩
theorem ok_lpart (F : DefAt K mg "_law_part" s_lpart ["_law_above", "_law_below"]) (mAbs : mg "abs" = none) (D : DefOk P w K mg base 1 "_law_gcd" ["_law_one", "_law_other"] spGcd) : DefOk P w K mg base 2 "_law_part" ["_law_above", "_law_below"] (spPart K) := by
  refine F.ok sc_lpart (fun vs H Q E h => ?_) (fun f cdv A outer s H vs Q E hr h => ?_)
  · obtain ⟨a, c, rfl, _⟩ := h
    rfl
  · obtain ⟨a, c, rfl, hc0, ha, hc, q⟩ := h
    refine ⟨_, C8.pss_cut (ps_if (pt_cmpR op_lt (pv 1) pe_int (nomark _)) (pss_one (ps_par (i := 0) (j := 1) (by rfl) sc_lpart.nd rfl rfl (by decide) rfl rfl (pa_cons (pe_op op_sub pe_int (pv 0)) (pa_cons (pe_op op_sub pe_int (pv 1)) pa_nil)) (by rfl))) pss_nil)
      (pss_cons (ps_set (i := 2) sc_lpart.nd rfl (.inl rfl) (pe_callD D hr (by decide) (by rfl) (pa_cons (pe_callB call_abs (by rfl) mAbs (by decide +kernel) (pa_cons (pv 0) pa_nil)) (pa_cons (pv 1) pa_nil))))
      (pss_one (ps_ret (pe_tup (pa_cons (pe_op op_fdivA (pv 0) (pv 2)) (pa_cons (pe_op op_fdivA (pv 1) (pv 2)) pa_nil)))))), ?_⟩
    refine ⟨fun σ' H' => H' = H ∧ ∃ a' c' : Int, σ' = [some (.int a'), some (.int c'), none] ∧ 0 < c' ∧ Rat.divInt a' c' = Rat.divInt a c ∧ a'.natAbs = a.natAbs ∧ c'.natAbs = c.natAbs, ?_, ?_⟩
    · repeat (walk_at "rd")
      refine iteD (fun hd => ?_) (fun hd => ?_)
      · refine ⟨_, rfl, _, _, rfl, rfl, _, rfl, _, _, rfl, rfl, _, _, rfl, rfl, 0 - a, 0 - c, rfl, by omega, ?_, by omega, by omega⟩
        rw [Int.zero_sub, Int.zero_sub, Rat.neg_divInt_neg]
      · exact ⟨rfl, a, c, rfl, by omega, rfl, rfl, rfl⟩
    · rintro σ' H' ⟨rfl, a', c', rfl, hc', he, ea, ec⟩
      refine ⟨_, rfl, _, rfl, _, rfl, _, c', rfl, ?_, by omega, ?_⟩
      · split <;> omega
      have eg : Int.gcd (if a' < 0 then -a' else a') c' = Int.gcd a' c' := by
        split
        · rw [Int.neg_gcd]
        · rfl
      rw [eg]
      have g0 : (0 : Int) < ((Int.gcd a' c' : Nat) : Int) := by
        have := Int.gcd_pos_of_ne_zero_right a' (show c' ≠ 0 by omega)
        omega
      have g1 : ((Int.gcd a' c' : Nat) : Int) ≤ c' := Int.gcd_le_right a' hc'
      have gw : CDivA a' ((Int.gcd a' c' : Nat) : Int) := ⟨by omega, Nat.lt_of_le_of_lt (show _ ≤ c.natAbs by omega) (pow_mono_lt hc (by decide))⟩
      obtain ⟨e1, e2⟩ := divInt_num_eq (a := a') hc'
      refine ⟨_, rfl, _, rfl, _, _, rfl, rfl, gw, _, rfl, _, rfl, _, _, rfl, rfl, gw, (show 2 ≤ sizeLine by decide), fun p np => ?_⟩
      refine q _ _ (same_new np) (PtV.new ?_ ?_)
      · rw [← he, e1, Int.fdiv_eq_ediv_of_nonneg a' (by omega)]
      · rw [← he, e2, Int.fdiv_eq_ediv_of_nonneg c' (by omega)]
abbrev s_number : Stmt := top 17
theorem sc_number : FnScope ["_law_bag_here", "_law_kind"] ["_law_bag_here"] (defScope s_number) := ⟨rfl, rfl, rfl, by decide +kernel, rfl, by decide +kernel, by decide +kernel⟩
theorem ok_number (F : DefAt K mg "_law_number" s_number ["_law_bag_here"]) (D : DefOk P w K mg base 1 "_law_get" ["_law_bag_here", "_law_most"] spGet) (D2 : DefOk P w K mg base 2 "_law_far" ["_law_bag_here", "_law_steps"] spFar) : DefOk P w K mg base 3 "_law_number" ["_law_bag_here"] spNumber := by
  refine F.ok sc_number (fun vs H Q E h => ?_) (fun f cdv A outer s H vs Q E hr h => ?_)
  · obtain ⟨a, rfl, _⟩ := h
    rfl
  · obtain ⟨b, rfl, hB, q⟩ := h
    refine ⟨_, pss_cons (ps_set (i := 1) sc_number.nd rfl (.inl rfl) (pe_callD D hr (by decide) (by rfl) (pa_cons (pv 0) (pa_cons pe_int pa_nil))))
      (pss_cons (ps_if (pt_cmpR op_lt (pv 1) pe_int (nomark _)) (pss_one (ps_ret (pe_op op_sub (pe_callD D hr (by decide) (by rfl) (pa_cons (pv 0) (pa_cons pe_int pa_nil))) pe_int))) pss_nil)
      (pss_cons (ps_if (pt_cmpR op_eq (pv 1) pe_int (nomark _)) (pss_one (ps_ret (pe_op op_sub (pe_callD D hr (by decide) (by rfl) (pa_cons (pv 0) (pa_cons pe_int pa_nil))) pe_int))) pss_nil)
      (pss_one (ps_ret (pe_op op_mulA (pe_op op_add (pe_callD D2 hr (by decide) (by rfl) (pa_cons (pv 0) (pa_cons (pe_ix ix_list (pe_lst (pa_cons pe_int (pa_cons pe_int pa_nil))) (pe_op op_sub (pv 1) pe_int) (fun _ _ => rfl)) pa_nil))) pe_int)
        (pe_op op_sub pe_int (pe_op op_mulA pe_int (pe_callD D hr (by decide) (by rfl) (pa_cons (pv 0) (pa_cons pe_int pa_nil)))))))))), ?_⟩
    have small : ∀ r : Int, -1000 ≤ r → r ≤ 2000 → r.natAbs < 2 ^ 200 := fun r h1 h2 => Nat.lt_of_lt_of_le (show r.natAbs < 2 ^ 11 by omega) (Nat.pow_le_pow_right (by decide) (by decide))
    refine ⟨_, rfl, b, 5, rfl, hB, by decide, by decide, fun r H1 h0 h1 hB1 k1 => ?_⟩
    repeat (walk_at "rd")
    refine iteD (fun hd => ?_) (fun hd => ?_)
    · refine ⟨_, rfl, b, 9, rfl, hB1, by decide, by decide, fun r2 H2 h2 h3 hB2 k2 => ?_⟩
      refine ⟨_, _, rfl, rfl, q _ H2 (small _ (by omega) (by omega)) hB2 (k1.trans k2)⟩
    · refine ⟨_, rfl, rfl, _, rfl, ?_⟩
      refine iteD (fun hd2 => ?_) (fun hd2 => ?_)
      · refine ⟨_, rfl, b, 2001, rfl, hB1, by decide, by decide, fun r2 H2 h2 h3 hB2 k2 => ?_⟩
        refine ⟨_, _, rfl, rfl, q _ H2 (small _ (by omega) (by omega)) hB2 (k1.trans k2)⟩
      · have hr3 : r = 3 ∨ r = 4 := by
          have : ¬ r = 2 := fun z => hd2 (by rw [z])
          omega
        refine ⟨_, rfl, (show 2 ≤ sizeLine by decide), fun p np => ?_⟩
        have hBp := hB1.same (same_new (o := .lst [.int 3, .int 20]) np)
        refine ⟨_, rfl, _, _, rfl, rfl, ?_⟩
        rcases hr3 with rfl | rfl
        all_goals
          refine ⟨p, _, _, _, rfl, rfl, SqL.of upd_same, rfl, b, _, rfl, hBp, (by decide), fun r2 H2 h2 h3 hB2 k2 => ?_⟩
          refine ⟨_, _, rfl, rfl, _, rfl, b, 2, rfl, hB2, by decide, by decide, fun r3 H3 h4 h5 hB3 k3 => ?_⟩
          refine ⟨_, _, rfl, rfl, cmul_l ⟨by decide, by decide⟩, _, _, rfl, rfl, _, _, rfl, rfl, cmul_r ⟨by omega, by omega⟩, ?_⟩
          refine q _ H3 ?_ hB3 (k1.trans ((Kp.of (same_new np)).trans (k2.trans k3)))
          exact far_size h2 h3 (by decide) (by omega)
abbrev s_some : Stmt := top 18
theorem sc_some : FnScope ["_law_bag_here", "_law_below"] ["_law_bag_here"] (defScope s_some) := ⟨rfl, rfl, rfl, by decide +kernel, rfl, by decide +kernel, by decide +kernel⟩
theorem ok_some (F : DefAt K mg "_law_some_part" s_some ["_law_bag_here"]) (mAbs : mg "abs" = none) (D : DefOk P w K mg base 1 "_law_get" ["_law_bag_here", "_law_most"] spGet) (D2 : DefOk P w K mg base 2 "_law_part" ["_law_above", "_law_below"] (spPart K))
    (D3 : DefOk P w K mg base 3 "_law_number" ["_law_bag_here"] spNumber) : DefOk P w K mg base 4 "_law_some_part" ["_law_bag_here"] (spSomePart K) := by
  refine F.ok sc_some (fun vs H Q E h => ?_) (fun f cdv A outer s H vs Q E hr h => ?_)
  · obtain ⟨a, rfl, _⟩ := h
    rfl
  · obtain ⟨b, rfl, hB, q⟩ := h
    refine ⟨_, pss_cons (ps_set (i := 1) sc_some.nd rfl (.inl rfl) (pe_op op_add (pe_callB call_abs (by rfl) mAbs (by decide +kernel) (pa_cons (pe_callD D3 hr (by decide) (by rfl) (pa_cons (pv 0) pa_nil)) pa_nil)) pe_int))
      (pss_one (ps_ret (pe_callD D2 hr (by decide) (by rfl) (pa_cons (pe_callD D3 hr (by decide) (by rfl) (pa_cons (pv 0) pa_nil))
        (pa_cons (pe_ifExp (pt_cmpR op_gt (pe_callD D hr (by decide) (by rfl) (pa_cons (pv 0) (pa_cons pe_int pa_nil))) pe_int (nomark _)) (pv 1) pe_int) pa_nil))))), ?_⟩
    refine ⟨_, rfl, b, rfl, hB, fun r H1 hr1 hB1 k1 => ?_⟩
    refine ⟨_, rfl, _, _, rfl, rfl, ?_⟩
    refine ⟨_, rfl, b, rfl, hB1, fun r2 H2 hr2 hB2 k2 => ?_⟩
    refine ⟨_, rfl, b, 3, rfl, hB2, by decide, by decide, fun r3 H3 h4 h5 hB3 k3 => ?_⟩
    have k := k1.trans (k2.trans k3)
    have p201 : (2 : Nat) ^ 201 = 2 ^ 200 * 2 := by rw [← Nat.pow_succ]
    have p0 : 0 < (2 : Nat) ^ 200 := Nat.pow_pos (by decide)
    have b1 : (if r < 0 then -r else r) + 1 ≠ 0 ∧ ((if r < 0 then -r else r) + 1).natAbs < 2 ^ 201 := by
      rw [p201]
      generalize (2 : Nat) ^ 200 = N at *
      split <;> omega
    have b2 : r2.natAbs < 2 ^ 201 := pow_mono_lt hr2 (by decide)
    have b3 : (1 : Int) ≠ 0 ∧ (1 : Int).natAbs < 2 ^ 201 := ⟨by decide, by
      rw [p201]
      generalize (2 : Nat) ^ 200 = N at *
      omega⟩
    repeat (walk_at "rd")
    refine iteD (fun hd => ?_) (fun hd => ?_)
    · refine ⟨_, rfl, _, _, rfl, b1.1, pow_mono_lt b2 (by decide), pow_mono_lt b1.2 (by decide), fun v H4 s4 hv => ?_⟩
      exact q v _ H4 hv (size_divInt b1.1 b2 b1.2) (hB3.same s4) (k.trans (Kp.of s4))
    · refine ⟨_, _, rfl, b3.1, pow_mono_lt b2 (by decide), pow_mono_lt b3.2 (by decide), fun v H4 s4 hv => ?_⟩
      exact q v _ H4 hv (size_divInt b3.1 b2 b3.2) (hB3.same s4) (k.trans (Kp.of s4))
/-! ### the program's own -/
abbrev s_part : Stmt := top 5
theorem sc_part : FnScope ["above", "below", "common"] ["above", "below"] (defScope s_part) := ⟨rfl, rfl, rfl, by decide +kernel, rfl, by decide +kernel, by decide +kernel⟩
theorem ok_part (F : DefAt K mg "part" s_part ["above", "below"]) (mGcd : mg "gcd" = some (.builtin "math.gcd")) : DefOk P w K mg base 1 "part" ["above", "below"] (spPart K) := by
  refine F.ok sc_part (fun vs H Q E h => ?_) (fun f cdv A outer s H vs Q E hr h => ?_)
  · obtain ⟨a, c, rfl, _⟩ := h
    rfl
  · obtain ⟨a, c, rfl, hc0, ha, hc, q⟩ := h
    refine ⟨_, pss_cons (ps_if (pt_cmpR op_eq (pv 1) pe_int (nomark _)) (pss_one ps_never) pss_nil)
      (pss_cons (ps_set (i := 2) sc_part.nd rfl (.inl rfl) (pe_callBfun cr_gcd (by rfl) mGcd (pa_cons (pv 0) (pa_cons (pv 1) pa_nil))))
      (pss_cons (ps_if (pt_cmpR op_lt (pv 1) pe_int (nomark _)) (pss_one (ps_set (i := 2) sc_part.nd rfl (.inl rfl) (pe_un un_neg (pv 2)))) pss_nil)
      (pss_one (ps_ret (pe_tup (pa_cons (pe_op op_fdivA (pv 0) (pv 2)) (pa_cons (pe_op op_fdivA (pv 1) (pv 2)) pa_nil))))))), ?_⟩
    have g0 : (0 : Int) < ((Int.gcd a c : Nat) : Int) := by
      have := Int.gcd_pos_of_ne_zero_right a hc0
      omega
    have g1 : Int.gcd a c ≤ c.natAbs := Int.gcd_le_natAbs_right a hc0
    have gw1 : CDivA a ((Int.gcd a c : Nat) : Int) := ⟨by omega, Nat.lt_of_le_of_lt (show _ ≤ c.natAbs by omega) (pow_mono_lt hc (by decide))⟩
    have gw2 : CDivA a (-((Int.gcd a c : Nat) : Int)) := ⟨by omega, Nat.lt_of_le_of_lt (show _ ≤ c.natAbs by omega) (pow_mono_lt hc (by decide))⟩
    refine ⟨_, rfl, rfl, _, rfl, ?_⟩
    refine iteD (fun hd => absurd (V.int.inj hd) hc0) (fun _ => ?_)
    refine ⟨_, rfl, _, rfl, a, c, rfl, ?_⟩
    repeat (walk_at "rd")
    refine iteD (fun hd => ?_) (fun hd => ?_)
    · refine ⟨_, rfl, _, rfl, _, rfl, _, rfl, _, _, rfl, rfl, gw2, _, rfl, _, rfl, _, _, rfl, rfl, gw2, (show 2 ≤ sizeLine by decide), fun p np => ?_⟩
      obtain ⟨e1, e2⟩ := divInt_num_neg (a := a) hd
      exact q _ _ (same_new np) (PtV.new e1 e2)
    · refine ⟨_, rfl, _, rfl, _, _, rfl, rfl, gw1, _, rfl, _, rfl, _, _, rfl, rfl, gw1, (show 2 ≤ sizeLine by decide), fun p np => ?_⟩
      obtain ⟨e1, e2⟩ := divInt_num_eq (a := a) (show 0 < c by omega)
      refine q _ _ (same_new np) (PtV.new ?_ ?_)
      · exact e1.trans (Int.fdiv_eq_ediv_of_nonneg a (by exact Int.le_of_lt g0)).symm
      · exact e2.trans (Int.fdiv_eq_ediv_of_nonneg c (by exact Int.le_of_lt g0)).symm
end
end Cc
namespace Cc
open PySem PySem.Spec PyProof.Rows L2
local macro_rules | `(tactic| walk_at "sd") => `(tactic| first
  | exact cmul_r ⟨by decide, by decide⟩
  | exact cmul_l ⟨by decide, by decide⟩
  | exact cmul_l ⟨by omega, by omega⟩
  | exact cmul_w (by assumption) (by assumption) (by decide)
  | exact (show CPow 10 18 from ⟨by decide, by decide, by decide⟩)
  | exact (show (0 : Int) < 2147483629 by decide)
  | exact (show CDiv _ _ from ⟨by decide, by decide⟩)
  | exact (show CDiv _ _ from ⟨by assumption, by assumption⟩)
  | assumption)
local macro_rules | `(tactic| walk_at "rd") => `(tactic| first
  | refine ⟨_, rfl, ?_⟩
  | refine ⟨_, _, rfl, rfl, ?_⟩
  | (refine ⟨_, ?_, _, ?_, rfl, rfl, ?_, ?_, ?_⟩; rotate_left 2; (first | exact SqL.of (by assumption) | assumption); (first | exact rfl | assumption))
  | (refine ⟨_, ?_, rfl, ?_, ?_⟩; rotate_left 1; (first | exact .inl (SqL.of (by assumption)) | exact .inl (SqL.of upd_same)))
  | (refine And.intro ?_ ?_; (focus (walk_at "sd"))))
/-! ### steps of a reading -/
section
variable {K : PySem.W.Frag} {H : Hp} {v w : V} {x y : Rat} {Q : VK}
theorem two_step {C : Rat → Rat → Prop} {g : Rat → Rat → Rat} {m n : Nat} {vs : List V} {E : XK} (hv : PtV K H v x) (hw : PtV K H w y) (sx : Sz m x) (sy : Sz n y) (hm : m ≤ 3900) (hn : n ≤ 3900) (hc : C x y) (h : ∀ u H', Same H H' → PtV K H' u (g x y) → Q u H') (hvs : vs = [v, w] := by rfl) : spTwo K C g vs H Q E := by
  unfold spTwo
  exact ⟨v, w, x, y, hvs, hv, hw, sx.mono hm, sy.mono hn, hc, h⟩
theorem less_step {m n : Nat} {vs : List V} {E : XK} (hv : PtV K H v x) (hw : PtV K H w y) (sx : Sz m x) (sy : Sz n y) (hm : m ≤ 3900) (hn : n ≤ 3900) (h : Q (.bl (decide (x < y))) H) (hvs : vs = [v, w] := by rfl) : spLess K vs H Q E := by
  unfold spLess
  exact ⟨v, w, x, y, hvs, hv, hw, sx.mono hm, sy.mono hn, fun _ e => e ▸ h⟩
theorem neD_step (hv : PtV K H v x) (hw : PtV K H w y) (h : Q (.bl (!decide (x = y))) H) : rNeD K v w H Q :=
  ⟨_, _, hv.dp, hw.dp, dPart_shaped _, dPart_shaped _, by rw [eqv_part]; exact h⟩
theorem eqD_step (hv : PtV K H v x) (hw : PtV K H w y) (h : Q (.bl (decide (x = y))) H) : rEqD K v w H Q :=
  ⟨_, _, hv.dp, hw.dp, dPart_shaped _, dPart_shaped _, by rw [eqv_part]; exact h⟩
end
section
variable {X : Cx}
def rCntB (K : PySem.W.Frag) : V → List V → Hp → VK → Prop := fun x xs H Q => ∃ (p : Addr) (bs : List Bool) (k : Bool), x = .ref p ∧ xs = [.bl k] ∧ SqL K H p (bs.map V.bl) ∧ Q (.int (bs.count k : Nat)) H
theorem reads_bools (hp : Heap) : ∀ bs : List Bool, ∃ as, ReadsAll hp (bs.map Value.bool) (bs.map PyData.bool) as
  | [] => ⟨_, ReadsAll.nil⟩
  | b :: r => by
    obtain ⟨as, h⟩ := reads_bools hp r
    exact ⟨_, ReadsAll.cons (Reads.bool b) h⟩
theorem countIn_bools (k : Bool) : ∀ bs : List Bool, countIn (.bool k) (bs.map PyData.bool) = (bs.count k : Nat)
  | [] => rfl
  | b :: r => by
    have ih := countIn_bools k r
    rw [List.map_cons, countIn, ih, List.count_cons]
    cases b <;> cases k <;> simp [same] <;> omega
theorem mt_lcountB : MtR X "list.count" (rCntB X.K) := by
  intro pins s σ H x xs v us Q I rx rxs h
  obtain ⟨p, bs, k, rfl, rfl, hs, q⟩ := h
  cases rx
  obtain ⟨u, rfl, ru⟩ := rxs.one
  cases ru
  obtain ⟨its, rv, hl, hlen⟩ := I.list hs
  have hb := rv.bls
  obtain ⟨as, ra⟩ := reads_bools s.heap bs
  refine count_list_bools (xs := bs.map PyData.bool) hl.isList (by rw [hb]; exact ra) ?_ ?_
  · rw [List.all_map]
    exact List.all_eq_true.mpr fun b _ => by cases b <;> rfl
  · rw [countIn_bools]
    exact ⟨.int _, H, I.tok _, ⟨_, rfl⟩, q⟩
end
section
variable {P : Program} {w : World} {K : PySem.W.Frag} {mg : Str → Option Value} {base : Heap}
abbrev s_plus : Stmt := top 6
abbrev s_minus : Stmt := top 7
abbrev s_times : Stmt := top 8
abbrev s_over : Stmt := top 9
abbrev s_less : Stmt := top 10
theorem sc_plus : FnScope ["one", "other"] ["one", "other"] (defScope s_plus) := ⟨rfl, rfl, rfl, by decide +kernel, rfl, by decide +kernel, by decide +kernel⟩
theorem sc_minus : FnScope ["one", "other"] ["one", "other"] (defScope s_minus) := ⟨rfl, rfl, rfl, by decide +kernel, rfl, by decide +kernel, by decide +kernel⟩
theorem sc_times : FnScope ["one", "other"] ["one", "other"] (defScope s_times) := ⟨rfl, rfl, rfl, by decide +kernel, rfl, by decide +kernel, by decide +kernel⟩
theorem sc_over : FnScope ["one", "other"] ["one", "other"] (defScope s_over) := ⟨rfl, rfl, rfl, by decide +kernel, rfl, by decide +kernel, by decide +kernel⟩
theorem sc_less : FnScope ["one", "other"] ["one", "other"] (defScope s_less) := ⟨rfl, rfl, rfl, by decide +kernel, rfl, by decide +kernel, by decide +kernel⟩
theorem sz_abs {n : Nat} {x : Rat} (h : Sz n x) : x.num.natAbs < 2 ^ n ∧ ((x.den : Nat) : Int).natAbs < 2 ^ n := ⟨h.1, by rw [Int.natAbs_natCast]; exact h.2⟩
theorem ok_plus (F : DefAt K mg "plus" s_plus ["one", "other"]) (D : DefOk P w K mg base 1 "part" ["above", "below"] (spPart K)) : DefOk P w K mg base 2 "plus" ["one", "other"] (spTwo K (fun _ _ => True) fun x y => x + y) := by
  refine F.ok sc_plus (fun vs H Q E h => ?_) (fun f cdv A outer s H vs Q E hr h => ?_)
  · unfold spTwo at h
    obtain ⟨_, _, _, _, rfl, _⟩ := h
    rfl
  · unfold spTwo at h
    obtain ⟨v, u, x, y, rfl, ⟨a, rfl, ha⟩, ⟨b, rfl, hb⟩, sx, sy, _, q⟩ := h
    refine ⟨_, pss_one (ps_ret (pe_callD D hr (by decide) (by rfl) (pa_cons (pe_op op_add (pe_op op_mulA (pe_ix ix_tup (pv 0) pe_int (fun _ _ => rfl)) (pe_ix ix_tup (pv 1) pe_int (fun _ _ => rfl))) (pe_op op_mulA (pe_ix ix_tup (pv 1) pe_int (fun _ _ => rfl)) (pe_ix ix_tup (pv 0) pe_int (fun _ _ => rfl))))
      (pa_cons (pe_op op_mulA (pe_ix ix_tup (pv 0) pe_int (fun _ _ => rfl)) (pe_ix ix_tup (pv 1) pe_int (fun _ _ => rfl))) pa_nil)))), ?_⟩
    obtain ⟨x1, x2⟩ := sz_abs sx
    obtain ⟨y1, y2⟩ := sz_abs sy
    repeat (walk_at "rd")
    refine ⟨_, _, rfl, Int.ne_of_gt (Int.mul_pos (den_pos x) (den_pos y)), pow_mono_lt (natAbs_add_lt (natAbs_mul_lt x1 y2) (natAbs_mul_lt y1 x2)) (by decide), pow_mono_lt (natAbs_mul_lt x2 y2) (by decide), fun v H' s hv => q v H' s ?_⟩
    rw [dv_add] at hv
    exact hv
theorem ok_minus (F : DefAt K mg "minus" s_minus ["one", "other"]) (D : DefOk P w K mg base 1 "part" ["above", "below"] (spPart K)) : DefOk P w K mg base 2 "minus" ["one", "other"] (spTwo K (fun _ _ => True) fun x y => x - y) := by
  refine F.ok sc_minus (fun vs H Q E h => ?_) (fun f cdv A outer s H vs Q E hr h => ?_)
  · unfold spTwo at h
    obtain ⟨_, _, _, _, rfl, _⟩ := h
    rfl
  · unfold spTwo at h
    obtain ⟨v, u, x, y, rfl, ⟨a, rfl, ha⟩, ⟨b, rfl, hb⟩, sx, sy, _, q⟩ := h
    refine ⟨_, pss_one (ps_ret (pe_callD D hr (by decide) (by rfl) (pa_cons (pe_op op_sub (pe_op op_mulA (pe_ix ix_tup (pv 0) pe_int (fun _ _ => rfl)) (pe_ix ix_tup (pv 1) pe_int (fun _ _ => rfl))) (pe_op op_mulA (pe_ix ix_tup (pv 1) pe_int (fun _ _ => rfl)) (pe_ix ix_tup (pv 0) pe_int (fun _ _ => rfl))))
      (pa_cons (pe_op op_mulA (pe_ix ix_tup (pv 0) pe_int (fun _ _ => rfl)) (pe_ix ix_tup (pv 1) pe_int (fun _ _ => rfl))) pa_nil)))), ?_⟩
    obtain ⟨x1, x2⟩ := sz_abs sx
    obtain ⟨y1, y2⟩ := sz_abs sy
    repeat (walk_at "rd")
    refine ⟨_, _, rfl, Int.ne_of_gt (Int.mul_pos (den_pos x) (den_pos y)), pow_mono_lt (natAbs_sub_lt (natAbs_mul_lt x1 y2) (natAbs_mul_lt y1 x2)) (by decide), pow_mono_lt (natAbs_mul_lt x2 y2) (by decide), fun v H' s hv => q v H' s ?_⟩
    rw [dv_sub] at hv
    exact hv
theorem ok_times (F : DefAt K mg "times" s_times ["one", "other"]) (D : DefOk P w K mg base 1 "part" ["above", "below"] (spPart K)) : DefOk P w K mg base 2 "times" ["one", "other"] (spTwo K (fun _ _ => True) fun x y => x * y) := by
  refine F.ok sc_times (fun vs H Q E h => ?_) (fun f cdv A outer s H vs Q E hr h => ?_)
  · unfold spTwo at h
    obtain ⟨_, _, _, _, rfl, _⟩ := h
    rfl
  · unfold spTwo at h
    obtain ⟨v, u, x, y, rfl, ⟨a, rfl, ha⟩, ⟨b, rfl, hb⟩, sx, sy, _, q⟩ := h
    refine ⟨_, pss_one (ps_ret (pe_callD D hr (by decide) (by rfl) (pa_cons (pe_op op_mulA (pe_ix ix_tup (pv 0) pe_int (fun _ _ => rfl)) (pe_ix ix_tup (pv 1) pe_int (fun _ _ => rfl)))
      (pa_cons (pe_op op_mulA (pe_ix ix_tup (pv 0) pe_int (fun _ _ => rfl)) (pe_ix ix_tup (pv 1) pe_int (fun _ _ => rfl))) pa_nil)))), ?_⟩
    obtain ⟨x1, x2⟩ := sz_abs sx
    obtain ⟨y1, y2⟩ := sz_abs sy
    repeat (walk_at "rd")
    refine ⟨_, _, rfl, Int.ne_of_gt (Int.mul_pos (den_pos x) (den_pos y)), pow_mono_lt (natAbs_mul_lt x1 y1) (by decide), pow_mono_lt (natAbs_mul_lt x2 y2) (by decide), fun v H' s hv => q v H' s ?_⟩
    rw [dv_mul] at hv
    exact hv
theorem ok_over (F : DefAt K mg "over" s_over ["one", "other"]) (D : DefOk P w K mg base 1 "part" ["above", "below"] (spPart K)) : DefOk P w K mg base 2 "over" ["one", "other"] (spTwo K (fun _ y => y ≠ 0) fun x y => x / y) := by
  refine F.ok sc_over (fun vs H Q E h => ?_) (fun f cdv A outer s H vs Q E hr h => ?_)
  · unfold spTwo at h
    obtain ⟨_, _, _, _, rfl, _⟩ := h
    rfl
  · unfold spTwo at h
    obtain ⟨v, u, x, y, rfl, ⟨a, rfl, ha⟩, ⟨b, rfl, hb⟩, sx, sy, hy, q⟩ := h
    refine ⟨_, pss_one (ps_ret (pe_callD D hr (by decide) (by rfl) (pa_cons (pe_op op_mulA (pe_ix ix_tup (pv 0) pe_int (fun _ _ => rfl)) (pe_ix ix_tup (pv 1) pe_int (fun _ _ => rfl)))
      (pa_cons (pe_op op_mulA (pe_ix ix_tup (pv 0) pe_int (fun _ _ => rfl)) (pe_ix ix_tup (pv 1) pe_int (fun _ _ => rfl))) pa_nil)))), ?_⟩
    obtain ⟨x1, x2⟩ := sz_abs sx
    obtain ⟨y1, y2⟩ := sz_abs sy
    repeat (walk_at "rd")
    refine ⟨_, _, rfl, Int.mul_ne_zero (Int.ne_of_gt (den_pos x)) (fun z => hy ((num_zero_iff y).mp z)), pow_mono_lt (natAbs_mul_lt x1 y2) (by decide), pow_mono_lt (natAbs_mul_lt x2 y1) (by decide), fun v H' s hv => q v H' s ?_⟩
    rw [dv_div] at hv
    exact hv
theorem ok_less (F : DefAt K mg "less" s_less ["one", "other"]) : DefOk P w K mg base 1 "less" ["one", "other"] (spLess K) := by
  refine F.ok sc_less (fun vs H Q E h => ?_) (fun f cdv A outer s H vs Q E hr h => ?_)
  · unfold spLess at h
    obtain ⟨_, _, _, _, rfl, _⟩ := h
    rfl
  · unfold spLess at h
    obtain ⟨v, u, x, y, rfl, ⟨a, rfl, ha⟩, ⟨b, rfl, hb⟩, sx, sy, q⟩ := h
    refine ⟨_, pss_one (ps_ret (pe_cmpR op_lt (pe_op op_mulA (pe_ix ix_tup (pv 0) pe_int (fun _ _ => rfl)) (pe_ix ix_tup (pv 1) pe_int (fun _ _ => rfl))) (pe_op op_mulA (pe_ix ix_tup (pv 1) pe_int (fun _ _ => rfl)) (pe_ix ix_tup (pv 0) pe_int (fun _ _ => rfl))) (nomark _))), ?_⟩
    obtain ⟨x1, x2⟩ := sz_abs sx
    obtain ⟨y1, y2⟩ := sz_abs sy
    repeat (walk_at "rd")
    have e : decide (x < y) = decide (x.num * y.den < y.num * x.den) := decide_eq_decide.mpr (Rat.lt_iff x y)
    refine q _ ?_
    rw [e]
end
end Cc
namespace Cc
open PySem PySem.Spec PyProof.Rows L2
section
variable {P : Program} {w : World} {K : PySem.W.Frag} {mg : Str → Option Value} {base : Heap}
def spLaw (K : PySem.W.Frag) : Sp := fun vs H Q _ => ∃ (a : Addr) (ns : List Int), vs = [.ref a] ∧ SqL K H a (ns.map V.int) ∧ ns.length ≤ 63 ∧ ∀ H', Q (.bl true) H'
abbrev s_law : Stmt := top 19
theorem sc_law : FnScope ["_law_script", "_law_bag_here", "_law_turn", "_law_one", "_law_two", "_law_three", "_law_words"] ["_law_script"] (defScope s_law) := ⟨rfl, rfl, rfl, by decide +kernel, rfl, by decide +kernel, by decide +kernel⟩
abbrev sp2 (K : PySem.W.Frag) (g : Rat → Rat → Rat) : Sp := spTwo K (fun _ _ => True) g
/-- what a turn has: the three parts and the bag, at a heap where the parts stand -/
structure Tn (K : PySem.W.Frag) (H0 H : Hp) (b : Addr) (v1 v2 v3 : V) (x y z : Rat) : Prop where
  k : Kp b H0 H
  bag : Bag H b
  h1 : PtV K H v1 x
  h2 : PtV K H v2 y
  h3 : PtV K H v3 z
  s1 : Sz 201 x
  s2 : Sz 201 y
  s3 : Sz 201 z
theorem Tn.same {H0 H H' : Hp} {b : Addr} {v1 v2 v3 : V} {x y z : Rat} (T : Tn K H0 H b v1 v2 v3 x y z) (s : Same H H') : Tn K H0 H' b v1 v2 v3 x y z :=
  ⟨T.k.trans (Kp.of s), T.bag.same s, T.h1.same s, T.h2.same s, T.h3.same s, T.s1, T.s2, T.s3⟩
theorem one_true (x y : Rat) : ((([decide (x < y), decide (x = y), decide (y < x)] : List Bool).count true : Nat) : Int) = 1 := by
  have h : (x < y ∧ ¬ x = y ∧ ¬ y < x) ∨ (¬ x < y ∧ x = y ∧ ¬ y < x) ∨ (¬ x < y ∧ ¬ x = y ∧ y < x) := by grind
  rcases h with ⟨h1, h2, h3⟩ | ⟨h1, h2, h3⟩ | ⟨h1, h2, h3⟩
  · rw [decide_eq_true h1, decide_eq_false h2, decide_eq_false h3]
    rfl
  · rw [decide_eq_false h1, decide_eq_true h2, decide_eq_false h3]
    rfl
  · rw [decide_eq_false h1, decide_eq_false h2, decide_eq_true h3]
    rfl
theorem ok_law {f : Addr} {fd : FuncData} (F : Fun K "law" "law" s_law f fd) (mRange : mg "range" = none)
    (Dbag : DefOk P w K mg base 1 "_law_bag" ["_law_script"] (spBag K)) (Dsome : DefOk P w K mg base 4 "_law_some_part" ["_law_bag_here"] (spSomePart K))
    (Dpart : DefOk P w K mg base 1 "part" ["above", "below"] (spPart K)) (Dplus : DefOk P w K mg base 2 "plus" ["one", "other"] (sp2 K fun x y => x + y)) (Dminus : DefOk P w K mg base 2 "minus" ["one", "other"] (sp2 K fun x y => x - y))
    (Dtimes : DefOk P w K mg base 2 "times" ["one", "other"] (sp2 K fun x y => x * y)) (Dover : DefOk P w K mg base 2 "over" ["one", "other"] (spTwo K (fun _ y => y ≠ 0) fun x y => x / y)) (Dless : DefOk P w K mg base 1 "less" ["one", "other"] (spLess K)) :
    FnOk P w K mg base CX0 5 f fd ["_law_script"] (spLaw K) := by
  refine F.ok sc_law (fun vs H Q E h => ?_) (fun cdv A outer s H vs Q E hr h => ?_)
  · obtain ⟨_, _, rfl, _⟩ := h
    rfl
  · obtain ⟨a, ns, rfl, hS, hlen, q⟩ := h
    refine ⟨_, pss_cons (ps_set (i := 1) sc_law.nd rfl (.inl rfl) (pe_callD Dbag hr (by decide) (by rfl) (pa_cons (pv 0) pa_nil)))
      (pss_cons (ps_for PassesOwn.never rfl (pi_range1 rfl mRange (pa_cons pe_int pa_nil)) (pg_name (i := 2) sc_law.nd rfl (.inl rfl))
        (pss_cons (ps_par (i := 3) (j := 4) (by rfl) sc_law.nd rfl rfl (by decide) rfl rfl (pa_cons (pe_callD Dsome hr (by decide) (by rfl) (pa_cons (pv 1) pa_nil)) (pa_cons (pe_callD Dsome hr (by decide) (by rfl) (pa_cons (pv 1) pa_nil)) pa_nil)) (by rfl))
        (pss_cons (ps_set (i := 5) sc_law.nd rfl (.inl rfl) (pe_callD Dsome hr (by decide) (by rfl) (pa_cons (pv 1) pa_nil)))
        (C8.pss_cut (ps_if (pt_cmpR (op_neD hr.units) (pe_callD Dminus hr (by decide) (by rfl) (pa_cons (pe_callD Dplus hr (by decide) (by rfl) (pa_cons (pv 3) (pa_cons (pv 4) pa_nil))) (pa_cons (pv 4) pa_nil))) (pv 3) (nomark _)) (pss_one (ps_ret pe_bl)) pss_nil)
        (C8.pss_cut (ps_if (pt_cmpR (op_neD hr.units) (pe_callD Dplus hr (by decide) (by rfl) (pa_cons (pe_callD Dminus hr (by decide) (by rfl) (pa_cons (pv 3) (pa_cons (pv 4) pa_nil))) (pa_cons (pv 4) pa_nil))) (pv 3) (nomark _)) (pss_one (ps_ret pe_bl)) pss_nil)
        (C8.pss_cut (ps_if (PW.pt (pw_and (pt_cmpR op_ne (pe_ix ix_tup (pv 4) pe_int (fun _ _ => rfl)) pe_int (nomark _)) (pw_and1 (pt_cmpR (op_neD hr.units) (pe_callD Dover hr (by decide) (by rfl) (pa_cons (pe_callD Dtimes hr (by decide) (by rfl) (pa_cons (pv 3) (pa_cons (pv 4) pa_nil))) (pa_cons (pv 4) pa_nil))) (pv 3) (nomark _))))) (pss_one (ps_ret pe_bl)) pss_nil)
        (C8.pss_cut (ps_if (PW.pt (pw_and (pt_cmpR op_ne (pe_ix ix_tup (pv 4) pe_int (fun _ _ => rfl)) pe_int (nomark _)) (pw_and1 (pt_cmpR (op_neD hr.units) (pe_callD Dtimes hr (by decide) (by rfl) (pa_cons (pe_callD Dover hr (by decide) (by rfl) (pa_cons (pv 3) (pa_cons (pv 4) pa_nil))) (pa_cons (pv 4) pa_nil))) (pv 3) (nomark _))))) (pss_one (ps_ret pe_bl)) pss_nil)
        (C8.pss_cut (ps_if (pt_cmpR (op_neD hr.units) (pe_callD Dtimes hr (by decide) (by rfl) (pa_cons (pv 3) (pa_cons (pe_callD Dplus hr (by decide) (by rfl) (pa_cons (pv 4) (pa_cons (pv 5) pa_nil))) pa_nil)))
            (pe_callD Dplus hr (by decide) (by rfl) (pa_cons (pe_callD Dtimes hr (by decide) (by rfl) (pa_cons (pv 3) (pa_cons (pv 4) pa_nil))) (pa_cons (pe_callD Dtimes hr (by decide) (by rfl) (pa_cons (pv 3) (pa_cons (pv 5) pa_nil))) pa_nil))) (nomark _)) (pss_one (ps_ret pe_bl)) pss_nil)
        (C8.pss_cut (ps_if (pt_cmpR op_ne (pe_callD Dless hr (by decide) (by rfl) (pa_cons (pe_callD Dplus hr (by decide) (by rfl) (pa_cons (pv 3) (pa_cons (pv 5) pa_nil))) (pa_cons (pe_callD Dplus hr (by decide) (by rfl) (pa_cons (pv 4) (pa_cons (pv 5) pa_nil))) pa_nil)))
            (pe_callD Dless hr (by decide) (by rfl) (pa_cons (pv 3) (pa_cons (pv 4) pa_nil))) (nomark _)) (pss_one (ps_ret pe_bl)) pss_nil)
        (C8.pss_cut (ps_if (PW.pt (pw_and (pt_val (pe_callD Dless hr (by decide) (by rfl) (pa_cons (pv 3) (pa_cons (pv 4) pa_nil)))) (pw_and (pt_val (pe_callD Dless hr (by decide) (by rfl) (pa_cons (pv 4) (pa_cons (pv 5) pa_nil))))
            (pw_and1 (pt_not (pt_val (pe_callD Dless hr (by decide) (by rfl) (pa_cons (pv 3) (pa_cons (pv 5) pa_nil))))))))) (pss_one (ps_ret pe_bl)) pss_nil)
        (pss_cons (ps_set (i := 6) sc_law.nd rfl (.inl rfl) (pe_lst (pa_cons (pe_callD Dless hr (by decide) (by rfl) (pa_cons (pv 3) (pa_cons (pv 4) pa_nil))) (pa_cons (pe_cmpR (op_eqD hr.units) (pv 3) (pv 4) (nomark _)) (pa_cons (pe_callD Dless hr (by decide) (by rfl) (pa_cons (pv 4) (pa_cons (pv 3) pa_nil))) pa_nil)))))
        (pss_cons (ps_if (pt_cmpR op_ne (pe_bm PySem.F.plainAttrs_list PySem.F.slot_list_count PySem.F.type_list_count mt_lcountB (pv 6) (pa_cons pe_bl pa_nil)) pe_int (nomark _)) (pss_one (ps_ret pe_bl)) pss_nil)
        (pss_one (ps_if (pt_cmpR (op_neD hr.units) (pe_callD Dpart hr (by decide) (by rfl) (pa_cons (pe_op op_mulA (pe_ix ix_tup (pv 3) pe_int (fun _ _ => rfl)) (pe_ix ix_tup (pv 4) pe_int (fun _ _ => rfl))) (pa_cons (pe_op op_mulA (pe_ix ix_tup (pv 4) pe_int (fun _ _ => rfl)) (pe_ix ix_tup (pv 3) pe_int (fun _ _ => rfl))) pa_nil))) (pv 3) (nomark _)) (pss_one (ps_ret pe_bl)) pss_nil))))))))))))))
      (pss_one (ps_ret pe_bl))), ?_⟩
    refine ⟨_, rfl, a, ns, rfl, hS, hlen, fun b H1 nb s1 hB => ?_⟩
    refine ⟨8, rfl, by decide, by decide, for_range (lo := 0) (n := 8) (fun i σ H' => ∃ (v2 v3 v4 v5 v6 : Option V), σ = [some (.ref a), some (.ref b), v2, v3, v4, v5, v6] ∧ Bag H' b ∧ Kp b H1 H') ⟨none, none, none, none, none, rfl, hB, Kp.refl _ _⟩ ?_ ?_⟩
    · rintro i σ H2 hi ⟨v2, v3, v4, v5, v6, rfl, hB2, k2⟩
      refine ⟨_, rfl, b, rfl, hB2, fun w1 x H3 hx sx hB3 k3 => ⟨_, rfl, b, rfl, hB3, fun w2 y H4 hy sy hB4 k4 => ⟨w1, w2, rfl, ⟨_, rfl, b, rfl, hB4, fun w3 z H5 hz sz hB5 k5 => ?_⟩⟩⟩⟩
      have T : Tn K H1 H5 b w1 w2 w3 x y z := ⟨k2.trans (k3.trans (k4.trans k5)), hB5, (hx.bag k4 hB3).bag k5 hB4, hy.bag k5 hB4, hz, sx, sy, sz⟩
      let W : L2.St → Hp → Prop := fun σ' H' => σ' = [some (.ref a), some (.ref b), some (.int (0 + i)), some w1, some w2, some w3, v6] ∧ Tn K H1 H' b w1 w2 w3 x y z
      -- minus(plus(one, two), two) != one
      refine ⟨W, ?_, ?_⟩
      · refine ⟨_, rfl, _, rfl, two_step T.h1 T.h2 T.s1 T.s2 (by decide) (by decide) trivial fun u1 G1 e1 g1 => ?_⟩
        have T := T.same e1
        refine ⟨_, rfl, two_step g1 T.h2 (sz_add T.s1 T.s2 (Nat.le_refl _)) T.s2 (by decide) (by decide) trivial fun u2 G2 e2 g2 => ?_⟩
        have T := T.same e2
        refine ⟨_, rfl, neD_step g2 T.h1 ⟨_, rfl, ?_⟩⟩
        refine iteNS (by grind) ?_
        exact ⟨rfl, T⟩
      rintro σ' G ⟨rfl, T⟩
      -- plus(minus(one, two), two) != one
      refine ⟨W, ?_, ?_⟩
      · refine ⟨_, rfl, _, rfl, two_step T.h1 T.h2 T.s1 T.s2 (by decide) (by decide) trivial fun u1 G1 e1 g1 => ?_⟩
        have T := T.same e1
        refine ⟨_, rfl, two_step g1 T.h2 (sz_sub T.s1 T.s2 (Nat.le_refl _)) T.s2 (by decide) (by decide) trivial fun u2 G2 e2 g2 => ?_⟩
        have T := T.same e2
        refine ⟨_, rfl, neD_step g2 T.h1 ⟨_, rfl, ?_⟩⟩
        refine iteNS (by grind) ?_
        exact ⟨rfl, T⟩
      rintro σ' G ⟨rfl, T⟩
      -- two[0] != 0 and over(times(one, two), two) != one
      refine ⟨W, ?_, ?_⟩
      · obtain ⟨p2, ep, hp2⟩ := T.h2
        refine ⟨_, rfl, p2, _, _, _, ep, rfl, hp2, rfl, rfl, _, rfl, ?_⟩
        refine iteB (fun c => ?_) (fun c => ?_)
        · have y0 : y ≠ 0 := fun z => by
            rw [z] at c
            exact absurd c (by decide)
          refine ⟨_, rfl, _, rfl, two_step T.h1 T.h2 T.s1 T.s2 (by decide) (by decide) trivial fun u1 G1 e1 g1 => ?_⟩
          have T := T.same e1
          refine ⟨_, rfl, two_step g1 T.h2 (sz_mul T.s1 T.s2 (Nat.le_refl _)) T.s2 (by decide) (by decide) y0 fun u2 G2 e2 g2 => ?_⟩
          have T := T.same e2
          refine ⟨_, rfl, neD_step g2 T.h1 ⟨_, rfl, ?_⟩⟩
          refine iteNS (by grind) ?_
          exact ⟨rfl, T⟩
        · exact ⟨rfl, T⟩
      rintro σ' G ⟨rfl, T⟩
      -- two[0] != 0 and times(over(one, two), two) != one
      refine ⟨W, ?_, ?_⟩
      · obtain ⟨p2, ep, hp2⟩ := T.h2
        refine ⟨_, rfl, p2, _, _, _, ep, rfl, hp2, rfl, rfl, _, rfl, ?_⟩
        refine iteB (fun c => ?_) (fun c => ?_)
        · have y0 : y ≠ 0 := fun z => by
            rw [z] at c
            exact absurd c (by decide)
          refine ⟨_, rfl, _, rfl, two_step T.h1 T.h2 T.s1 T.s2 (by decide) (by decide) y0 fun u1 G1 e1 g1 => ?_⟩
          have T := T.same e1
          refine ⟨_, rfl, two_step g1 T.h2 (sz_div T.s1 T.s2 y0 (Nat.le_refl _)) T.s2 (by decide) (by decide) trivial fun u2 G2 e2 g2 => ?_⟩
          have T := T.same e2
          refine ⟨_, rfl, neD_step g2 T.h1 ⟨_, rfl, ?_⟩⟩
          refine iteNS (by grind) ?_
          exact ⟨rfl, T⟩
        · exact ⟨rfl, T⟩
      rintro σ' G ⟨rfl, T⟩
      -- times(one, plus(two, three)) != plus(times(one, two), times(one, three))
      refine ⟨W, ?_, ?_⟩
      · refine ⟨_, rfl, _, rfl, _, rfl, two_step T.h2 T.h3 T.s2 T.s3 (by decide) (by decide) trivial fun u1 G1 e1 g1 => ?_⟩
        have T := T.same e1
        refine two_step T.h1 g1 T.s1 (sz_add T.s2 T.s3 (Nat.le_refl _)) (by decide) (by decide) trivial fun u2 G2 e2 g2 => ?_
        have T := T.same e2
        refine ⟨_, rfl, _, rfl, two_step T.h1 T.h2 T.s1 T.s2 (by decide) (by decide) trivial fun u3 G3 e3 g3 => ?_⟩
        have T := T.same e3
        refine ⟨_, rfl, _, rfl, two_step T.h1 T.h3 T.s1 T.s3 (by decide) (by decide) trivial fun u4 G4 e4 g4 => ?_⟩
        have T := T.same e4
        refine two_step (g3.same e4) g4 (sz_mul T.s1 T.s2 (Nat.le_refl _)) (sz_mul T.s1 T.s3 (Nat.le_refl _)) (by decide) (by decide) trivial fun u5 G5 e5 g5 => ?_
        have T := T.same e5
        refine neD_step (((g2.same e3).same e4).same e5) g5 ⟨_, rfl, ?_⟩
        refine iteNS (by grind) ?_
        exact ⟨rfl, T⟩
      rintro σ' G ⟨rfl, T⟩
      -- less(plus(one, three), plus(two, three)) != less(one, two)
      refine ⟨W, ?_, ?_⟩
      · refine ⟨_, rfl, _, rfl, two_step T.h1 T.h3 T.s1 T.s3 (by decide) (by decide) trivial fun u1 G1 e1 g1 => ?_⟩
        have T := T.same e1
        refine ⟨_, rfl, _, rfl, two_step T.h2 T.h3 T.s2 T.s3 (by decide) (by decide) trivial fun u2 G2 e2 g2 => ?_⟩
        have T := T.same e2
        refine less_step (g1.same e2) g2 (sz_add T.s1 T.s3 (Nat.le_refl _)) (sz_add T.s2 T.s3 (Nat.le_refl _)) (by decide) (by decide) ?_
        refine ⟨_, rfl, _, rfl, less_step T.h1 T.h2 T.s1 T.s2 (by decide) (by decide) ?_⟩
        refine ⟨rfl, _, rfl, ?_⟩
        refine iteNS (congrArg V.bl (decide_eq_decide.mpr (by grind))) ?_
        exact ⟨rfl, T⟩
      rintro σ' G ⟨rfl, T⟩
      -- less(one, two) and less(two, three) and not less(one, three)
      refine ⟨W, ?_, ?_⟩
      · refine ⟨_, rfl, _, rfl, less_step T.h1 T.h2 T.s1 T.s2 (by decide) (by decide) ⟨_, rfl, ?_⟩⟩
        refine iteD (fun c1 => ?_) (fun _ => ⟨rfl, T⟩)
        refine ⟨_, rfl, _, rfl, less_step T.h2 T.h3 T.s2 T.s3 (by decide) (by decide) ⟨_, rfl, ?_⟩⟩
        refine iteD (fun c2 => ?_) (fun _ => ⟨rfl, T⟩)
        refine ⟨_, rfl, _, rfl, less_step T.h1 T.h3 T.s1 T.s3 (by decide) (by decide) ⟨_, rfl, ?_⟩⟩
        refine iteNS (by grind) ?_
        exact ⟨rfl, T⟩
      rintro σ' G ⟨rfl, T⟩
      -- words
      refine ⟨_, rfl, _, rfl, less_step T.h1 T.h2 T.s1 T.s2 (by decide) (by decide) ?_⟩
      refine ⟨_, rfl, _, rfl, eqD_step T.h1 T.h2 ?_⟩
      refine ⟨_, rfl, _, rfl, less_step T.h2 T.h1 T.s2 T.s1 (by decide) (by decide) ?_⟩
      refine ⟨(show 3 ≤ sizeLine by decide), fun p np => ?_⟩
      have T := T.same (same_new (o := .lst [.bl (decide (x < y)), .bl (decide (x = y)), .bl (decide (y < x))]) np)
      refine ⟨_, rfl, .inl ⟨rfl, _, SqL.of upd_same⟩, p, [decide (x < y), decide (x = y), decide (y < x)], true, rfl, rfl, SqL.of upd_same, ?_⟩
      refine ⟨rfl, _, rfl, iteNS (congrArg V.int (one_true x y)) ?_⟩
      -- part(one[0] * two[1], two[1] * one[1]) != one
      obtain ⟨p1, ep1, hp1⟩ := T.h1
      obtain ⟨p2, ep2, hp2⟩ := T.h2
      obtain ⟨x1, x2⟩ := sz_abs T.s1
      obtain ⟨y1, y2⟩ := sz_abs T.s2
      refine ⟨_, rfl, p1, _, _, _, ep1, rfl, hp1, rfl, _, rfl, p2, _, _, _, ep2, rfl, hp2, rfl, _, _, rfl, rfl, cmul_w x1 y2 (by decide), ?_⟩
      refine ⟨_, rfl, p2, _, _, _, ep2, rfl, hp2, rfl, _, rfl, p1, _, _, _, ep1, rfl, hp1, rfl, _, _, rfl, rfl, cmul_w y2 x2 (by decide), ?_⟩
      refine ⟨_, _, rfl, Int.ne_of_gt (Int.mul_pos (den_pos y) (den_pos x)), pow_mono_lt (natAbs_mul_lt x1 y2) (by decide), pow_mono_lt (natAbs_mul_lt y2 x2) (by decide), fun u G1 e1 g1 => ?_⟩
      rw [dv_cancel x (Int.ne_of_gt (den_pos y))] at g1
      have T := T.same e1
      refine ⟨_, rfl, neD_step g1 T.h1 ⟨_, rfl, ?_⟩⟩
      refine iteNS rfl ?_
      exact ⟨_, _, _, _, _, rfl, T.bag, T.k⟩
    · rintro σ H2 ⟨v2, v3, v4, v5, v6, rfl, hB2, k2⟩
      exact q H2
end
end Cc
namespace Cc
open PySem PySem.Spec PyProof.Rows L2
/-- all defs of the text as the top has left them -/
structure Tops (K : PySem.W.Frag) (mg : Str → Option Value) : Prop where
  part : DefAt K mg "part" s_part ["above", "below"]
  plus : DefAt K mg "plus" s_plus ["one", "other"]
  minus : DefAt K mg "minus" s_minus ["one", "other"]
  times : DefAt K mg "times" s_times ["one", "other"]
  over : DefAt K mg "over" s_over ["one", "other"]
  less : DefAt K mg "less" s_less ["one", "other"]
  bag : DefAt K mg "_law_bag" s_bag ["_law_script"]
  get : DefAt K mg "_law_get" s_get ["_law_bag_here", "_law_most"]
  far : DefAt K mg "_law_far" s_far ["_law_bag_here", "_law_steps"]
  lgcd : DefAt K mg "_law_gcd" s_gcd ["_law_one", "_law_other"]
  lpart : DefAt K mg "_law_part" s_lpart ["_law_above", "_law_below"]
  number : DefAt K mg "_law_number" s_number ["_law_bag_here"]
  some : DefAt K mg "_law_some_part" s_some ["_law_bag_here"]
  mGcd : mg "gcd" = Option.some (.builtin "math.gcd")
  mLen : mg "len" = none
  mList : mg "list" = none
  mRange : mg "range" = none
  mAbs : mg "abs" = none
theorem law_of {l : PySem.W.OpenLaw} {w : World} {K : PySem.W.Frag} {mg : Str → Option Value} {fa : Addr} (hfa : mg "law" = some (.ref fa)) (T : Tops K mg)
    {h : Heap} (X : K.In h) (G : h.Ns mainGlobals mg) {f : Addr} {oc : Value} {od an : Option Addr} {osl : Array (Option Value)} {kV doc pm cdv ct : Value}
    (a : PySem.W.nsIn K mainGlobals "law" = some (some (.ref f))) (lk : K.lookup f = some ⟨oc, od, .func (PySem.W.fnOf "law" "law" (defArgs s_law) (defBody s_law) (defScope s_law) .none kV doc pm an cdv ct), osl⟩) (c : PySem.W.codeIn K cdv "law" = true) (k : PySem.W.keepIn K (.ref f) = true) :
    ∃ fd : FuncData, (∀ (s : Shared) (v : Value), BindsTo s fd ⟨[v], []⟩ [("_law_script", v)]) ∧ ∀ base : Heap, K.In base → base.Ns mainGlobals mg → FnOk l.prog w K mg base CX0 5 fa fd ["_law_script"] (spLaw K) := by
  have e := hfa.symm.trans (PySem.W.mg_of X G a)
  cases e
  refine ⟨PySem.W.fnOf "law" "law" (defArgs s_law) (defBody s_law) (defScope s_law) .none kV doc pm an cdv ct, fun s v => .of_eq rfl, fun base _ _ => ?_⟩
  have Dget := ok_get (P := l.prog) (w := w) (base := base) T.get T.mLen
  have Dgcd := ok_gcd (P := l.prog) (w := w) (base := base) T.lgcd
  have Dfar := ok_far T.far T.mRange Dget
  have Dlpart := ok_lpart T.lpart T.mAbs Dgcd
  have Dnum := ok_number T.number Dget Dfar
  have Dsome := ok_some T.some T.mAbs Dget Dlpart Dnum
  have Dpart := ok_part (P := l.prog) (w := w) (base := base) T.part T.mGcd
  exact ok_law (fun_mk lk c k) T.mRange (ok_bag T.bag T.mLen T.mList) Dsome Dpart (ok_plus T.plus Dpart) (ok_minus T.minus Dpart) (ok_times T.times Dpart) (ok_over T.over Dpart) (ok_less T.less)
end Cc
open PySem PySem.W PyProof.Rows
set_option maxRecDepth 100000 in
set_option maxHeartbeats 0 in
theorem PySem.Challenge.cw_calmcuts_k03_whole_parts_there_and_back_holds : PySem.Challenge.rw_calmcuts_k03_whole_parts_there_and_back.Holds := by
  w_on; o_law; k_head; (case hw => w_witness2)
  k_fill
  refine L2.walk_of (l := PySem.Challenge.rw_calmcuts_k03_whole_parts_there_and_back) (n := 63) (k := 5) (x := "_law_script") (CX := fun _ => L2.CX0) (sp := fun w => Cc.spLaw _) rfl (by decide) rfl ⟨rfl, by decide, by decide⟩ (fun w h Y => PySem.W.kIn_of Y) ?F (fun _ _ a ns hl _ hS => ⟨a, ns, rfl, hS, hl, fun _ => rfl⟩) (fun _ _ _ _ _ h => h)
  case F =>
    intro w mg fa h KX G hmg
    refine' Cc.law_of hmg ?T KX G ?a ?l ?c ?k
    (case a => k_is); (case l => k_is); (case c => k_is); (case k => k_is)
    (case T =>
      refine' ⟨?d1, ?d2, ?d3, ?d4, ?d5, ?d6, ?d7, ?d8, ?d9, ?d10, ?d11, ?d12, ?d13, PySem.W.mg_of KX G ?m1, PySem.W.mg_none_of KX G ?m2, PySem.W.mg_none_of KX G ?m3, PySem.W.mg_none_of KX G ?m4, PySem.W.mg_none_of KX G ?m5⟩
      (case m1 => k_is); (case m2 => k_is); (case m3 => k_is); (case m4 => k_is); (case m5 => k_is)
      (case d1 => refine' Cc.defAt_mk KX G ?a ?l ?c ?k (fun _ _ _ _ _ _ us hl => match us, hl with | [_, _], _ => rfl); (case a => k_is); (case l => k_is); (case c => k_is); (case k => k_is))
      (case d2 => refine' Cc.defAt_mk KX G ?a ?l ?c ?k (fun _ _ _ _ _ _ us hl => match us, hl with | [_, _], _ => rfl); (case a => k_is); (case l => k_is); (case c => k_is); (case k => k_is))
      (case d3 => refine' Cc.defAt_mk KX G ?a ?l ?c ?k (fun _ _ _ _ _ _ us hl => match us, hl with | [_, _], _ => rfl); (case a => k_is); (case l => k_is); (case c => k_is); (case k => k_is))
      (case d4 => refine' Cc.defAt_mk KX G ?a ?l ?c ?k (fun _ _ _ _ _ _ us hl => match us, hl with | [_, _], _ => rfl); (case a => k_is); (case l => k_is); (case c => k_is); (case k => k_is))
      (case d5 => refine' Cc.defAt_mk KX G ?a ?l ?c ?k (fun _ _ _ _ _ _ us hl => match us, hl with | [_, _], _ => rfl); (case a => k_is); (case l => k_is); (case c => k_is); (case k => k_is))
      (case d6 => refine' Cc.defAt_mk KX G ?a ?l ?c ?k (fun _ _ _ _ _ _ us hl => match us, hl with | [_, _], _ => rfl); (case a => k_is); (case l => k_is); (case c => k_is); (case k => k_is))
      (case d7 => refine' Cc.defAt_mk KX G ?a ?l ?c ?k (fun _ _ _ _ _ _ us hl => match us, hl with | [_], _ => rfl); (case a => k_is); (case l => k_is); (case c => k_is); (case k => k_is))
      (case d8 => refine' Cc.defAt_mk KX G ?a ?l ?c ?k (fun _ _ _ _ _ _ us hl => match us, hl with | [_, _], _ => rfl); (case a => k_is); (case l => k_is); (case c => k_is); (case k => k_is))
      (case d9 => refine' Cc.defAt_mk KX G ?a ?l ?c ?k (fun _ _ _ _ _ _ us hl => match us, hl with | [_, _], _ => rfl); (case a => k_is); (case l => k_is); (case c => k_is); (case k => k_is))
      (case d10 => refine' Cc.defAt_mk KX G ?a ?l ?c ?k (fun _ _ _ _ _ _ us hl => match us, hl with | [_, _], _ => rfl); (case a => k_is); (case l => k_is); (case c => k_is); (case k => k_is))
      (case d11 => refine' Cc.defAt_mk KX G ?a ?l ?c ?k (fun _ _ _ _ _ _ us hl => match us, hl with | [_, _], _ => rfl); (case a => k_is); (case l => k_is); (case c => k_is); (case k => k_is))
      (case d12 => refine' Cc.defAt_mk KX G ?a ?l ?c ?k (fun _ _ _ _ _ _ us hl => match us, hl with | [_], _ => rfl); (case a => k_is); (case l => k_is); (case c => k_is); (case k => k_is))
      (case d13 => refine' Cc.defAt_mk KX G ?a ?l ?c ?k (fun _ _ _ _ _ _ us hl => match us, hl with | [_], _ => rfl); (case a => k_is); (case l => k_is); (case c => k_is); (case k => k_is)))
