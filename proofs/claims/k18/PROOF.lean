import PyProof.Rows.All
import Wide.All
import OpenK.AllK
import Wide.FinOn
import HandS.Base
import HandS.Call
import HandS.List
import HandS.Comp
import HandS.Iter
import HandS.Text
import HandS.Words
import HandS.Codes
import PyProof.NoPylong
import PyProof.Fits
import Flt.Len
import KE.KMathG
import HandS.Gcd
import HandS.IsInst
import HandS.Zip
import HandS.Style
import HandS.Defaults
import HandS.MakeKwOnly
import PyProof.SumAny
import KE.DataMinMax
import HandS.TupAny
import HandS.RevRange
import HandS.TupMul
import HandS.Conv
import HandS.Sort
import HandS.More
import HandS.Deep
import HandS.Walk
import HandS.WordsDict
import PyProof.Claim2Refuses
import HandS.DictTup
import HandS.SortKw
import HandS.DictComp
import HandS.TupLen
import KE.SortData
import HandS.Flow
import KE.DatumOrd
import PySem.Challenge.RW_calmcuts_k18_whole_turned_about_made_gre
set_option Elab.async false
set_option linter.all false
set_option maxRecDepth 100000
namespace Cc
/-! ### parts as rationals -/
/-- sizes: |num| and den below 2^n -/
def Sz (n : Nat) (q : Rat) : Prop := q.num.natAbs < 2 ^ n ∧ q.den < 2 ^ n
theorem den_pos (q : Rat) : (0 : Int) < (q.den : Int) := by
  have := q.den_nz
  omega
theorem divInt_own (q : Rat) : Rat.divInt q.num q.den = q := by
  rw [Rat.divInt_ofNat]
  exact Rat.mkRat_self q
theorem dv_add (x y : Rat) : Rat.divInt (x.num * y.den + y.num * x.den) (x.den * y.den) = x + y := by
  have h := Rat.divInt_add_divInt x.num y.num (Int.ne_of_gt (den_pos x)) (Int.ne_of_gt (den_pos y))
  rw [divInt_own, divInt_own] at h
  exact h.symm
theorem dv_mul (x y : Rat) : Rat.divInt (x.num * y.num) (x.den * y.den) = x * y := by
  have h := Rat.divInt_mul_divInt x.num y.num (d₁ := x.den) (d₂ := y.den)
  rw [divInt_own, divInt_own] at h
  exact h.symm
theorem dv_sub (x y : Rat) : Rat.divInt (x.num * y.den - y.num * x.den) (x.den * y.den) = x - y := by
  have h := Rat.divInt_add_divInt x.num (-y.num) (Int.ne_of_gt (den_pos x)) (Int.ne_of_gt (den_pos y))
  rw [divInt_own, ← Rat.neg_divInt, divInt_own] at h
  rw [Rat.sub_eq_add_neg, h, Int.neg_mul, Int.sub_eq_add_neg]
theorem dv_div (x y : Rat) : Rat.divInt (x.num * y.den) (x.den * y.num) = x / y := by
  rw [Rat.div_def]
  have h := Rat.divInt_mul_divInt x.num y.den (d₁ := x.den) (d₂ := y.num)
  rw [divInt_own] at h
  rw [← h]
  congr 1
  rw [← Rat.inv_divInt, divInt_own]
theorem num_zero_iff (q : Rat) : q.num = 0 ↔ q = 0 := by
  constructor
  · intro h
    have := divInt_own q
    rw [h, Rat.zero_divInt] at this
    exact this.symm
  · rintro rfl
    rfl
theorem rat_ext {x y : Rat} (h1 : x.num = y.num) (h2 : x.den = y.den) : x = y := by
  rw [← divInt_own x, ← divInt_own y, h1, h2]
/-- x is a/c in lowest terms: what part(a, c) computes -/
theorem divInt_num_eq {a c : Int} (h : 0 < c) : (Rat.divInt a c).num = a / ((Int.gcd a c : Nat) : Int) ∧ ((Rat.divInt a c).den : Int) = c / ((Int.gcd a c : Nat) : Int) := by
  have hc : c = ((c.toNat : Nat) : Int) := by omega
  have h0 : c.toNat ≠ 0 := by omega
  rw [hc, Rat.divInt_ofNat]
  have e1 := Rat.num_mkRat a c.toNat
  have e2 := Rat.den_mkRat a c.toNat
  rw [if_neg h0] at e1 e2
  have eg : Int.gcd a ((c.toNat : Nat) : Int) = c.toNat.gcd a.natAbs := by
    rw [Int.gcd_eq_natAbs_gcd_natAbs, Int.natAbs_natCast, Nat.gcd_comm]
  rw [e1, e2, eg]
  exact ⟨rfl, by rw [Int.natCast_ediv]⟩
theorem divInt_num_neg {a c : Int} (h : c < 0) : (Rat.divInt a c).num = a.fdiv (-((Int.gcd a c : Nat) : Int)) ∧ ((Rat.divInt a c).den : Int) = c.fdiv (-((Int.gcd a c : Nat) : Int)) := by
  have g := divInt_num_eq (a := -a) (c := -c) (by omega)
  rw [Rat.neg_divInt_neg, Int.neg_gcd, Int.gcd_neg] at g
  have nf : ∀ x : Int, x.fdiv (-((Int.gcd a c : Nat) : Int)) = (-x) / ((Int.gcd a c : Nat) : Int) := fun x => by
    have h1 := Int.neg_fdiv_neg (-x) ((Int.gcd a c : Nat) : Int)
    rw [Int.neg_neg] at h1
    rw [h1, Int.fdiv_eq_ediv_of_nonneg _ (Int.natCast_nonneg _)]
  rw [nf, nf]
  exact g
theorem size_divInt {a c : Int} {n : Nat} (h : c ≠ 0) (ha : a.natAbs < 2 ^ n) (hc : c.natAbs < 2 ^ n) : Sz n (Rat.divInt a c) := by
  have key : ∀ {a c : Int}, 0 < c → a.natAbs < 2 ^ n → c.natAbs < 2 ^ n → Sz n (Rat.divInt a c) := by
    intro a c h ha hc
    obtain ⟨e1, e2⟩ := divInt_num_eq (a := a) h
    constructor
    · rw [e1]
      have hd : ((Int.gcd a c : Nat) : Int) ∣ a := Int.gcd_dvd_left ..
      rw [Int.natAbs_ediv_of_dvd hd, Int.natAbs_natCast]
      exact Nat.lt_of_le_of_lt (Nat.div_le_self _ _) ha
    · have e3 : (Rat.divInt a c).den = c.natAbs / Int.gcd a c := by
        have hd : ((Int.gcd a c : Nat) : Int) ∣ c := Int.gcd_dvd_right ..
        have e4 := congrArg Int.natAbs e2
        rw [Int.natAbs_natCast, Int.natAbs_ediv_of_dvd hd, Int.natAbs_natCast] at e4
        exact e4
      rw [e3]
      exact Nat.lt_of_le_of_lt (Nat.div_le_self _ _) hc
  rcases Int.lt_trichotomy c 0 with h1 | h1 | h1
  · rw [← Rat.neg_divInt_neg]
    exact key (by omega) (by omega) (by omega)
  · exact absurd h1 h
  · exact key h1 ha hc
theorem natAbs_add_lt {a b : Int} {m n : Nat} (ha : a.natAbs < 2 ^ m) (hb : b.natAbs < 2 ^ n) : (a + b).natAbs < 2 ^ (max m n + 1) := by
  have h1 : 2 ^ m ≤ 2 ^ max m n := Nat.pow_le_pow_right (by decide) (Nat.le_max_left ..)
  have h2 : 2 ^ n ≤ 2 ^ max m n := Nat.pow_le_pow_right (by decide) (Nat.le_max_right ..)
  rw [Nat.pow_succ]
  omega
theorem natAbs_sub_lt {a b : Int} {m n : Nat} (ha : a.natAbs < 2 ^ m) (hb : b.natAbs < 2 ^ n) : (a - b).natAbs < 2 ^ (max m n + 1) := by
  rw [Int.sub_eq_add_neg]
  exact natAbs_add_lt ha (by rw [Int.natAbs_neg]; exact hb)
theorem natAbs_mul_lt {a b : Int} {m n : Nat} (ha : a.natAbs < 2 ^ m) (hb : b.natAbs < 2 ^ n) : (a * b).natAbs < 2 ^ (m + n) := by
  rw [Int.natAbs_mul, Nat.pow_add]
  exact Nat.mul_lt_mul'' ha hb
theorem pow_mono_lt {a m n : Nat} (h : a < 2 ^ m) (hm : m ≤ n) : a < 2 ^ n := Nat.lt_of_lt_of_le h (Nat.pow_le_pow_right (by decide) hm)
theorem Sz.mono {m n : Nat} {q : Rat} (h : Sz m q) (hm : m ≤ n) : Sz n q := ⟨pow_mono_lt h.1 hm, pow_mono_lt h.2 hm⟩
theorem Sz.pos {n : Nat} {q : Rat} (h : Sz n q) : 0 < n := by
  have h1 := h.2
  have h2 := q.den_nz
  rcases Nat.eq_zero_or_pos n with h3 | h3
  · subst h3
    omega
  · exact h3
theorem sz_add {m n k : Nat} {x y : Rat} (hx : Sz m x) (hy : Sz n y) (h : m + n + 1 ≤ k) : Sz k (x + y) := by
  refine Sz.mono (m := m + n + 1) ?_ h
  rw [← dv_add]
  refine size_divInt ?_ ?_ ?_
  · have h1 := den_pos x
    have h2 := den_pos y
    exact Int.ne_of_gt (Int.mul_pos h1 h2)
  · have h1 := natAbs_add_lt (natAbs_mul_lt hx.1 (b := (y.den : Int)) (n := n) (by rw [Int.natAbs_natCast]; exact hy.2)) (natAbs_mul_lt hy.1 (b := (x.den : Int)) (n := m) (by rw [Int.natAbs_natCast]; exact hx.2))
    exact pow_mono_lt h1 (by omega)
  · exact pow_mono_lt (natAbs_mul_lt (a := (x.den : Int)) (b := (y.den : Int)) (m := m) (n := n) (by rw [Int.natAbs_natCast]; exact hx.2) (by rw [Int.natAbs_natCast]; exact hy.2)) (by omega)
theorem sz_neg {m : Nat} {x : Rat} (hx : Sz m x) : Sz m (-x) := by
  constructor
  · rw [Rat.neg_num, Int.natAbs_neg]
    exact hx.1
  · rw [Rat.neg_den]
    exact hx.2
theorem sz_sub {m n k : Nat} {x y : Rat} (hx : Sz m x) (hy : Sz n y) (h : m + n + 1 ≤ k) : Sz k (x - y) := by
  rw [Rat.sub_eq_add_neg]
  exact sz_add hx (sz_neg hy) h
theorem sz_mul {m n k : Nat} {x y : Rat} (hx : Sz m x) (hy : Sz n y) (h : m + n ≤ k) : Sz k (x * y) := by
  refine Sz.mono (m := m + n) ?_ h
  rw [← dv_mul]
  refine size_divInt ?_ ?_ ?_
  · exact Int.ne_of_gt (Int.mul_pos (den_pos x) (den_pos y))
  · exact natAbs_mul_lt hx.1 hy.1
  · exact natAbs_mul_lt (a := (x.den : Int)) (b := (y.den : Int)) (m := m) (n := n) (by rw [Int.natAbs_natCast]; exact hx.2) (by rw [Int.natAbs_natCast]; exact hy.2)
theorem sz_div {m n k : Nat} {x y : Rat} (hx : Sz m x) (hy : Sz n y) (h0 : y ≠ 0) (h : m + n ≤ k) : Sz k (x / y) := by
  refine Sz.mono (m := m + n) ?_ h
  rw [← dv_div]
  refine size_divInt ?_ ?_ ?_
  · have h1 : y.num ≠ 0 := fun z => h0 ((num_zero_iff y).mp z)
    exact Int.mul_ne_zero (Int.ne_of_gt (den_pos x)) h1
  · exact natAbs_mul_lt (b := (y.den : Int)) hx.1 (by rw [Int.natAbs_natCast]; exact hy.2)
  · exact natAbs_mul_lt (a := (x.den : Int)) (by rw [Int.natAbs_natCast]; exact hx.2) hy.1
theorem dv_cancel (x : Rat) {d : Int} (h : d ≠ 0) : Rat.divInt (x.num * d) (d * x.den) = x := by
  have e := Rat.divInt_mul_divInt x.num d (d₁ := x.den) (d₂ := d)
  rw [divInt_own, Rat.divInt_self' h, Rat.mul_one] at e
  rw [Int.mul_comm d, ← e]
theorem far_size {r e : Int} {k : Nat} (h0 : 0 ≤ r) (h1 : r < 1000 ^ k) (hk : k ≤ 20) (he : e = 0 ∨ e = 1) : ((r + 1) * (1 - 2 * e)).natAbs < 2 ^ 200 := by
  have h2 : (1000 : Int) ^ k ≤ 1000 ^ 20 := by
    have h := Nat.pow_le_pow_right (n := 1000) (by decide) hk
    have e : ∀ n : Nat, (1000 : Int) ^ n = ((1000 ^ n : Nat) : Int) := fun n => (Int.natCast_pow 1000 n).symm
    rw [e, e]
    exact Int.ofNat_le.mpr h
  have h3 : (1000 : Int) ^ 20 < 2 ^ 200 := by decide
  have h4 : (2 : Int) ^ 200 = ((2 ^ 200 : Nat) : Int) := by decide
  have h5 : r + 1 < ((2 ^ 200 : Nat) : Int) := by omega
  generalize (2 ^ 200 : Nat) = N at *
  rcases he with rfl | rfl
  · rw [show (1 - 2 * 0 : Int) = 1 by decide, Int.mul_one]
    omega
  · rw [show (1 - 2 * 1 : Int) = -1 by decide, Int.mul_neg, Int.mul_one]
    omega
theorem gcd_step (x y : Int) : Int.gcd y (x % y) = Int.gcd x y := by
  have h := Int.gcd_add_mul_left_right y (x % y) (x / y)
  rw [Int.emod_add_mul_ediv] at h
  rw [← h, Int.gcd_comm]
end Cc
namespace Cc
open PySem PySem.Spec PyProof.Rows L2
/-! ### operators of ints of any size -/
/-- // by a divisor of any sign, below 2 ^ 9000 -/
def CDivA (_ j : Int) : Prop := j ≠ 0 ∧ j.natAbs < 2 ^ 9000
/-- * : one factor small, or both together below a million bits -/
def CMulA (i j : Int) : Prop := CMul i j ∨ ∃ a b : Nat, i.natAbs < 2 ^ a ∧ j.natAbs < 2 ^ b ∧ a + b ≤ 900000
theorem CMulA.ok {i j : Int} (h : CMulA i j) : IntMulOk i j := by
  rcases h with h | ⟨a, b, ha, hb, hab⟩
  · exact h.ok
  · have ha' := pow_mono_lt ha (Nat.le_succ a)
    have hb' := pow_mono_lt hb (Nat.le_succ b)
    have x := PySem.Flt.log2_lt_of (Nat.succ_pos a) ha'
    have y := PySem.Flt.log2_lt_of (Nat.succ_pos b) hb'
    have bb : ∀ x : Int, Builtin.Int.intBits x ≤ x.natAbs.log2 + 1 := fun x => by
      unfold Builtin.Int.intBits
      split <;> omega
    have h1 := bb i
    have h2 := bb j
    have e : bitsLine = 134217728 := by decide
    unfold IntMulOk
    intro z
    rw [Bool.and_eq_true] at z
    have z2 := z.2
    unfold Builtin.Int.intTooBig at z2
    have z3 := of_decide_eq_true z2
    rw [e] at z3
    omega
section
variable {X : Cx}
theorem op_fdivA : OpR X (binaryOp .FloorDiv) (rI CDivA fun i j => .int (i.fdiv j)) := opI fun i j _ _ _ _ _ hc q =>
  floordiv_int hc.1 q (.inl (PyProof.noPylong_of_log2 (PySem.Flt.log2_lt_of (by decide) hc.2)))
theorem op_mulA : OpR X (binaryOp .Mult) (rI CMulA fun i j => .int (i * j)) := opI fun _ _ _ _ _ _ _ hc q => mul_int q hc.ok
end
theorem cmul_l {i j : Int} (h : -(2 ^ 64) < i ∧ i < 2 ^ 64) : CMulA i j := .inl (.inl h)
theorem cmul_r {i j : Int} (h : -(2 ^ 64) < j ∧ j < 2 ^ 64) : CMulA i j := .inl (.inr h)
theorem cmul_w {i j : Int} {a b : Nat} (ha : i.natAbs < 2 ^ a) (hb : j.natAbs < 2 ^ b) (h : a + b ≤ 900000) : CMulA i j := .inr ⟨a, b, ha, hb, h⟩
/-! ### a def of the program, by its name -/
/-- the def of that name keeps the promise -/
def DefOk (P : Program) (w : World) (K : PySem.W.Frag) (mg : Str → Option Value) (base : Heap) (k : Nat) (x : Str) (ps : List Str) (sp : Sp) : Prop :=
  ∃ f fd, FnOk P w K mg base CX0 k f fd ps sp ∧ mg x = some (.ref f) ∧ PySem.W.keepIn K (.ref f) = true ∧ Binds K fd ps []
/-- the def as the top has left it -/
def DefAt (K : PySem.W.Frag) (mg : Str → Option Value) (x : Str) (st : Stmt) (ps : List Str) : Prop :=
  ∃ f fd, Fun K x x st f fd ∧ mg x = some (.ref f) ∧ Binds K fd ps []
theorem defAt_mk {K : PySem.W.Frag} {mg : Str → Option Value} {h : Heap} {x : Str} {st : Stmt} {ps : List Str} (X : K.In h) (G : h.Ns mainGlobals mg) {f : Addr} {oc : Value} {od an : Option Addr} {osl : Array (Option Value)} {kV doc pm cdv ct : Value}
    (a : PySem.W.nsIn K mainGlobals x = some (some (.ref f))) (l : K.lookup f = some ⟨oc, od, .func (PySem.W.fnOf x x (defArgs st) (defBody st) (defScope st) .none kV doc pm an cdv ct), osl⟩) (c : PySem.W.codeIn K cdv x = true) (k : PySem.W.keepIn K (.ref f) = true)
    (hb : ∀ (kV doc pm : Value) (an : Option Addr) (cdv ct : Value) (us : List Value), us.length = ps.length → bindArgs (PySem.W.fnOf x x (defArgs st) (defBody st) (defScope st) .none kV doc pm an cdv ct) ⟨us, []⟩ = pure (ps.zip us)) : DefAt K mg x st ps :=
  ⟨f, _, fun_mk l c k, PySem.W.mg_of X G a, (fun_mk l c k).binds hb⟩
section
variable {X : Cx} {k j : Nat} {x : Str} {ps : List Str} {sp : Sp} {p pos : Pos} {e : Expr} {es : List Expr} {t : TA}
theorem pe_callD (D : DefOk X.prog X.w X.K X.mg X.base k x ps sp) (hr : Room j X.A) (hkj : k ≤ j) (hg : Gl X x) (ha : PA X (e :: es) t) (hdb : (x == ("__debug__" : Str)) = false := by decide)
    (he : starEach (e :: es) X.env = (false, eval e X.env) :: starEach es X.env := by rfl) (hpl : (backTo pos (starEach es X.env)).any (·.1) = false := by rfl) :
    PE X (.Call (.Name x p) (e :: es) [] pos) (tCall sp [] E0 t) := by
  obtain ⟨f, fd, F, hm, hk, hb⟩ := D
  exact pe_call F (hr.mono hkj) hg hm hk hb .nil pass0 ha hdb he hpl
end
theorem DefAt.ok {P : Program} {w : World} {K : PySem.W.Frag} {mg : Str → Option Value} {base : Heap} {x : Str} {st : Stmt} {N ps : List Str} {k : Nat} {sp : Sp} (F : DefAt K mg x st ps) (S : FnScope N ps (defScope st)) (len : ∀ vs H Q E, sp vs H Q E → vs.length = ps.length)
    (hbody : ∀ (f : Addr) (cdv : Value) (A : Around) (outer : List Env) (s : Shared) (H : Hp) (vs : List V) (Q : VK) (E : XK), Room k (A.deeper (envOfC x (defScope st) s.heap.objs.size f cdv)) → sp vs H Q E →
      ∃ t, PSs (cxOf CX0 P w K mg base N x (defScope st) f cdv A outer s H E).nox (defBody st) t ∧ t { nx := fun _ H' => Q .non H', rt := Q } (start N vs) H) : DefOk P w K mg base (k + 1) x ps sp := by
  obtain ⟨f, fd, F, hm, hb⟩ := F
  exact ⟨f, fd, F.ok S len (hbody f), hm, F.kp, hb⟩
/-! ### tests -/
theorem iteB {c : Bool} {A B : Prop} (h1 : c = true → A) (h2 : c = false → B) : if c = true then A else B := by
  cases c with
  | true => exact iteT (h1 rfl)
  | false => exact iteF (h2 rfl)
theorem iteD {c A B : Prop} {i : Decidable c} (h1 : c → A) (h2 : ¬ c → B) : if (@decide c i) = true then A else B := by
  by_cases h : c
  · rw [if_pos (decide_eq_true h)]
    exact h1 h
  · rw [if_neg (by rw [decide_eq_false h]; exact Bool.false_ne_true)]
    exact h2 h
theorem iteDT {c A B : Prop} {i : Decidable c} (h : c) (h1 : A) : if (@decide c i) = true then A else B := iteD (fun _ => h1) (fun z => absurd h z)
theorem iteDF {c A B : Prop} {i : Decidable c} (h : ¬ c) (h1 : B) : if (@decide c i) = true then A else B := iteD (fun z => absurd z h) (fun _ => h1)
/-! ### heaps -/
theorem same_new {H : Hp} {p : Addr} {o : HO} (h : H p = none) : Same H (upd H p o) := fun b x e => by
  rw [upd_ne (ne_of_none e h)]
  exact e
/-- all but what stands at b is as it was -/
def Kp (b : Addr) (H H' : Hp) : Prop := ∀ a o, H a = some o → a ≠ b → H' a = some o
theorem Kp.refl (b : Addr) (H : Hp) : Kp b H H := fun _ _ h _ => h
theorem Kp.trans {b : Addr} {H H1 H2 : Hp} (x : Kp b H H1) (y : Kp b H1 H2) : Kp b H H2 := fun a o h n => y a o (x a o h n) n
theorem Kp.of {b : Addr} {H H' : Hp} (h : Same H H') : Kp b H H' := fun a o e _ => h a o e
theorem Kp.upd {b : Addr} {H : Hp} {o : HO} : Kp b H (upd H b o) := fun a u e n => by
  rw [upd_ne n]
  exact e
/-- xs[k] = v, the heap behind it a letter -/
theorem setL_step {H : Hp} {p : Addr} {xs ys : List V} {k : Int} {j : Nat} {v : V} {Q : Hp → Prop} (hp : H p = some (.lst xs)) (hj : ixN xs.length k = some j) (hy : xs.set j v = ys) (h : ∀ H1, H1 p = some (.lst ys) → Kp p H H1 → Q H1) :
    rSetL (.ref p) (.int k) v H Q := ⟨p, xs, k, j, rfl, rfl, hp, hj, h _ (by rw [hy]; exact upd_same) Kp.upd⟩
/-! ### parts as they stand -/
section
variable {K : PySem.W.Frag} {H H' : Hp}
def PtV (K : PySem.W.Frag) (H : Hp) (v : V) (q : Rat) : Prop := ∃ a, v = .ref a ∧ SqT K H a [.int q.num, .int (q.den : Int)]
theorem seqT_same {a : Addr} {xs : List V} (e : Same H H') (h : SqT K H a xs) : SqT K H' a xs := by
  rcases h with (h | ⟨o, h⟩) | h
  · exact .inl (.inl (e _ _ h))
  · exact .inl (.inr ⟨o, e _ _ h⟩)
  · exact .inr h
theorem seqT_kp {b a : Addr} {xs ys : List V} (e : Kp b H H') (hb : H b = some (.lst ys)) (h : SqT K H a xs) : SqT K H' a xs := by
  rcases h with (h | ⟨o, h⟩) | h
  · exact .inl (.inl (e _ _ h (ne_of h hb (by intro z; cases z))))
  · exact .inl (.inr ⟨o, e _ _ h (ne_of h hb (by intro z; cases z))⟩)
  · exact .inr h
theorem PtV.same {v : V} {q : Rat} (h : PtV K H v q) (e : Same H H') : PtV K H' v q := by
  obtain ⟨a, rfl, h⟩ := h
  exact ⟨a, rfl, seqT_same e h⟩
theorem PtV.kp {b : Addr} {ys : List V} {v : V} {q : Rat} (h : PtV K H v q) (e : Kp b H H') (hb : H b = some (.lst ys)) : PtV K H' v q := by
  obtain ⟨a, rfl, h⟩ := h
  exact ⟨a, rfl, seqT_kp e hb h⟩
theorem PtV.new {p : Addr} {q : Rat} {a c : Int} (h1 : q.num = a) (h2 : (q.den : Int) = c) : PtV K (upd H p (.tup [.int a, .int c])) (.ref p) q := by
  refine ⟨p, rfl, SqT.of ?_⟩
  rw [upd_same, h1, h2]
def dPart (q : Rat) : PyData := .tuple [.int q.num, .int (q.den : Int)]
theorem PtV.dp {v : V} {q : Rat} (h : PtV K H v q) : Dp K H v (dPart q) := by
  obtain ⟨a, rfl, h⟩ := h
  exact .tup h (.cons (.int _) (.cons (.int _) .nil))
theorem dPart_shaped (q : Rat) : SeqAt.shaped (dPart q) = true := by
  rfl
theorem eqv_part (x y : Rat) : PyData.eqv (dPart x) (dPart y) = decide (x = y) := by
  show (x.num == y.num && ((x.den : Int) == (y.den : Int) && true)) = decide (x = y)
  by_cases h : x = y
  · subst h
    simp
  · rw [decide_eq_false h]
    by_cases h1 : x.num = y.num
    · have h2 : ¬ (x.den : Int) = (y.den : Int) := fun z => h (rat_ext h1 (by omega))
      simp [h2]
    · simp [h1]
end
/-! ### the bag of the law -/
/-- at b: the bag; the cells of the script, the place, the rest, the mixed number, the count -/
def Bag (H : Hp) (b : Addr) : Prop := ∃ (c : Addr) (ns : List Int) (p r x q : Int), H b = some (.lst [.ref c, .int p, .int r, .int x, .int q]) ∧ H c = some (.lst (ns.map V.int)) ∧ c ≠ b ∧ ns.length ≤ 63 ∧ 0 ≤ p ∧ 0 ≤ x ∧ x < 2147483629
theorem Bag.lst {H : Hp} {b : Addr} (h : Bag H b) : ∃ ys, H b = some (.lst ys) := by
  obtain ⟨c, ns, p, r, x, q, h, _⟩ := h
  exact ⟨_, h⟩
theorem Bag.same {H H' : Hp} {b : Addr} (h : Bag H b) (e : Same H H') : Bag H' b := by
  obtain ⟨c, ns, p, r, x, q, h1, h2, h3⟩ := h
  exact ⟨c, ns, p, r, x, q, e _ _ h1, e _ _ h2, h3⟩
theorem PtV.bag {K : PySem.W.Frag} {H H' : Hp} {b : Addr} {v : V} {q : Rat} (h : PtV K H v q) (e : Kp b H H') (hb : Bag H b) : PtV K H' v q := by
  obtain ⟨ys, hb⟩ := hb.lst
  exact h.kp e hb
theorem cut63 {xs : List V} (h : xs.length ≤ 63) : cutV xs none (some 63) = xs := by
  unfold cutV
  rw [HT.sIx_none, show HT.sIx xs.length xs.length (some 63) = min 63 xs.length from HT.sIx_nat xs.length xs.length 63, List.drop_zero, Nat.sub_zero]
  exact List.take_of_length_le (by omega)
theorem bag_ne {b L : Addr} (h : Bag H b) (n : H L = none) : L ≠ b := fun z => by
  obtain ⟨ys, e⟩ := h.lst
  rw [z, e] at n
  cases n
/-- the list at b begins with the address c -/
def Hd (H : Hp) (b c : Addr) : Prop := ∃ r, H b = some (.lst (.ref c :: r))
/-- all but what stands at b is as it was, and b begins as it did -/
structure KpG (b : Addr) (H H' : Hp) : Prop where
  k0 : Kp b H H'
  hd : ∀ c, Hd H b c → Hd H' b c
instance {b : Addr} {H H' : Hp} : Coe (KpG b H H') (Kp b H H') := ⟨KpG.k0⟩
instance {b : Addr} {H H' : Hp} : CoeFun (KpG b H H') (fun _ => ∀ a o, H a = some o → a ≠ b → H' a = some o) := ⟨KpG.k0⟩
theorem KpG.trans {b : Addr} {H H1 H2 : Hp} (x : KpG b H H1) (y : Kp b H1 H2) : Kp b H H2 := x.k0.trans y
theorem KpG.then {b : Addr} {H H1 H2 : Hp} (x : KpG b H H1) (y : KpG b H1 H2) : KpG b H H2 := ⟨x.k0.trans y.k0, fun c h => y.hd c (x.hd c h)⟩
theorem KpG.of {b : Addr} {H H' : Hp} (h : Same H H') : KpG b H H' := ⟨Kp.of h, fun _ ⟨r, e⟩ => ⟨r, h _ _ e⟩⟩
theorem KpG.put {b D : Addr} {H : Hp} {o : HO} (nD : H D = none) (H1 : Hp) (k : KpG b H H1) (hD : D ≠ b) : KpG b H (upd H1 D o) :=
  ⟨fun a u e n => by
    rw [upd_ne (ne_of_none e nD)]
    exact k.k0 a u e n, fun c h => by
    obtain ⟨r, e⟩ := k.hd c h
    exact ⟨r, by rw [upd_ne hD.symm]; exact e⟩⟩
theorem Bag.put {H : Hp} {b c D : Addr} {o : HO} (h : Bag H b) (hc : Hd H b c) (h1 : D ≠ b) (h2 : D ≠ c) : Bag (upd H D o) b := by
  obtain ⟨c', ns, p, r, x, q, e1, e2, e3⟩ := h
  obtain ⟨r', e⟩ := hc
  rw [e] at e1
  cases e1
  exact ⟨c, ns, p, r, x, q, by rw [upd_ne h1.symm]; exact e, by rw [upd_ne h2.symm]; exact e2, e3⟩
theorem Bag.hd {H : Hp} {b : Addr} (h : Bag H b) : ∃ c o, Hd H b c ∧ H c = some o := by
  obtain ⟨c, ns, p, r, x, q, e1, e2, e3⟩ := h
  exact ⟨c, _, ⟨_, e1⟩, e2⟩
/-- the bag, and where its cells stand -/
def BagC (H : Hp) (b cc : Addr) : Prop := Bag H b ∧ Hd H b cc ∧ ∃ o, H cc = some o
theorem BagC.kp {H H' : Hp} {b cc : Addr} (x : BagC H b cc) (k : KpG b H H') (hb : Bag H' b) : BagC H' b cc := by
  obtain ⟨h1, h2, o, h3⟩ := x
  refine ⟨hb, k.hd cc h2, ?_⟩
  obtain ⟨c', ns, p, r, x, q, e1, e2, e3, _⟩ := h1
  obtain ⟨r', e⟩ := h2
  rw [e] at e1
  cases e1
  exact ⟨o, k.k0 _ _ h3 e3⟩
theorem BagC.put {H : Hp} {b cc D : Addr} {o : HO} (x : BagC H b cc) (h1 : D ≠ b) (h2 : D ≠ cc) : BagC (upd H D o) b cc := by
  obtain ⟨a, c, u, d⟩ := x
  refine ⟨a.put c h1 h2, ?_, u, by rw [upd_ne h2.symm]; exact d⟩
  obtain ⟨r, e⟩ := c
  exact ⟨r, by rw [upd_ne h1.symm]; exact e⟩
theorem BagC.same {H H' : Hp} {b cc : Addr} (x : BagC H b cc) (e : Same H H') : BagC H' b cc := by
  obtain ⟨a, ⟨r, c⟩, u, d⟩ := x
  exact ⟨a.same e, ⟨r, e _ _ c⟩, u, e _ _ d⟩
theorem BagC.ne {H : Hp} {b cc D : Addr} (x : BagC H b cc) (n : H D = none) : D ≠ b ∧ D ≠ cc := by
  obtain ⟨a, ⟨r, c⟩, u, d⟩ := x
  exact ⟨fun z => (by rw [z, c] at n; cases n), fun z => (by rw [z, d] at n; cases n)⟩
theorem Bag.c {H : Hp} {b : Addr} (h : Bag H b) : ∃ cc, BagC H b cc := by
  obtain ⟨c, o, h1, h2⟩ := h.hd
  exact ⟨c, h, h1, o, h2⟩
theorem kp_none {c D : Addr} {H H2 : Hp} (k : Kp c H H2) (n : H2 D = none) (h : D ≠ c) : H D = none := by
  cases e : H D with
  | none => rfl
  | some o =>
    rw [k _ _ e h] at n
    cases n
theorem kp_put {c D : Addr} {H H2 : Hp} {o : HO} (k : Kp c H H2) (n : H D = none) : Kp c H (upd H2 D o) := fun b u e h => by
  rw [upd_ne (ne_of_none e n)]
  exact k b u e h
/-! ### the promises of the law's helpers -/
def spBag (K : PySem.W.Frag) : Sp := fun vs H Q _ => ∃ (a : Addr) (ns : List Int), vs = [.ref a] ∧ SqL K H a (ns.map V.int) ∧ ns.length ≤ 63 ∧ ∀ b H', H b = none → Same H H' → Bag H' b → Q (.ref b) H'
def spGet : Sp := fun vs H Q _ => ∃ (b : Addr) (m : Int), vs = [.ref b, .int m] ∧ Bag H b ∧ 0 < m ∧ m < 1073741824 ∧ ∀ r H', 0 ≤ r → r < m → Bag H' b → KpG b H H' → Q (.int r) H'
def spFar : Sp := fun vs H Q _ => ∃ (b : Addr) (k : Nat), vs = [.ref b, .int k] ∧ Bag H b ∧ k ≤ 300 ∧ ∀ (r : Int) H', 0 ≤ r → r < 1000 ^ k → Bag H' b → Kp b H H' → Q (.int r) H'
def spGcd : Sp := fun vs H Q _ => ∃ a c : Int, vs = [.int a, .int c] ∧ 0 ≤ a ∧ 0 ≤ c ∧ Q (.int (Int.gcd a c : Nat)) H
def spPart (K : PySem.W.Frag) : Sp := fun vs H Q _ => ∃ a c : Int, vs = [.int a, .int c] ∧ c ≠ 0 ∧ a.natAbs < 2 ^ 8000 ∧ c.natAbs < 2 ^ 8000 ∧ ∀ v H', Same H H' → PtV K H' v (Rat.divInt a c) → Q v H'
def spNumber : Sp := fun vs H Q _ => ∃ b : Addr, vs = [.ref b] ∧ Bag H b ∧ ∀ (r : Int) H', r.natAbs < 2 ^ 200 → Bag H' b → Kp b H H' → Q (.int r) H'
def spSomePart (K : PySem.W.Frag) : Sp := fun vs H Q _ => ∃ b : Addr, vs = [.ref b] ∧ Bag H b ∧ ∀ v q H', PtV K H' v q → Sz 201 q → Bag H' b → Kp b H H' → Q v H'
/-- two parts in, f of them out -/
@[irreducible] def spTwo (K : PySem.W.Frag) (C : Rat → Rat → Prop) (f : Rat → Rat → Rat) : Sp := fun vs H Q _ => ∃ (v w : V) (x y : Rat), vs = [v, w] ∧ PtV K H v x ∧ PtV K H w y ∧ Sz 3900 x ∧ Sz 3900 y ∧ C x y ∧ ∀ u H', Same H H' → PtV K H' u (f x y) → Q u H'
@[irreducible] def spLess (K : PySem.W.Frag) : Sp := fun vs H Q _ => ∃ (v w : V) (x y : Rat), vs = [v, w] ∧ PtV K H v x ∧ PtV K H w y ∧ Sz 3900 x ∧ Sz 3900 y ∧ ∀ r, r = V.bl (decide (x < y)) → Q r H
end Cc
namespace Cc
open PySem PySem.Spec PyProof.Rows L2
/-! ### steps of a reading -/
section
variable {K : PySem.W.Frag} {H : Hp} {v w : V} {x y : Rat} {Q : VK}
theorem two_step {C : Rat → Rat → Prop} {g : Rat → Rat → Rat} {m n : Nat} {vs : List V} {E : XK} (hv : PtV K H v x) (hw : PtV K H w y) (sx : Sz m x) (sy : Sz n y) (hm : m ≤ 3900) (hn : n ≤ 3900) (hc : C x y) (h : ∀ u H', Same H H' → PtV K H' u (g x y) → Q u H') (hvs : vs = [v, w] := by rfl) : spTwo K C g vs H Q E := by
  unfold spTwo
  exact ⟨v, w, x, y, hvs, hv, hw, sx.mono hm, sy.mono hn, hc, h⟩
theorem less_step {m n : Nat} {vs : List V} {E : XK} (hv : PtV K H v x) (hw : PtV K H w y) (sx : Sz m x) (sy : Sz n y) (hm : m ≤ 3900) (hn : n ≤ 3900) (h : Q (.bl (decide (x < y))) H) (hvs : vs = [v, w] := by rfl) : spLess K vs H Q E := by
  unfold spLess
  exact ⟨v, w, x, y, hvs, hv, hw, sx.mono hm, sy.mono hn, fun _ e => e ▸ h⟩
theorem neD_step (hv : PtV K H v x) (hw : PtV K H w y) (h : Q (.bl (!decide (x = y))) H) : rNeD K v w H Q :=
  ⟨_, _, hv.dp, hw.dp, dPart_shaped _, dPart_shaped _, by rw [eqv_part]; exact h⟩
theorem eqD_step (hv : PtV K H v x) (hw : PtV K H w y) (h : Q (.bl (decide (x = y))) H) : rEqD K v w H Q :=
  ⟨_, _, hv.dp, hw.dp, dPart_shaped _, dPart_shaped _, by rw [eqv_part]; exact h⟩
end
section
variable {X : Cx}
def rCntB (K : PySem.W.Frag) : V → List V → Hp → VK → Prop := fun x xs H Q => ∃ (p : Addr) (bs : List Bool) (k : Bool), x = .ref p ∧ xs = [.bl k] ∧ SqL K H p (bs.map V.bl) ∧ Q (.int (bs.count k : Nat)) H
theorem reads_bools (hp : Heap) : ∀ bs : List Bool, ∃ as, ReadsAll hp (bs.map Value.bool) (bs.map PyData.bool) as
  | [] => ⟨_, ReadsAll.nil⟩
  | b :: r => by
    obtain ⟨as, h⟩ := reads_bools hp r
    exact ⟨_, ReadsAll.cons (Reads.bool b) h⟩
theorem countIn_bools (k : Bool) : ∀ bs : List Bool, countIn (.bool k) (bs.map PyData.bool) = (bs.count k : Nat)
  | [] => rfl
  | b :: r => by
    have ih := countIn_bools k r
    rw [List.map_cons, countIn, ih, List.count_cons]
    cases b <;> cases k <;> simp [same] <;> omega
theorem mt_lcountB : MtR X "list.count" (rCntB X.K) := by
  intro pins s σ H x xs v us Q I rx rxs h
  obtain ⟨p, bs, k, rfl, rfl, hs, q⟩ := h
  cases rx
  obtain ⟨u, rfl, ru⟩ := rxs.one
  cases ru
  obtain ⟨its, rv, hl, hlen⟩ := I.list hs
  have hb := rv.bls
  obtain ⟨as, ra⟩ := reads_bools s.heap bs
  refine count_list_bools (xs := bs.map PyData.bool) hl.isList (by rw [hb]; exact ra) ?_ ?_
  · rw [List.all_map]
    exact List.all_eq_true.mpr fun b _ => by cases b <;> rfl
  · rw [countIn_bools]
    exact ⟨.int _, H, I.tok _, ⟨_, rfl⟩, q⟩
end
theorem sz_abs {n : Nat} {x : Rat} (h : Sz n x) : x.num.natAbs < 2 ^ n ∧ ((x.den : Nat) : Int).natAbs < 2 ^ n := ⟨h.1, by rw [Int.natAbs_natCast]; exact h.2⟩
def spLaw (K : PySem.W.Frag) : Sp := fun vs H Q _ => ∃ (a : Addr) (ns : List Int), vs = [.ref a] ∧ SqL K H a (ns.map V.int) ∧ ns.length ≤ 63 ∧ ∀ H', Q (.bl true) H'
end Cc
namespace Cc
open PySem PySem.Spec PyProof.Rows L2
/-! ### data that stand still -/
section
variable {K : PySem.W.Frag} {H H' : Hp}
theorem seqL_same {a : Addr} {xs : List V} (e : Same H H') (h : SqL K H a xs) : SqL K H' a xs := e.seq h
mutual
theorem Dp.mono (e : Same H H') : ∀ (d : PyData) (v : V), Dp K H v d → Dp K H' v d
  | .none, _, h => by cases h; exact .non
  | .bool b, _, h => by cases h; exact .bl b
  | .int i, _, h => by cases h; exact .int i
  | .str x, _, h => by cases h; exact .str x
  | .list ds, _, h => by
    cases h with
    | lst hs ha => exact .lst (seqL_same e hs) (Dp.monoAll e ds _ ha)
  | .tuple ds, _, h => by
    cases h with
    | tup hs ha => exact .tup (seqT_same e hs) (Dp.monoAll e ds _ ha)
  | .dict _, _, h => by cases h
theorem Dp.monoAll (e : Same H H') : ∀ (ds : List PyData) (vs : List V), DpAll K H vs ds → DpAll K H' vs ds
  | [], _, h => by cases h; exact .nil
  | d :: ds, _, h => by
    cases h with
    | cons h1 h2 => exact .cons (Dp.mono e d _ h1) (Dp.monoAll e ds _ h2)
end
theorem dpAll_len : ∀ {vs : List V} {ds : List PyData}, DpAll K H vs ds → vs.length = ds.length
  | _, _, .nil => rfl
  | _, _, .cons _ h => by rw [List.length_cons, List.length_cons, dpAll_len h]
theorem dpAll_get : ∀ {vs : List V} {ds : List PyData} (h : DpAll K H vs ds) {i : Nat} {v : V}, vs[i]? = some v → ∃ d, ds[i]? = some d ∧ Dp K H v d
  | _, _, .nil, i, v, e => by simp at e
  | _, _, .cons (d := d) h1 h2, 0, v, e => by
    cases e
    exact ⟨d, rfl, h1⟩
  | _, _, .cons h1 h2, i + 1, v, e => by
    rw [List.getElem?_cons_succ] at e
    obtain ⟨d, hd, h⟩ := dpAll_get h2 e
    exact ⟨d, by rw [List.getElem?_cons_succ]; exact hd, h⟩
/-! ### types of data -/
def tyN : PyData → String
  | .none => "NoneType"
  | .bool _ => "bool"
  | .int _ => "int"
  | .str _ => "str"
  | .list _ => "list"
  | .tuple _ => "tuple"
  | .dict _ => "dict"
theorem tyx_tup {a : Addr} {xs : List V} (h : SqT K H a xs) : TyX K H (.ref a) (.type "tuple") := by
  rcases h with (h | ⟨o, h⟩) | ⟨o, its, n, h1, h2, _⟩
  · exact .base (.tup h)
  · exact .fTuple h
  · exact .kTuple h1 h2
theorem tyx_lst {a : Addr} {xs : List V} (h : SqL K H a xs) : TyX K H (.ref a) (.type "list") := by
  rcases h with (h | ⟨o, h⟩) | ⟨o, its, n, h1, h2, _⟩
  · exact .base (.lst h)
  · exact .base (.frz h)
  · exact .kList h1 h2
theorem tyx_of {v : V} : ∀ {d : PyData}, Dp K H v d → TyX K H v (.type (tyN d))
  | _, .non => .base .non
  | _, .bl b => .base (.bl b)
  | _, .int i => .base (.int i)
  | _, .str x => .base (.str x)
  | _, .lst h _ => tyx_lst h
  | _, .tup h _ => tyx_tup h
@[irreducible] def rIsiI (K : PySem.W.Frag) : List V → Hp → VK → Prop := rIsi K
@[irreducible] def rIsiTI (K : PySem.W.Frag) : List V → Hp → VK → Prop := rIsiT K
theorem call_isiI {X : Cx} : CallR X (.builtin "isinstance") (rIsiI X.K) := by
  unfold rIsiI
  exact call_isi
theorem call_isiTI {X : Cx} : CallR X (.builtin "isinstance") (rIsiTI X.K) := by
  unfold rIsiTI
  exact call_isiT
/-- isinstance of one type, of a datum -/
theorem isi_step {v : V} {d : PyData} (t n : String) (b : Bool) {Q : VK} {vs : List V} (h : Dp K H v d) (ht : tyN d = t) (hk : kitB t n = some b) (q : Q (.bl b) H) (hvs : vs = [v, .ty n] := by rfl) : rIsiI K vs H Q := by
  unfold rIsiI
  exact ⟨v, .ty n, _, _, b, hvs, .ty n, tyx_of h, kit_ty (by rw [ht]; exact hk), q⟩
theorem isiT_step {v : V} {d : PyData} {t n m : String} {b c : Bool} {tp : Addr} {Q : VK} {vs : List V} (h : Dp K H v d) (ht : tyN d = t) (hT : H tp = some (.tup [.ty n, .ty m])) (hk : kitB t n = some b) (hk2 : kitB t m = some c) (q : Q (.bl (b || c)) H) (hvs : vs = [v, .ref tp] := by rfl) : rIsiTI K vs H Q := by
  unfold rIsiTI
  subst ht
  refine ⟨v, tp, [.ty n, .ty m], _, [.type n, .type m], b || c, hvs, hT, .cons (.ty n) (.cons (.ty m) .nil), tyx_of h, ?_, q⟩
  refine kitAny_cons (kit_ty hk) (fun e => ?_) (fun e => by rw [e]; rfl)
  subst e
  refine kitAny_cons (r := false || c) (kit_ty hk2) (fun e => ?_) (fun e => by rw [e]; rfl)
  subst e
  exact kitAny_nil
end
/-! ### the promise of _law_same -/
/-- the datum is less deep than n, its lists and tuples short -/
def dle : Nat → PyData → Bool
  | 0, _ => false
  | n + 1, .list ds => decide (ds.length ≤ 1000) && ds.all (dle n)
  | n + 1, .tuple ds => decide (ds.length ≤ 1000) && ds.all (dle n)
  | _ + 1, .dict _ => false
  | _ + 1, .str x => SeqAt.shaped (.str x)
  | _ + 1, _ => true
/-- two things of one datum are the same -/
@[irreducible] def spSame (K : PySem.W.Frag) (n : Nat) : Sp := fun vs H Q _ => ∃ (v w : V) (d : PyData), vs = [v, w] ∧ Dp K H v d ∧ Dp K H w d ∧ dle n d = true ∧ ∀ r H', Same H H' → r = V.bl true → Q r H'
theorem same_step {K : PySem.W.Frag} {H : Hp} {n : Nat} {v w : V} {d : PyData} {Q : VK} {E : XK} {vs : List V} (hv : Dp K H v d) (hw : Dp K H w d) (hd : dle n d = true) (q : ∀ H', Same H H' → Q (.bl true) H') (hvs : vs = [v, w] := by rfl) : spSame K n vs H Q E := by
  unfold spSame
  exact ⟨v, w, d, hvs, hv, hw, hd, fun r H' s e => by rw [e]; exact q H' s⟩
theorem fn_none {P : Program} {w : World} {K : PySem.W.Frag} {mg : Str → Option Value} {base : Heap} {f : Addr} {fd : FuncData} {ps : List Str} {sp : Sp} {k : Nat} (h : ∀ vs H Q E, ¬ sp vs H Q E) : FnOk P w K mg base CX0 k f fd ps sp :=
  ⟨fun vs H Q E z => absurd z (h vs H Q E), fun A outer s H args us vs Q E _ _ _ _ z => absurd z (h vs H Q E)⟩
theorem defOk_none {P : Program} {w : World} {K : PySem.W.Frag} {mg : Str → Option Value} {base : Heap} {x : Str} {st : Stmt} {ps : List Str} {sp : Sp} {k : Nat} (F : DefAt K mg x st ps) (h : ∀ vs H Q E, ¬ sp vs H Q E) : DefOk P w K mg base k x ps sp := by
  obtain ⟨f, fd, F, hm, hb⟩ := F
  exact ⟨f, fd, fn_none h, hm, F.kp, hb⟩
end Cc
namespace Cc
open PySem PySem.Spec PyProof.Rows L2
/-- a box of the mathematics -/
structure Bx where
  l : Rat
  t : Rat
  w : Rat
  h : Rat
structure Bx.Ok (n : Nat) (b : Bx) : Prop where
  w0 : 0 < b.w
  h0 : 0 < b.h
  sl : Sz n b.l
  st : Sz n b.t
  sw : Sz n b.w
  sh : Sz n b.h
theorem Bx.Ok.mono {m n : Nat} {b : Bx} (x : b.Ok m) (h : m ≤ n) : b.Ok n := ⟨x.w0, x.h0, x.sl.mono h, x.st.mono h, x.sw.mono h, x.sh.mono h⟩
section
variable {K : PySem.W.Frag} {H H' : Hp}
/-- a box as it stands: its tuple at a, its parts -/
def BxAt (K : PySem.W.Frag) (H : Hp) (a : Addr) (v1 v2 v3 v4 : V) (b : Bx) : Prop :=
  SqT K H a [v1, v2, v3, v4] ∧ PtV K H v1 b.l ∧ PtV K H v2 b.t ∧ PtV K H v3 b.w ∧ PtV K H v4 b.h
def BxV (K : PySem.W.Frag) (H : Hp) (v : V) (b : Bx) : Prop := ∃ a v1 v2 v3 v4, v = .ref a ∧ BxAt K H a v1 v2 v3 v4 b
theorem BxAt.same {a : Addr} {v1 v2 v3 v4 : V} {b : Bx} (x : BxAt K H a v1 v2 v3 v4 b) (e : Same H H') : BxAt K H' a v1 v2 v3 v4 b :=
  ⟨seqT_same e x.1, x.2.1.same e, x.2.2.1.same e, x.2.2.2.1.same e, x.2.2.2.2.same e⟩
theorem BxAt.bag {a c : Addr} {v1 v2 v3 v4 : V} {b : Bx} (x : BxAt K H a v1 v2 v3 v4 b) (e : Kp c H H') (hb : Bag H c) : BxAt K H' a v1 v2 v3 v4 b := by
  obtain ⟨ys, h⟩ := hb.lst
  exact ⟨seqT_kp e h x.1, x.2.1.kp e h, x.2.2.1.kp e h, x.2.2.2.1.kp e h, x.2.2.2.2.kp e h⟩
theorem BxV.same {v : V} {b : Bx} (x : BxV K H v b) (e : Same H H') : BxV K H' v b := by
  obtain ⟨a, v1, v2, v3, v4, rfl, x⟩ := x
  exact ⟨a, v1, v2, v3, v4, rfl, x.same e⟩
theorem BxV.bag {c : Addr} {v : V} {b : Bx} (x : BxV K H v b) (e : Kp c H H') (hb : Bag H c) : BxV K H' v b := by
  obtain ⟨a, v1, v2, v3, v4, rfl, x⟩ := x
  exact ⟨a, v1, v2, v3, v4, rfl, x.bag e hb⟩
theorem BxV.mk {p : Addr} {v1 v2 v3 v4 : V} {b : Bx} (np : H p = none) (h1 : PtV K H v1 b.l) (h2 : PtV K H v2 b.t) (h3 : PtV K H v3 b.w) (h4 : PtV K H v4 b.h) : BxV K (upd H p (.tup [v1, v2, v3, v4])) (.ref p) b :=
  ⟨p, v1, v2, v3, v4, rfl, SqT.of upd_same, h1.same (same_new np), h2.same (same_new np), h3.same (same_new np), h4.same (same_new np)⟩
def dBox (b : Bx) : PyData := .tuple [dPart b.l, dPart b.t, dPart b.w, dPart b.h]
theorem BxV.dp {v : V} {b : Bx} (x : BxV K H v b) : Dp K H v (dBox b) := by
  obtain ⟨a, v1, v2, v3, v4, rfl, h, h1, h2, h3, h4⟩ := x
  exact .tup h (.cons h1.dp (.cons h2.dp (.cons h3.dp (.cons h4.dp .nil))))
/-- a part that is whole -/
theorem ptv_int {p : Addr} (np : H p = none) (i : Int) : PtV K (upd H p (.tup [.int i, .int 1])) (.ref p) (i : Rat) := PtV.new rfl rfl
end
/-- a name of the module that holds nought -/
def NoughtAt (K : PySem.W.Frag) (mg : Str → Option Value) : Prop := ∃ a, mg "NOUGHT" = some (.ref a) ∧ ∀ H, PtV K H (.ref a) 0
theorem nought_mk {K : PySem.W.Frag} {mg : Str → Option Value} {h : Heap} (X : K.In h) (G : h.Ns mainGlobals mg) {a : Addr} {dd : Option Addr} {n : Nat} {t u : Tok} {sl : Array (Option Value)}
    (e : PySem.W.nsIn K mainGlobals "NOUGHT" = some (some (.ref a))) (l : K.lookup a = some ⟨.type "tuple", dd, .seq #[.int 0 t, .int 1 u] n, sl⟩) : NoughtAt K mg :=
  ⟨a, PySem.W.mg_of X G e, fun _ => ⟨a, rfl, .inr ⟨_, _, _, l, rfl, rfl, (show 2 ≤ sizeLine by decide), .cons ⟨t, rfl⟩ (.cons ⟨u, rfl⟩ .nil)⟩⟩⟩
/-! ### promises -/
@[irreducible] def spIsNum : Sp := fun vs H Q _ => ∃ i : Int, vs = [.int i] ∧ ∀ r, r = V.bl true → Q r H
@[irreducible] def spIsPart (K : PySem.W.Frag) : Sp := fun vs H Q _ => ∃ (v : V) (q : Rat), vs = [v] ∧ PtV K H v q ∧ ∀ r, r = V.bl true → Q r H
@[irreducible] def spIsBox (K : PySem.W.Frag) : Sp := fun vs H Q _ => ∃ (v : V) (b : Bx), vs = [v] ∧ BxV K H v b ∧ b.Ok 3900 ∧ ∀ r H', Same H H' → r = V.bl true → Q r H'
@[irreducible] def spCheck (K : PySem.W.Frag) : Sp := fun vs H Q _ => ∃ (v : V) (b : Bx), vs = [v] ∧ BxV K H v b ∧ b.Ok 3900 ∧ ∀ r H', Same H H' → r = V.non → Q r H'
/-- a part of a box -/
@[irreducible] def spOfBox (K : PySem.W.Frag) (g : Bx → Rat) : Sp := fun vs H Q _ => ∃ (v : V) (b : Bx), vs = [v] ∧ BxV K H v b ∧ b.Ok 1900 ∧ ∀ u H', Same H H' → PtV K H' u (g b) → Q u H'
def gr (x y : Rat) : Rat := if x < y then y else x
def ls (x y : Rat) : Rat := if x < y then x else y
def shp (b : Bx) : Rat := gr (b.w / b.h) (b.h / b.w)
@[irreducible] def spSomeBox (K : PySem.W.Frag) : Sp := fun vs H Q _ => ∃ c : Addr, vs = [.ref c] ∧ Bag H c ∧ ∀ v b H', BxV K H' v b → b.Ok 202 → Bag H' c → Kp c H H' → Q v H'
@[irreducible] def spAbove (K : PySem.W.Frag) : Sp := fun vs H Q _ => ∃ c : Addr, vs = [.ref c] ∧ Bag H c ∧ ∀ v q H', PtV K H' v q → 0 < q → Sz 202 q → Bag H' c → Kp c H H' → Q v H'
section
variable {K : PySem.W.Frag} {H : Hp} {v : V} {b : Bx} {Q : VK} {vs : List V} {E : XK} {q : Rat}
theorem isnum_step {i : Int} (h : Q (.bl true) H) (hvs : vs = [.int i] := by rfl) : spIsNum vs H Q E := by
  unfold spIsNum
  exact ⟨i, hvs, fun r e => by rw [e]; exact h⟩
theorem ispart_step (hv : PtV K H v q) (h : Q (.bl true) H) (hvs : vs = [v] := by rfl) : spIsPart K vs H Q E := by
  unfold spIsPart
  exact ⟨v, q, hvs, hv, fun r e => by rw [e]; exact h⟩
theorem isbox_step {n : Nat} (hv : BxV K H v b) (hb : b.Ok n) (hn : n ≤ 3900) (h : ∀ H', Same H H' → Q (.bl true) H') (hvs : vs = [v] := by rfl) : spIsBox K vs H Q E := by
  unfold spIsBox
  exact ⟨v, b, hvs, hv, hb.mono hn, fun r H' s e => by rw [e]; exact h H' s⟩
theorem check_step {n : Nat} (hv : BxV K H v b) (hb : b.Ok n) (hn : n ≤ 3900) (h : ∀ H', Same H H' → Q .non H') (hvs : vs = [v] := by rfl) : spCheck K vs H Q E := by
  unfold spCheck
  exact ⟨v, b, hvs, hv, hb.mono hn, fun r H' s e => by rw [e]; exact h H' s⟩
theorem ofbox_step {g : Bx → Rat} {n : Nat} (hv : BxV K H v b) (hb : b.Ok n) (hn : n ≤ 1900) (h : ∀ u H', Same H H' → PtV K H' u (g b) → Q u H') (hvs : vs = [v] := by rfl) : spOfBox K g vs H Q E := by
  unfold spOfBox
  exact ⟨v, b, hvs, hv, hb.mono hn, h⟩
theorem somebox_step {c : Addr} (hb : Bag H c) (h : ∀ v b H', BxV K H' v b → b.Ok 202 → Bag H' c → Kp c H H' → Q v H') (hvs : vs = [.ref c] := by rfl) : spSomeBox K vs H Q E := by
  unfold spSomeBox
  exact ⟨c, hvs, hb, h⟩
theorem above_step {c : Addr} (hb : Bag H c) (h : ∀ v q H', PtV K H' v q → 0 < q → Sz 202 q → Bag H' c → Kp c H H' → Q v H') (hvs : vs = [.ref c] := by rfl) : spAbove K vs H Q E := by
  unfold spAbove
  exact ⟨c, hvs, hb, h⟩
end
@[irreducible] def spPick : Sp := fun vs H Q _ => ∃ (c L : Addr) (xs : List V), vs = [.ref c, .ref L] ∧ Bag H c ∧ H L = some (.lst xs) ∧ L ≠ c ∧ 0 < xs.length ∧ xs.length ≤ 1000 ∧ ∀ v H', v ∈ xs → Bag H' c → Kp c H H' → Q v H'
@[irreducible] def spEnds (K : PySem.W.Frag) : Sp := fun vs H Q _ => ∃ (v : V) (b : Bx), vs = [v] ∧ BxV K H v b ∧ b.Ok 1900 ∧ ∀ p v1 v2 v3 v4 H', Same H H' → BxAt K H' p v1 v2 v3 v4 ⟨b.l, b.l + b.w, b.t, b.t + b.h⟩ → Q (.ref p) H'
@[irreducible] def spStretch (K : PySem.W.Frag) : Sp := fun vs H Q _ => ∃ (v1 v2 v3 : V) (x l p : Rat), vs = [v1, v2, v3] ∧ PtV K H v1 x ∧ PtV K H v2 l ∧ PtV K H v3 p ∧ Sz 1900 x ∧ Sz 1900 l ∧ Sz 3900 p ∧ ∀ r H', Same H H' → r = V.bl (!decide (p < x) && decide (p < x + l)) → Q r H'
def lies (b : Bx) (x y : Rat) : Bool := (!decide (x < b.l) && decide (x < b.l + b.w)) && (!decide (y < b.t) && decide (y < b.t + b.h))
@[irreducible] def spLies (K : PySem.W.Frag) : Sp := fun vs H Q _ => ∃ (v1 v2 v3 : V) (b : Bx) (x y : Rat), vs = [v1, v2, v3] ∧ BxV K H v1 b ∧ PtV K H v2 x ∧ PtV K H v3 y ∧ b.Ok 1900 ∧ Sz 3900 x ∧ Sz 3900 y ∧ ∀ r H', Same H H' → r = V.bl (lies b x y) → Q r H'
section
variable {K : PySem.W.Frag} {H : Hp} {v : V} {b : Bx} {Q : VK} {vs : List V} {E : XK}
theorem pick_step {c L : Addr} {xs : List V} (hb : Bag H c) (hL : H L = some (.lst xs)) (hne : L ≠ c) (h0 : 0 < xs.length) (h1 : xs.length ≤ 1000) (h : ∀ v H', v ∈ xs → Bag H' c → Kp c H H' → Q v H') (hvs : vs = [.ref c, .ref L] := by rfl) : spPick vs H Q E := by
  unfold spPick
  exact ⟨c, L, xs, hvs, hb, hL, hne, h0, h1, h⟩
theorem ends_step {n : Nat} (hv : BxV K H v b) (hb : b.Ok n) (hn : n ≤ 1900) (h : ∀ p v1 v2 v3 v4 H', Same H H' → BxAt K H' p v1 v2 v3 v4 ⟨b.l, b.l + b.w, b.t, b.t + b.h⟩ → Q (.ref p) H') (hvs : vs = [v] := by rfl) : spEnds K vs H Q E := by
  unfold spEnds
  exact ⟨v, b, hvs, hv, hb.mono hn, h⟩
theorem stretch_step {v1 v2 v3 : V} {x l p : Rat} {m n k : Nat} (h1 : PtV K H v1 x) (h2 : PtV K H v2 l) (h3 : PtV K H v3 p) (s1 : Sz m x) (s2 : Sz n l) (s3 : Sz k p) (hm : m ≤ 1900) (hn : n ≤ 1900) (hk : k ≤ 3900)
    (h : ∀ H', Same H H' → Q (.bl (!decide (p < x) && decide (p < x + l))) H') (hvs : vs = [v1, v2, v3] := by rfl) : spStretch K vs H Q E := by
  unfold spStretch
  exact ⟨v1, v2, v3, x, l, p, hvs, h1, h2, h3, s1.mono hm, s2.mono hn, s3.mono hk, fun r H' s e => by rw [e]; exact h H' s⟩
theorem lies_step {v1 v2 v3 : V} {x y : Rat} {m n k : Nat} (h1 : BxV K H v1 b) (h2 : PtV K H v2 x) (h3 : PtV K H v3 y) (s1 : b.Ok m) (s2 : Sz n x) (s3 : Sz k y) (hm : m ≤ 1900) (hn : n ≤ 3900) (hk : k ≤ 3900)
    (h : ∀ H', Same H H' → Q (.bl (lies b x y)) H') (hvs : vs = [v1, v2, v3] := by rfl) : spLies K vs H Q E := by
  unfold spLies
  exact ⟨v1, v2, v3, b, x, y, hvs, h1, h2, h3, s1.mono hm, s2.mono hn, s3.mono hk, fun r H' s e => by rw [e]; exact h H' s⟩
end
/-! ### mathematics -/
theorem divInt_pos {a c : Int} (h : 0 < a) (hc : 0 < c) : 0 < Rat.divInt a c := by
  rw [Rat.divInt_eq_div, Rat.div_def]
  exact Rat.mul_pos (Rat.intCast_pos.mpr h) (Rat.inv_pos.mpr (Rat.intCast_pos.mpr hc))
theorem int_pos {i : Int} (h : 0 < i) : (0 : Rat) < (i : Rat) := Rat.intCast_pos.mpr h
theorem int_sz {i : Int} (h : -1000 ≤ i ∧ i ≤ 1000) : Sz 202 ((i : Int) : Rat) := by
  constructor
  · show i.natAbs < 2 ^ 202
    exact Nat.lt_of_lt_of_le (show i.natAbs < 2 ^ 10 by omega) (Nat.pow_le_pow_right (by decide) (by decide))
  · exact Nat.one_lt_two_pow (by decide)

theorem dv_lt {w h : Rat} (hw : 0 < w) (hh : 0 < h) (e : w < h) : w / h < h / w := by
  have h1 : w / h < 1 := (Rat.div_lt_iff hh).mpr (by grind)
  have h2 : 1 < h / w := (Rat.lt_div_iff hw).mpr (by grind)
  grind
theorem gr_shape {w h : Rat} (hw : 0 < w) (hh : 0 < h) : (if w < h then h / w else w / h) = gr (w / h) (h / w) := by
  unfold gr
  by_cases e : w < h
  · rw [if_pos e, if_pos (dv_lt hw hh e)]
  · rw [if_neg e]
    by_cases e2 : h < w
    · rw [if_neg (by have := dv_lt hh hw e2; grind)]
    · have e3 : w = h := by grind
      subst e3
      rw [if_neg (by grind)]
theorem gr_comm (x y : Rat) : gr x y = gr y x := by
  unfold gr
  split <;> split <;> grind
theorem one_le_shape {w h : Rat} (hw : 0 < w) (hh : 0 < h) : ¬ gr (w / h) (h / w) < 1 := by
  rw [← gr_shape hw hh]
  split
  · rename_i e
    have h2 : 1 < h / w := (Rat.lt_div_iff hw).mpr (by grind)
    grind
  · rename_i e
    by_cases e2 : h < w
    · have h2 : 1 < w / h := (Rat.lt_div_iff hh).mpr (by grind)
      grind
    · have e3 : w = h := by grind
      subst e3
      rw [Rat.div_def, Rat.mul_inv_cancel w (by grind)]
      grind
/-! ### lists of parts -/
def PtsL (K : PySem.W.Frag) (H : Hp) (L : Addr) (n : Nat) : Prop := ∃ xs, H L = some (.lst xs) ∧ 0 < xs.length ∧ xs.length ≤ 1000 ∧ ∀ v ∈ xs, ∃ q, PtV K H v q ∧ Sz n q
theorem PtsL.same {K : PySem.W.Frag} {H H' : Hp} {L : Addr} {n : Nat} (x : PtsL K H L n) (e : Same H H') : PtsL K H' L n := by
  obtain ⟨xs, h, h0, h1, h2⟩ := x
  refine ⟨xs, e _ _ h, h0, h1, fun v hv => ?_⟩
  obtain ⟨q, hq, hz⟩ := h2 v hv
  exact ⟨q, hq.same e, hz⟩
theorem PtsL.bag {K : PySem.W.Frag} {H H' : Hp} {L c : Addr} {n : Nat} (x : PtsL K H L n) (e : Kp c H H') (hb : Bag H c) (hne : L ≠ c) : PtsL K H' L n := by
  obtain ⟨xs, h, h0, h1, h2⟩ := x
  refine ⟨xs, e _ _ h hne, h0, h1, fun v hv => ?_⟩
  obtain ⟨q, hq, hz⟩ := h2 v hv
  exact ⟨q, hq.bag e hb, hz⟩
theorem PtsL.pick {K : PySem.W.Frag} {H : Hp} {L c : Addr} {n : Nat} {Q : VK} {E : XK} {vs : List V} (x : PtsL K H L n) (hb : Bag H c) (hne : L ≠ c) (h : ∀ v q H', PtV K H' v q → Sz n q → Bag H' c → Kp c H H' → Q v H') (hvs : vs = [.ref c, .ref L] := by rfl) : spPick vs H Q E := by
  obtain ⟨xs, hL, h0, h1, h2⟩ := x
  refine pick_step hb hL hne h0 h1 (fun v H' hv hb' k => ?_) hvs
  obtain ⟨q, hq, hz⟩ := h2 v hv
  exact h v q H' (hq.bag k hb) hz hb' k
theorem tiny_part {K : PySem.W.Frag} {H : Hp} {p : Addr} {d : Int} (h0 : 0 < d) : PtV K (upd H p (.tup [.int 1, .int d])) (.ref p) (Rat.divInt 1 d) := by
  obtain ⟨e1, e2⟩ := divInt_num_eq (a := 1) h0
  rw [Int.one_gcd] at e1 e2
  exact PtV.new (by rw [e1]; rfl) (by rw [e2]; exact Int.ediv_one d)
end Cc
namespace Cc
open PySem PySem.Spec PyProof.Rows L2
/-! ### sum(t), t a tuple of ints -/
/-- the k-th of ns, nought behind them -/
def nth (ns : List Int) (k : Nat) : Int := ns.getD k 0
theorem nth_get {ns : List Int} {k : Nat} (h : k < ns.length) : nth ns k = ns[k] := by simp [nth, h]
theorem nth_sum (ns : List Int) : ∀ k, k ≤ ns.length → preSum (nth ns) k = (ns.take k).sum
  | 0, _ => by rw [List.take_zero]; rfl
  | k + 1, h => by
    show preSum (nth ns) k + nth ns k = _
    rw [nth_sum ns k (by omega), List.take_succ_eq_append_getElem h, List.sum_append, List.sum_singleton, nth_get h]
theorem ints_len {ns : List Int} {its : List Value} (rv : Vals (ns.map V.int) its) : its.toArray.size = ns.length := by
  have l := rv.length
  rw [List.length_map] at l
  exact l.symm
theorem ints_at {ns : List Int} {its : List Value} (rv : Vals (ns.map V.int) its) (i : Nat) (v : Value) (h : its.toArray[i]? = some v) : ∃ t, v = .int (nth ns i) t := by
  obtain ⟨hi, e⟩ := Array.getElem?_eq_some_iff.mp h
  have hn : i < ns.length := by rw [← ints_len rv]; exact hi
  obtain ⟨u, hu, t, ru⟩ := rv.get (i := i) (show (ns.map V.int)[i]? = some (V.int (nth ns i)) by rw [List.getElem?_map, List.getElem?_eq_getElem hn, nth_get hn]; rfl)
  rw [List.getElem?_toArray, hu] at h
  cases h
  exact ⟨t, ru⟩
section
variable {X : Cx}
/-- ints that stand in a list or in a tuple -/
def IntsV (K : PySem.W.Frag) (H : Hp) (a : Addr) (ns : List Int) : Prop := SqL K H a (ns.map V.int) ∨ SqT K H a (ns.map V.int)
@[irreducible] def rSumA (K : PySem.W.Frag) : List V → Hp → VK → Prop := fun vs H Q => ∃ (a : Addr) (ns : List Int), vs = [V.ref a] ∧ IntsV K H a ns ∧ ∀ r, r = V.int ns.sum → Q r H
theorem cr_sumA (hc : X.calm = true) : CallR X (.builtin "sum") (rSumA X.K) := fun pins s σ H vs us Q I r h => by
  unfold rSumA at h
  obtain ⟨a, ns, ev, hs, q⟩ := h
  subst ev
  rw [Vals.ref1 r]
  rcases hs with hs | hs
  · obtain ⟨its, rv, hl, -⟩ := I.list hs
    exact sum_raw (I.ok.hd hc) hl.isList rv.ints fun h' tk t old => ⟨.int _, H, I.kept old, ⟨t, rfl⟩, q _ rfl⟩
  · obtain ⟨its, rv, hl, -⟩ := I.tuple hs
    refine call_sum_walkAnyS (PySem.W.iter_tupleW (A := X.A.in1) (I.ok.hd hc) hl fun s2 e W st hb _ _ => ?_)
    refine ⟨_, _, _, _, _, _, _, nth ns, rfl, W, st, hb, ints_at rv, fun s' t m => ?_⟩
    obtain ⟨h', tk, rfl, old⟩ := PySem.W.moved_old e rfl m
    refine ⟨.int ns.sum, H, I.kept old, ⟨t, ?_⟩, q _ rfl⟩
    rw [ints_len rv, nth_sum ns _ (Nat.le_refl _), List.take_length]
theorem sum_step {K : PySem.W.Frag} {H : Hp} {a : Addr} {ns : List Int} {vs : List V} {Q : VK} (h : IntsV K H a ns) (q : Q (.int ns.sum) H) (hvs : vs = [.ref a] := by rfl) : rSumA K vs H Q := by
  unfold rSumA
  exact ⟨a, ns, hvs, h, fun r e => by rw [e]; exact q⟩
/-- two readings of one thing walked -/
theorem pi_or {tg e : Expr} {w1 w2 : TI} (h1 : PI X tg e w1) (h2 : PI X tg e w2) : PI X tg e (fun σ H R => w1 σ H R ∨ w2 σ H R) :=
  ⟨fun pins s σ H R I h => h.elim (h1.run pins s σ H R I) (h2.run pins s σ H R I)⟩
theorem pe_or2 {e : Expr} {t1 t2 : TE} (h1 : PE X e t1) (h2 : PE X e t2) : PE X e (fun σ H Q => t1 σ H Q ∨ t2 σ H Q) :=
  ⟨fun pins s σ H Q I h => h.elim (h1.run pins s σ H Q I) (h2.run pins s σ H Q I)⟩
end
/-! ### a def with one keyword-only parameter side -/
/-- as it stands: n positional parameters, then side with the default v0 -/
def DefAtS (K : PySem.W.Frag) (mg : Str → Option Value) (x : Str) (st : Stmt) (ps : List Str) (n : Nat) (v0 : V) : Prop :=
  ∃ f fd, FunD K x x (defArgs st) (defBody st) (defScope st) [] [("side", v0)] f fd ∧ mg x = some (.ref f) ∧ (∃ ds, Vals [v0] ds ∧ Binds K fd ps ds) ∧ ∃ mv : List Value, KBn K fd ps n ["side"] (fun us ws => us ++ ws) (fun vs zs => vs ++ zs)
def DefOkS (P : Program) (w : World) (K : PySem.W.Frag) (mg : Str → Option Value) (base : Heap) (k : Nat) (x : Str) (ps : List Str) (n : Nat) (v0 : V) (sp : Sp) : Prop :=
  ∃ f fd, FnOk P w K mg base CX0 k f fd ps sp ∧ mg x = some (.ref f) ∧ PySem.W.keepIn K (.ref f) = true ∧ (∃ ds, Vals [v0] ds ∧ Binds K fd ps ds) ∧ KBn K fd ps n ["side"] (fun us ws => us ++ ws) (fun vs zs => vs ++ zs)
theorem DefAtS.ok {P : Program} {w : World} {K : PySem.W.Frag} {mg : Str → Option Value} {base : Heap} {x : Str} {st : Stmt} {N ps : List Str} {k n : Nat} {v0 : V} {sp : Sp} (F : DefAtS K mg x st ps n v0) (S : FnScope N ps (defScope st)) (len : ∀ vs H Q E, sp vs H Q E → vs.length = ps.length)
    (hbody : ∀ (f : Addr) (cdv : Value) (A : Around) (outer : List Env) (s : Shared) (H : Hp) (vs : List V) (Q : VK) (E : XK), Room k (A.deeper (envOfC x (defScope st) s.heap.objs.size f cdv)) → sp vs H Q E →
      ∃ t, PSs (cxOf CX0 P w K mg base N x (defScope st) f cdv A outer s H E).nox (defBody st) t ∧ t { nx := fun _ H' => Q .non H', rt := Q } (start N vs) H) : DefOkS P w K mg base (k + 1) x ps n v0 sp := by
  obtain ⟨f, fd, F, hm, hb, mv, hk⟩ := F
  refine ⟨f, fd, F.ok S len (fun cdv A outer s H vs Q E hr h => ?_), hm, F.kp, hb, hk⟩
  obtain ⟨t, h1, h2⟩ := hbody f cdv A outer s H vs Q E hr h
  exact ⟨t, h1.nox, h2⟩
section
variable {X : Cx} {k j n : Nat} {x : Str} {ps : List Str} {sp : Sp} {p pos : Pos} {e : Expr} {es : List Expr} {kws : List Keyword} {t tk : TA} {v0 : V}
theorem pe_callS0 (D : DefOkS X.prog X.w X.K X.mg X.base k x ps n v0 sp) (hr : Room j X.A) (hkj : k ≤ j) (hg : Gl X x) (ha : PA X (e :: es) t) (hdb : (x == ("__debug__" : Str)) = false := by decide)
    (he : starEach (e :: es) X.env = (false, eval e X.env) :: starEach es X.env := by rfl) (hpl : (backTo pos (starEach es X.env)).any (·.1) = false := by rfl) :
    PE X (.Call (.Name x p) (e :: es) [] pos) (tCall sp [v0] E0 t) := by
  obtain ⟨f, fd, F, hm, hk, ⟨ds, hd, hb⟩, _⟩ := D
  exact pe_call F (hr.mono hkj) hg hm hk hb hd pass0 ha hdb he hpl
theorem pe_callS1 (D : DefOkS X.prog X.w X.K X.mg X.base k x ps n v0 sp) (hr : Room j X.A) (hkj : k ≤ j) (hg : Gl X x) (ha : PA X (e :: es) t) (hkw : PK X kws tk) (hall : (backToKw pos (keywordEach kws X.env)).all (·.1.isSome) = true := by rfl) (hks : (backToKw pos (keywordEach kws X.env)).filterMap (·.1) = (["side"] : List Str) := by rfl)
    (hdb : (x == ("__debug__" : Str)) = false := by decide) (he : starEach (e :: es) X.env = (false, eval e X.env) :: starEach es X.env := by rfl)
    (hpl : ((backTo pos (starEach (e :: es) X.env)).any (·.1) || (backToKw pos (keywordEach kws X.env)).any (·.1.isNone)) = false := by rfl) :
    PE X (.Call (.Name x p) (e :: es) kws pos) (tCallN n 1 sp (fun vs zs => vs ++ zs) E0 t tk) := by
  obtain ⟨f, fd, F, hm, hk, _, hb⟩ := D
  exact pe_callN F (hr.mono hkj) hg hm hk hb pass0 ha hkw hall hks hdb he hpl
end
theorem defAtS_mk {K : PySem.W.Frag} {mg : Str → Option Value} {h : Heap} {x : Str} {st : Stmt} {ps : List Str} {n : Nat} {z : Str} (X : K.In h) (G : h.Ns mainGlobals mg) {f D : Addr} {oc : Value} {od an : Option Addr} {osl : Array (Option Value)} {doc pm cdv ct : Value} {tz : Tok}
    (a : PySem.W.nsIn K mainGlobals x = some (some (.ref f))) (l : K.lookup f = some ⟨oc, od, .func (PySem.W.fnOf x x (defArgs st) (defBody st) (defScope st) .none (.ref D) doc pm an cdv ct), osl⟩) (c : PySem.W.codeIn K cdv x = true) (k : PySem.W.keepIn K (.ref f) = true)
    (d : PySem.W.nsIn K D "side" = some (some (.str z tz))) (hn : n + 1 = ps.length)
    (h0 : ∀ (D : Addr) (doc pm : Value) (an : Option Addr) (cdv ct : Value) (us ks : List Value), us.length = n → ks.length = 1 → KwChain D ((["side"] : List Str).zip ks) (bindArgs (PySem.W.fnOf x x (defArgs st) (defBody st) (defScope st) .none (.ref D) doc pm an cdv ct) ⟨us, []⟩) (ps.zip (us ++ ks)))
    (h1 : ∀ (D : Addr) (doc pm : Value) (an : Option Addr) (cdv ct : Value) (us ws : List Value), us.length = n → ws.length = 1 → bindArgs (PySem.W.fnOf x x (defArgs st) (defBody st) (defScope st) .none (.ref D) doc pm an cdv ct) ⟨us, (["side"] : List Str).zip ws⟩ = pure (ps.zip (us ++ ws))) : DefAtS K mg x st ps n (.str z) := by
  have F : FunD K x x (defArgs st) (defBody st) (defScope st) [] [("side", .str z)] f (PySem.W.fnOf x x (defArgs st) (defBody st) (defScope st) .none (.ref D) doc pm an cdv ct) :=
    ⟨⟨oc, od, .none, .ref D, doc, pm, an, cdv, ct, osl, rfl, l, c, .inl ⟨rfl, rfl⟩, .inr ⟨D, rfl, fun q hq => by
      rcases List.mem_cons.mp hq with rfl | hq
      · exact ⟨_, d, ⟨_, rfl⟩⟩
      · cases hq⟩⟩, k⟩
  refine ⟨f, _, F, PySem.W.mg_of X G a, ?_, ?_⟩
  · exact F.binds0 n (by simp) hn h0
  · obtain ⟨mv, hk⟩ := F.kbinds0 (ps := ps) n ["side"] [] (fun us _ ws => us ++ ws) (by simp) (by simp) (fun r1 _ r3 => r1.append r3) (fun D doc pm an cdv ct us mv ws l1 _ l3 => h1 D doc pm an cdv ct us ws l1 l3)
    exact ⟨mv, hk⟩
/-! ### weights and sides -/
structure WOk (ws : List Int) : Prop where
  l0 : 1 ≤ ws.length
  l1 : ws.length ≤ 12
  w : ∀ x ∈ ws, 1 ≤ x ∧ x ≤ 400000
def sd (d : Bool) : Str := if d then "down" else "across"
theorem sum_le : ∀ {ws : List Int}, (∀ x ∈ ws, 1 ≤ x ∧ x ≤ 400000) → (ws.length : Int) ≤ ws.sum ∧ ws.sum ≤ 400000 * ws.length
  | [], _ => by simp
  | x :: r, h => by
    have h1 := h x List.mem_cons_self
    have h2 := sum_le fun y hy => h y (List.mem_cons_of_mem _ hy)
    rw [List.sum_cons, List.length_cons]
    omega
theorem WOk.sum {ws : List Int} (h : WOk ws) : 0 < ws.sum ∧ ws.sum ≤ 4800000 := by
  have h1 := sum_le h.w
  have h2 := h.l0
  have h3 := h.l1
  omega
theorem WOk.take {ws : List Int} (h : WOk ws) (i : Nat) : 0 ≤ (ws.take i).sum ∧ (ws.take i).sum ≤ 4800000 := by
  have h1 := sum_le (ws := ws.take i) fun x hx => h.w x (List.mem_of_mem_take hx)
  have h2 : (ws.take i).length ≤ 12 := by
    have := h.l1
    rw [List.length_take]
    omega
  omega
def slab (b : Bx) (ahead share : Rat) (d : Bool) : Bx := if d then ⟨b.l, b.t + b.h * ahead, b.w, b.h * share⟩ else ⟨b.l + b.w * ahead, b.t, b.w * share, b.h⟩
/-- the i-th box of a split -/
def cutAt (b : Bx) (ws : List Int) (d : Bool) (i : Nat) : Bx := slab b (Rat.divInt (ws.take i).sum ws.sum) (Rat.divInt (ws.getD i 0) ws.sum) d
def cutM (b : Bx) (ws : List Int) (d : Bool) : List Bx := (List.range ws.length).map (cutAt b ws d)
theorem sz23 {i : Int} (h : -4800000 ≤ i ∧ i ≤ 4800000) : i.natAbs < 2 ^ 23 := by omega
theorem sz_share {a c : Int} (h : 0 ≤ a ∧ a ≤ 4800000) (hc : 0 < c ∧ c ≤ 4800000) : Sz 23 (Rat.divInt a c) := size_divInt (by omega) (sz23 (by omega)) (sz23 (by omega))
/-- boxes that stand in a list -/
inductive Bxs (K : PySem.W.Frag) (H : Hp) : List V → List Bx → Prop
  | nil : Bxs K H [] []
  | cons {v : V} {vs : List V} {b : Bx} {bs : List Bx} : BxV K H v b → Bxs K H vs bs → Bxs K H (v :: vs) (b :: bs)
theorem Bxs.same {K : PySem.W.Frag} {H H' : Hp} (e : Same H H') : ∀ {vs : List V} {bs : List Bx}, Bxs K H vs bs → Bxs K H' vs bs
  | _, _, .nil => .nil
  | _, _, .cons h r => .cons (h.same e) (r.same e)
theorem Bxs.snoc {K : PySem.W.Frag} {H : Hp} {v : V} {b : Bx} (hv : BxV K H v b) : ∀ {vs : List V} {bs : List Bx}, Bxs K H vs bs → Bxs K H (vs ++ [v]) (bs ++ [b])
  | _, _, .nil => .cons hv .nil
  | _, _, .cons h r => .cons h (r.snoc hv)
theorem Bxs.dp {K : PySem.W.Frag} {H : Hp} : ∀ {vs : List V} {bs : List Bx}, Bxs K H vs bs → DpAll K H vs (bs.map dBox)
  | _, _, .nil => .nil
  | _, _, .cons h r => .cons h.dp r.dp
theorem Bxs.len {K : PySem.W.Frag} {H : Hp} : ∀ {vs : List V} {bs : List Bx}, Bxs K H vs bs → vs.length = bs.length
  | _, _, .nil => rfl
  | _, _, .cons _ r => by rw [List.length_cons, List.length_cons, r.len]
@[irreducible] def spCheckW (K : PySem.W.Frag) : Sp := fun vs H Q _ => ∃ (a : Addr) (ws : List Int), vs = [.ref a] ∧ IntsV K H a ws ∧ WOk ws ∧ ∀ r H', Same H H' → r = V.non → Q r H'
@[irreducible] def spCheckS : Sp := fun vs H Q _ => ∃ d : Bool, vs = [.str (sd d)] ∧ ∀ r H', Same H H' → r = V.non → Q r H'
@[irreducible] def spSlab (K : PySem.W.Frag) : Sp := fun vs H Q _ => ∃ (v1 v2 v3 : V) (b : Bx) (x y : Rat) (d : Bool), vs = [v1, v2, v3, .str (sd d)] ∧ BxV K H v1 b ∧ b.Ok 1500 ∧ PtV K H v2 x ∧ PtV K H v3 y ∧ Sz 23 x ∧ Sz 23 y ∧ ∀ v H', Same H H' → BxV K H' v (slab b x y d) → Q v H'
@[irreducible] def spSplit (K : PySem.W.Frag) : Sp := fun vs H Q _ => ∃ (v : V) (a : Addr) (b : Bx) (ws : List Int) (d : Bool), vs = [v, .ref a, .str (sd d)] ∧ BxV K H v b ∧ b.Ok 1500 ∧ IntsV K H a ws ∧ WOk ws ∧ ∀ L us H', H L = none → Same H H' → H' L = some (.lst us) → Bxs K H' us (cutM b ws d) → Q (.ref L) H'
/-! ### steps -/
section
variable {K : PySem.W.Frag} {H H' : Hp} {a : Addr} {ws : List Int}
theorem IntsV.same (h : IntsV K H a ws) (e : Same H H') : IntsV K H' a ws := by
  rcases h with h | h
  · exact .inl (seqL_same e h)
  · exact .inr (seqT_same e h)
theorem dp_ints (K : PySem.W.Frag) (H : Hp) : ∀ ws : List Int, DpAll K H (ws.map V.int) (ws.map PyData.int)
  | [] => .nil
  | x :: r => .cons (.int x) (dp_ints K H r)
/-- isinstance(weights, (list, tuple)) -/
theorem IntsV.isi {tp : Addr} {Q : VK} {vs : List V} (h : IntsV K H a ws) (hT : H tp = some (.tup [.ty "list", .ty "tuple"])) (q : Q (.bl true) H) (hvs : vs = [.ref a, .ref tp] := by rfl) : rIsiTI K vs H Q := by
  rcases h with h | h
  · exact isiT_step (t := "list") (n := "list") (m := "tuple") (b := true) (c := false) (.lst h (dp_ints K H ws)) rfl hT (by decide +kernel) (by decide +kernel) q hvs
  · exact isiT_step (t := "tuple") (n := "list") (m := "tuple") (b := false) (c := true) (.tup h (dp_ints K H ws)) rfl hT (by decide +kernel) (by decide +kernel) q hvs
variable {Q : VK} {E : XK} {vs : List V}
theorem checkw_step (h : IntsV K H a ws) (hw : WOk ws) (q : ∀ H', Same H H' → Q .non H') (hvs : vs = [.ref a] := by rfl) : spCheckW K vs H Q E := by
  unfold spCheckW
  exact ⟨a, ws, hvs, h, hw, fun r H' s e => by rw [e]; exact q H' s⟩
theorem checks_step {d : Bool} (q : ∀ H', Same H H' → Q .non H') (hvs : vs = [.str (sd d)] := by rfl) : spCheckS vs H Q E := by
  unfold spCheckS
  exact ⟨d, hvs, fun r H' s e => by rw [e]; exact q H' s⟩
theorem slab_step {v1 v2 v3 : V} {b : Bx} {x y : Rat} {d : Bool} (h1 : BxV K H v1 b) (hb : b.Ok 1500) (h2 : PtV K H v2 x) (h3 : PtV K H v3 y) (z2 : Sz 23 x) (z3 : Sz 23 y) (q : ∀ v H', Same H H' → BxV K H' v (slab b x y d) → Q v H') (hvs : vs = [v1, v2, v3, .str (sd d)] := by rfl) : spSlab K vs H Q E := by
  unfold spSlab
  exact ⟨v1, v2, v3, b, x, y, d, hvs, h1, hb, h2, h3, z2, z3, q⟩
theorem split_step {v : V} {b : Bx} {d : Bool} {n : Nat} (hv : BxV K H v b) (hb : b.Ok n) (hn : n ≤ 1500) (h : IntsV K H a ws) (hw : WOk ws) (q : ∀ L us H', H L = none → Same H H' → H' L = some (.lst us) → Bxs K H' us (cutM b ws d) → Q (.ref L) H') (hvs : vs = [v, .ref a, .str (sd d)] := by rfl) : spSplit K vs H Q E := by
  unfold spSplit
  exact ⟨v, a, b, ws, d, hvs, hv, hb.mono hn, h, hw, q⟩
theorem sd_eq (d : Bool) : decide (V.str (sd d) = V.str "down") = d := by
  cases d <;> decide +kernel
theorem cutM_succ {b : Bx} {ws : List Int} {d : Bool} {i : Nat} (hi : i < ws.length) : (cutM b ws d).take (i + 1) = (cutM b ws d).take i ++ [cutAt b ws d i] := by
  have h : (cutM b ws d)[i]? = some (cutAt b ws d i) := by
    unfold cutM
    rw [List.getElem?_map, List.getElem?_range hi]
    rfl
  rw [List.take_add_one, h]
  rfl
theorem cutM_len (b : Bx) (ws : List Int) (d : Bool) : (cutM b ws d).length = ws.length := by
  unfold cutM
  rw [List.length_map, List.length_range]
theorem take_sum {ws : List Int} {i : Nat} (hi : i < ws.length) : (ws.take (i + 1)).sum = (ws.take i).sum + ws.getD i 0 := by
  rw [List.take_add_one, List.getElem?_eq_getElem hi, List.sum_append, List.getD_eq_getElem?_getD, List.getElem?_eq_getElem hi]
  simp
end
section
variable {K : PySem.W.Frag} {H H' : Hp} {c : Addr} {ys : List V}
theorem BxV.kp {v : V} {b : Bx} (x : BxV K H v b) (e : Kp c H H') (h : H c = some (.lst ys)) : BxV K H' v b := by
  obtain ⟨a, v1, v2, v3, v4, rfl, x⟩ := x
  exact ⟨a, v1, v2, v3, v4, rfl, seqT_kp e h x.1, x.2.1.kp e h, x.2.2.1.kp e h, x.2.2.2.1.kp e h, x.2.2.2.2.kp e h⟩
theorem Bxs.kp (e : Kp c H H') (h : H c = some (.lst ys)) : ∀ {vs : List V} {bs : List Bx}, Bxs K H vs bs → Bxs K H' vs bs
  | _, _, .nil => .nil
  | _, _, .cons x r => .cons (x.kp e h) (r.kp e h)
theorem same_write {H3 G : Hp} {o : HO} (nF : H3 c = none) (s : Same H3 G) : Same H3 (upd G c o) := fun b u e => by
  rw [upd_ne (ne_of_none e nF)]
  exact s b u e
end
/-- a short list of ints may be written, were it the cells' own -/
theorem Bag.write {H : Hp} {c D : Addr} {zs : List Int} (hB : Bag H c) (hDc : D ≠ c) (hz : zs.length ≤ 63) : Bag (upd H D (.lst (zs.map V.int))) c := by
  obtain ⟨a, ns, p, r, x, q, h1, h2, h3, h4, h5, h6, h7⟩ := hB
  by_cases e : a = D
  · subst e
    exact ⟨a, zs, p, r, x, q, by rw [upd_ne hDc.symm]; exact h1, upd_same, h3, hz, h5, h6, h7⟩
  · exact ⟨a, ns, p, r, x, q, by rw [upd_ne hDc.symm]; exact h1, by rw [upd_ne e]; exact h2, h3, h4, h5, h6, h7⟩
@[irreducible] def spWeight : Sp := fun vs H Q _ => ∃ (c : Addr) (k : Int), vs = [.ref c, .int k] ∧ Bag H c ∧ ∀ r H', 1 ≤ r → r ≤ 400000 → Bag H' c → Kp c H H' → Q (.int r) H'
@[irreducible] def spWeights (K : PySem.W.Frag) : Sp := fun vs H Q _ => ∃ (c : Addr) (m : Int), vs = [.ref c, .int m] ∧ Bag H c ∧ 1 ≤ m ∧ m ≤ 12 ∧ ∀ L ws H', H L = none → H' L = some (.lst (ws.map V.int)) → WOk ws → Bag H' c → Kp c H H' → Q (.ref L) H'
@[irreducible] def spLean : Sp := fun vs H Q _ => ∃ c : Addr, vs = [.ref c] ∧ Bag H c ∧ ∀ d H', Bag H' c → Kp c H H' → Q (.str (sd d)) H'
theorem weight_step {H : Hp} {Q : VK} {E : XK} {vs : List V} {c : Addr} {k : Int} (hb : Bag H c) (q : ∀ r H', 1 ≤ r → r ≤ 400000 → Bag H' c → Kp c H H' → Q (.int r) H') (hvs : vs = [.ref c, .int k] := by rfl) : spWeight vs H Q E := by
  unfold spWeight
  exact ⟨c, k, hvs, hb, q⟩
theorem weights_step {K : PySem.W.Frag} {H : Hp} {Q : VK} {E : XK} {vs : List V} {c : Addr} {m : Int} (hb : Bag H c) (h0 : 1 ≤ m) (h1 : m ≤ 12) (q : ∀ L ws H', H L = none → H' L = some (.lst (ws.map V.int)) → WOk ws → Bag H' c → Kp c H H' → Q (.ref L) H') (hvs : vs = [.ref c, .int m] := by rfl) : spWeights K vs H Q E := by
  unfold spWeights
  exact ⟨c, m, hvs, hb, h0, h1, q⟩
theorem lean_step {H : Hp} {Q : VK} {E : XK} {vs : List V} {c : Addr} (hb : Bag H c) (q : ∀ d H', Bag H' c → Kp c H H' → Q (.str (sd d)) H') (hvs : vs = [.ref c] := by rfl) : spLean vs H Q E := by
  unfold spLean
  exact ⟨c, hvs, hb, q⟩
/-- constants of the module -/
theorem glob_int {K : PySem.W.Frag} {mg : Str → Option Value} {h : Heap} {x : Str} {i : Int} {t : Tok} (X : K.In h) (G : h.Ns mainGlobals mg) (e : PySem.W.nsIn K mainGlobals x = some (some (.int i t))) : ∃ t, mg x = some (.int i t) := ⟨t, PySem.W.mg_of X G e⟩
theorem glob_str {K : PySem.W.Frag} {mg : Str → Option Value} {h : Heap} {x z : Str} {t : Tok} (X : K.In h) (G : h.Ns mainGlobals mg) (e : PySem.W.nsIn K mainGlobals x = some (some (.str z t))) : ∃ t, mg x = some (.str z t) := ⟨t, PySem.W.mg_of X G e⟩
-- glob_val
theorem num_gt {q : Rat} (h : 0 < q) : 0 < q.num := by
  have e := (Rat.lt_iff 0 q).mp h
  have e1 : (0 : Rat).num = 0 := rfl
  have e2 : (0 : Rat).den = 1 := rfl
  rw [e1, e2] at e
  omega
/-- a pair of ints, not in lowest terms -/
def PrV (K : PySem.W.Frag) (H : Hp) (v : V) (q : Rat) : Prop := ∃ p a c, v = .ref p ∧ SqT K H p [.int a, .int c] ∧ 0 < c ∧ a.natAbs < 2 ^ 100 ∧ c.natAbs < 2 ^ 100 ∧ q = Rat.divInt a c
@[irreducible] def spTimesR (K : PySem.W.Frag) : Sp := fun vs H Q _ => ∃ (v w : V) (x y : Rat), vs = [v, w] ∧ PtV K H v x ∧ Sz 2000 x ∧ PrV K H w y ∧ ∀ u H', Same H H' → PtV K H' u (x * y) → Q u H'
theorem timesr_step {K : PySem.W.Frag} {H : Hp} {Q : VK} {E : XK} {vs : List V} {v w : V} {x y : Rat} {n : Nat} (hv : PtV K H v x) (zx : Sz n x) (hn : n ≤ 2000) (hw : PrV K H w y) (q : ∀ u H', Same H H' → PtV K H' u (x * y) → Q u H') (hvs : vs = [v, w] := by rfl) : spTimesR K vs H Q E := by
  unfold spTimesR
  exact ⟨v, w, x, y, hvs, hv, zx.mono hn, hw, q⟩
theorem PrV.bag {K : PySem.W.Frag} {H H' : Hp} {c : Addr} {v : V} {q : Rat} (x : PrV K H v q) (e : Kp c H H') (hb : Bag H c) : PrV K H' v q := by
  obtain ⟨ys, hy⟩ := hb.lst
  obtain ⟨p, a, c, rfl, h, r⟩ := x
  exact ⟨p, a, c, rfl, seqT_kp e hy h, r⟩
theorem PrV.same {K : PySem.W.Frag} {H H' : Hp} {v : V} {q : Rat} (x : PrV K H v q) (e : Same H H') : PrV K H' v q := by
  obtain ⟨p, a, c, rfl, h, r⟩ := x
  exact ⟨p, a, c, rfl, seqT_same e h, r⟩
theorem bxs_get {K : PySem.W.Frag} {H : Hp} : ∀ {vs : List V} {bs : List Bx}, Bxs K H vs bs → ∀ {i : Nat} {v : V}, vs[i]? = some v → ∃ b, bs[i]? = some b ∧ BxV K H v b
  | _, _, .nil, i, v, e => by simp at e
  | _, _, .cons (b := b) h r, 0, v, e => by
    cases e
    exact ⟨b, rfl, h⟩
  | _, _, .cons h r, i + 1, v, e => by
    rw [List.getElem?_cons_succ] at e
    obtain ⟨b, h1, h2⟩ := bxs_get r e
    exact ⟨b, by rw [List.getElem?_cons_succ]; exact h1, h2⟩
theorem cutM_get {b : Bx} {ws : List Int} {d : Bool} {i : Nat} {x : Bx} (h : (cutM b ws d)[i]? = some x) : i < ws.length ∧ x = cutAt b ws d i := by
  unfold cutM at h
  rw [List.getElem?_map] at h
  obtain ⟨j, h1, h2⟩ := Option.map_eq_some_iff.mp h
  have hj : i < (List.range ws.length).length := (List.getElem?_eq_some_iff.mp h1).1
  rw [List.length_range] at hj
  rw [List.getElem?_range hj] at h1
  cases h1
  exact ⟨hj, h2.symm⟩
/-! ### the parts of the whole -/
def pre (ws : List Int) (i : Nat) : Rat := Rat.divInt (ws.take i).sum ws.sum
def shr (ws : List Int) (i : Nat) : Rat := Rat.divInt (ws.getD i 0) ws.sum
theorem getD_ok {ws : List Int} (h : WOk ws) {i : Nat} (hi : i < ws.length) : 1 ≤ ws.getD i 0 ∧ ws.getD i 0 ≤ 400000 := by
  rw [List.getD_eq_getElem?_getD, List.getElem?_eq_getElem hi]
  exact h.w _ (List.getElem_mem hi)
theorem shr_pos {ws : List Int} (h : WOk ws) {i : Nat} (hi : i < ws.length) : 0 < shr ws i := divInt_pos (by have := getD_ok h hi; omega) h.sum.1
theorem pre_zero (ws : List Int) : pre ws 0 = 0 := by
  unfold pre
  rw [List.take_zero, List.sum_nil, Rat.zero_divInt]
theorem pre_len {ws : List Int} (h : WOk ws) : pre ws ws.length = 1 := by
  unfold pre
  rw [List.take_length, Rat.divInt_self' (by have := h.sum; omega)]
theorem dv_plus (a c T : Int) : Rat.divInt a T + Rat.divInt c T = Rat.divInt (a + c) T := by
  rw [Rat.divInt_eq_div, Rat.divInt_eq_div, Rat.divInt_eq_div, Rat.intCast_add, Rat.div_def, Rat.div_def, Rat.div_def, Rat.add_mul]
theorem pre_succ {ws : List Int} {i : Nat} (hi : i < ws.length) : pre ws (i + 1) = pre ws i + shr ws i := by
  unfold pre shr
  rw [dv_plus, take_sum hi]
theorem cutAt_eq (b : Bx) (ws : List Int) (d : Bool) (i : Nat) : cutAt b ws d i = slab b (pre ws i) (shr ws i) d := rfl
theorem shr_times {ws : List Int} (h : WOk ws) (i : Nat) : shr ws i * ((ws.sum : Int) : Rat) = ((ws.getD i 0 : Int) : Rat) := by
  unfold shr
  rw [Rat.divInt_eq_div, Rat.div_def, Rat.mul_assoc, Rat.inv_mul_cancel _ (by have := int_pos h.sum.1; grind), Rat.mul_one]
theorem slab_ok {b : Bx} {ws : List Int} {d : Bool} {i n : Nat} (hb : b.Ok n) (hW : WOk ws) (hi : i < ws.length) : (cutAt b ws d i).Ok (n + n + 24) := by
  have s0 := shr_pos hW hi
  have hg := getD_ok hW hi
  have z1 : Sz 23 (pre ws i) := sz_share (hW.take i) hW.sum
  have z2 : Sz 23 (shr ws i) := sz_share (by omega) hW.sum
  rw [cutAt_eq]
  unfold slab
  cases d with
  | true =>
    rw [if_pos rfl]
    exact ⟨hb.w0, Rat.mul_pos hb.h0 s0, hb.sl.mono (by omega), sz_add hb.st (sz_mul hb.sh z1 (Nat.le_refl _)) (by omega), hb.sw.mono (by omega), sz_mul hb.sh z2 (by omega)⟩
  | false =>
    rw [if_neg Bool.false_ne_true]
    exact ⟨Rat.mul_pos hb.w0 s0, hb.h0, sz_add hb.sl (sz_mul hb.sw z1 (Nat.le_refl _)) (by omega), hb.st.mono (by omega), sz_mul hb.sw z2 (by omega), hb.sh.mono (by omega)⟩
end Cc
namespace Cc
/-! ### one stretch of many holds a point -/
def inStretch (f : Nat → Rat) (y : Rat) (i : Nat) : Bool := !decide (y < f i) && decide (y < f (i + 1))
theorem count_none (f : Nat → Rat) (y : Rat) : ∀ n, (∀ i, i < n → f i ≤ f (i + 1)) → f n ≤ y → ((List.range n).map (inStretch f y)).count true = 0
  | 0, _, _ => rfl
  | n + 1, hm, h => by
    have h2 := hm n (Nat.lt_succ_self n)
    have ih := count_none f y n (fun i hi => hm i (Nat.lt_succ_of_lt hi)) (by grind)
    rw [List.range_succ, List.map_append, List.count_append, ih]
    have e : inStretch f y n = false := by
      unfold inStretch
      rw [decide_eq_false (show ¬ y < f (n + 1) by grind), Bool.and_false]
    rw [List.map_cons, List.map_nil, e]
    rfl
theorem count_one (f : Nat → Rat) (y : Rat) : ∀ n, (∀ i, i < n → f i ≤ f (i + 1)) → f 0 ≤ y → y < f n → ((List.range n).map (inStretch f y)).count true = 1
  | 0, _, h0, h1 => by grind
  | n + 1, hm, h0, h1 => by
    rw [List.range_succ, List.map_append, List.count_append, List.map_cons, List.map_nil]
    by_cases h : y < f n
    · have ih := count_one f y n (fun i hi => hm i (Nat.lt_succ_of_lt hi)) h0 h
      have e : inStretch f y n = false := by
        unfold inStretch
        rw [decide_eq_true h]
        rfl
      rw [ih, e]
      rfl
    · have ih := count_none f y n (fun i hi => hm i (Nat.lt_succ_of_lt hi)) (by grind)
      have e : inStretch f y n = true := by
        unfold inStretch
        rw [decide_eq_false h, decide_eq_true h1]
        rfl
      rw [ih, e]
      rfl
end Cc
namespace Cc
open PySem PySem.Spec PyProof.Rows L2
/-! ### weights of rows -/
theorem sum_nn : ∀ {ws : List Int}, (∀ x ∈ ws, 1 ≤ x) → (ws.length : Int) ≤ ws.sum
  | [], _ => by simp
  | x :: r, h => by
    have h1 := h x List.mem_cons_self
    have h2 := sum_nn fun y hy => h y (List.mem_cons_of_mem _ hy)
    rw [List.sum_cons, List.length_cons]
    omega
theorem mem_le_sum : ∀ {ws : List Int}, (∀ x ∈ ws, 1 ≤ x) → ∀ x ∈ ws, x ≤ ws.sum
  | [], _, x, hx => by cases hx
  | y :: r, h, x, hx => by
    have h2 := sum_nn (ws := r) fun z hz => h z (List.mem_cons_of_mem _ hz)
    have h3 := h y List.mem_cons_self
    rw [List.sum_cons]
    rcases List.mem_cons.mp hx with rfl | hx
    · omega
    · have := mem_le_sum (fun z hz => h z (List.mem_cons_of_mem _ hz)) x hx
      omega
structure WGk (ws : List Int) : Prop where
  l0 : 1 ≤ ws.length
  l1 : ws.length ≤ 12
  w : ∀ x ∈ ws, 1 ≤ x
  s : ws.sum ≤ 4800000
theorem WOk.g {ws : List Int} (h : WOk ws) : WGk ws := ⟨h.l0, h.l1, fun x hx => (h.w x hx).1, h.sum.2⟩
theorem WGk.sum {ws : List Int} (h : WGk ws) : 0 < ws.sum ∧ ws.sum ≤ 4800000 := by
  have h1 := sum_nn h.w
  have h2 := h.l0
  have h3 := h.s
  omega
theorem WGk.take {ws : List Int} (h : WGk ws) (i : Nat) : 0 ≤ (ws.take i).sum ∧ (ws.take i).sum ≤ 4800000 := by
  have h1 := sum_nn (ws := ws.take i) fun x hx => h.w x (List.mem_of_mem_take hx)
  have h2 := sum_nn (ws := ws.drop i) fun x hx => h.w x (List.mem_of_mem_drop hx)
  have h3 : ws.sum = (ws.take i).sum + (ws.drop i).sum := by rw [← List.sum_append, List.take_append_drop]
  have h4 := h.s
  omega
theorem WGk.mem {ws : List Int} (h : WGk ws) {x : Int} (hx : x ∈ ws) : 1 ≤ x ∧ x ≤ 4800000 := by
  have h1 := h.w x hx
  have h2 := mem_le_sum h.w x hx
  have h3 := h.s
  omega
theorem WGk.getD {ws : List Int} (h : WGk ws) {i : Nat} (hi : i < ws.length) : 1 ≤ ws.getD i 0 ∧ ws.getD i 0 ≤ 4800000 := by
  rw [List.getD_eq_getElem?_getD, List.getElem?_eq_getElem hi]
  exact h.mem (List.getElem_mem hi)
theorem WGk.shr {ws : List Int} (h : WGk ws) {i : Nat} (hi : i < ws.length) : 0 < shr ws i := divInt_pos (by have := h.getD hi; omega) h.sum.1
theorem slab_okG {b : Bx} {ws : List Int} {d : Bool} {i n : Nat} (hb : b.Ok n) (hW : WGk ws) (hi : i < ws.length) : (cutAt b ws d i).Ok (n + n + 24) := by
  have s0 := hW.shr hi
  have hg := hW.getD hi
  have z1 : Sz 23 (pre ws i) := sz_share (hW.take i) hW.sum
  have z2 : Sz 23 (shr ws i) := sz_share (by omega) hW.sum
  rw [cutAt_eq]
  unfold slab
  cases d with
  | true =>
    rw [if_pos rfl]
    exact ⟨hb.w0, Rat.mul_pos hb.h0 s0, hb.sl.mono (by omega), sz_add hb.st (sz_mul hb.sh z1 (Nat.le_refl _)) (by omega), hb.sw.mono (by omega), sz_mul hb.sh z2 (by omega)⟩
  | false =>
    rw [if_neg Bool.false_ne_true]
    exact ⟨Rat.mul_pos hb.w0 s0, hb.h0, sz_add hb.sl (sz_mul hb.sw z1 (Nat.le_refl _)) (by omega), hb.st.mono (by omega), sz_mul hb.sw z2 (by omega), hb.sh.mono (by omega)⟩
@[irreducible] def spShares (K : PySem.W.Frag) : Sp := fun vs H Q _ => ∃ (v : V) (a : Addr) (b : Bx) (ws : List Int) (d : Bool), vs = [v, .ref a, .str (sd d)] ∧ BxV K H v b ∧ b.Ok 1500 ∧ IntsV K H a ws ∧ WGk ws ∧ ∀ L us H', H L = none → Same H H' → H' L = some (.lst us) → Bxs K H' us (cutM b ws d) → Q (.ref L) H'
@[irreducible] def spCheckSp (K : PySem.W.Frag) : Sp := fun vs H Q _ => ∃ (v : V) (a : Addr) (b : Bx) (ws : List Int) (d : Bool), vs = [v, .ref a, .str (sd d)] ∧ BxV K H v b ∧ b.Ok 1900 ∧ IntsV K H a ws ∧ WOk ws ∧ ∀ r H', Same H H' → r = V.non → Q r H'
def isSd : PyData → Bool
  | .str x => decide (x = sd true) || decide (x = sd false)
  | _ => false
theorem isSd_sd (d : Bool) : isSd (.str (sd d)) = true := by cases d <;> decide +kernel
theorem isSd_str {s : PyData} (h : isSd s = true) : ∃ d, s = .str (sd d) := by
  cases s with
  | str x =>
    have h : (decide (x = sd true) || decide (x = sd false)) = true := h
    rw [Bool.or_eq_true, decide_eq_true_eq, decide_eq_true_eq] at h
    rcases h with h | h
    · exact ⟨true, by rw [h]⟩
    · exact ⟨false, by rw [h]⟩
  | none => exact Bool.noConfusion h
  | bool _ => exact Bool.noConfusion h
  | int _ => exact Bool.noConfusion h
  | list _ => exact Bool.noConfusion h
  | tuple _ => exact Bool.noConfusion h
  | dict _ => exact Bool.noConfusion h
@[irreducible] def spIsSide (K : PySem.W.Frag) : Sp := fun vs H Q _ => ∃ (v : V) (d : PyData), vs = [v] ∧ Dp K H v d ∧ ∀ r H', Same H H' → r = V.bl (isSd d) → Q r H'
section
variable {K : PySem.W.Frag} {H H' : Hp} {a : Addr} {ws : List Int} {Q : VK} {E : XK} {vs : List V}
theorem shares_step {v : V} {b : Bx} {d : Bool} {n : Nat} (hv : BxV K H v b) (hb : b.Ok n) (hn : n ≤ 1500) (h : IntsV K H a ws) (hw : WGk ws) (q : ∀ L us H', H L = none → Same H H' → H' L = some (.lst us) → Bxs K H' us (cutM b ws d) → Q (.ref L) H') (hvs : vs = [v, .ref a, .str (sd d)] := by rfl) : spShares K vs H Q E := by
  unfold spShares
  exact ⟨v, a, b, ws, d, hvs, hv, hb.mono hn, h, hw, q⟩
theorem checksp_step {v : V} {b : Bx} {d : Bool} {n : Nat} (hv : BxV K H v b) (hb : b.Ok n) (hn : n ≤ 1900) (h : IntsV K H a ws) (hw : WOk ws) (q : ∀ H', Same H H' → Q .non H') (hvs : vs = [v, .ref a, .str (sd d)] := by rfl) : spCheckSp K vs H Q E := by
  unfold spCheckSp
  exact ⟨v, a, b, ws, d, hvs, hv, hb.mono hn, h, hw, fun r H' s e => by rw [e]; exact q H' s⟩
theorem issideD_step {v : V} {d : PyData} (hv : Dp K H v d) (q : ∀ H', Same H H' → Q (.bl (isSd d)) H') (hvs : vs = [v] := by rfl) : spIsSide K vs H Q E := by
  unfold spIsSide
  exact ⟨v, d, hvs, hv, fun r H' s e => by rw [e]; exact q H' s⟩
theorem isside_step {d : Bool} (q : ∀ H', Same H H' → Q (.bl true) H') (hvs : vs = [.str (sd d)] := by rfl) : spIsSide K vs H Q E :=
  issideD_step (.str (sd d)) (fun H' s => by rw [isSd_sd]; exact q H' s) hvs
end
/-! ### rows of things that stand in a list -/
inductive Al {α : Type} (R : V → α → Prop) : List V → List α → Prop
  | nil : Al R [] []
  | cons {v : V} {vs : List V} {x : α} {xs : List α} : R v x → Al R vs xs → Al R (v :: vs) (x :: xs)
section
variable {α : Type} {R R' : V → α → Prop}
theorem Al.mono (h : ∀ v x, R v x → R' v x) : ∀ {vs : List V} {xs : List α}, Al R vs xs → Al R' vs xs
  | _, _, .nil => .nil
  | _, _, .cons a r => .cons (h _ _ a) (r.mono h)
theorem Al.snoc {v : V} {x : α} (hv : R v x) : ∀ {vs : List V} {xs : List α}, Al R vs xs → Al R (vs ++ [v]) (xs ++ [x])
  | _, _, .nil => .cons hv .nil
  | _, _, .cons a r => .cons a (r.snoc hv)
theorem Al.len : ∀ {vs : List V} {xs : List α}, Al R vs xs → vs.length = xs.length
  | _, _, .nil => rfl
  | _, _, .cons _ r => by rw [List.length_cons, List.length_cons, r.len]
theorem Al.get : ∀ {vs : List V} {xs : List α}, Al R vs xs → ∀ {i : Nat} {v : V}, vs[i]? = some v → ∃ x, xs[i]? = some x ∧ R v x
  | _, _, .nil, i, v, e => by simp at e
  | _, _, .cons (x := x) h r, 0, v, e => by
    cases e
    exact ⟨x, rfl, h⟩
  | _, _, .cons h r, i + 1, v, e => by
    rw [List.getElem?_cons_succ] at e
    obtain ⟨x, h1, h2⟩ := r.get e
    exact ⟨x, by rw [List.getElem?_cons_succ]; exact h1, h2⟩
end
theorem Bxs.append {K : PySem.W.Frag} {H : Hp} {us : List V} {cs : List Bx} (h : Bxs K H us cs) : ∀ {vs : List V} {bs : List Bx}, Bxs K H vs bs → Bxs K H (vs ++ us) (bs ++ cs)
  | _, _, .nil => h
  | _, _, .cons a r => .cons a (Bxs.append h r)
/-- a row: ints in a list or a tuple -/
def RwV (K : PySem.W.Frag) (H : Hp) (v : V) (row : List Int) : Prop := ∃ a, v = .ref a ∧ IntsV K H a row
theorem RwV.same {K : PySem.W.Frag} {H H' : Hp} (e : Same H H') {v : V} {row : List Int} (h : RwV K H v row) : RwV K H' v row := by
  obtain ⟨a, rfl, h⟩ := h
  exact ⟨a, rfl, h.same e⟩
theorem intsv_kp {K : PySem.W.Frag} {H H' : Hp} {c a : Addr} {ys : List V} {ws : List Int} (e : Kp c H H') (h : H c = some (.lst ys)) (hne : a ≠ c) (x : IntsV K H a ws) : IntsV K H' a ws := by
  rcases x with x | x
  · refine .inl ?_
    rcases x with (x | ⟨o, x⟩) | x
    · exact .inl (.inl (e _ _ x hne))
    · exact .inl (.inr ⟨o, e _ _ x hne⟩)
    · exact .inr x
  · exact .inr (seqT_kp e h x)
/-- a row that isn't the list at R -/
def RwN (K : PySem.W.Frag) (R : Addr) (H : Hp) (v : V) (row : List Int) : Prop := ∃ a, v = .ref a ∧ ((SqL K H a (row.map V.int) ∧ a ≠ R) ∨ SqT K H a (row.map V.int))
theorem RwN.same {K : PySem.W.Frag} {R : Addr} {H H' : Hp} (e : Same H H') {v : V} {row : List Int} (h : RwN K R H v row) : RwN K R H' v row := by
  obtain ⟨a, rfl, h⟩ := h
  exact ⟨a, rfl, h.imp (fun h => ⟨seqL_same e h.1, h.2⟩) (fun h => seqT_same e h)⟩
theorem RwN.rw {K : PySem.W.Frag} {R : Addr} {H : Hp} {v : V} {row : List Int} (h : RwN K R H v row) : RwV K H v row := by
  obtain ⟨a, rfl, h⟩ := h
  exact ⟨a, rfl, h.imp (fun h => h.1) (fun h => h)⟩
theorem RwN.kp {K : PySem.W.Frag} {R : Addr} {H H' : Hp} {ys : List V} (e : Kp R H H') (hc : H R = some (.lst ys)) {v : V} {row : List Int} (h : RwN K R H v row) : RwN K R H' v row := by
  obtain ⟨a, rfl, h⟩ := h
  refine ⟨a, rfl, ?_⟩
  rcases h with ⟨h, n⟩ | h
  · refine .inl ⟨?_, n⟩
    rcases h with (h | ⟨o, h⟩) | h
    · exact .inl (.inl (e _ _ h n))
    · exact .inl (.inr ⟨o, e _ _ h n⟩)
    · exact .inr h
  · exact .inr (seqT_kp e hc h)
/-- a pair of ints -/
def PiV (K : PySem.W.Frag) (H : Hp) (v : V) (x : Int × Int) : Prop := ∃ a, v = .ref a ∧ SqT K H a [.int x.1, .int x.2]
theorem PiV.same {K : PySem.W.Frag} {H H' : Hp} (e : Same H H') {v : V} {x : Int × Int} (h : PiV K H v x) : PiV K H' v x := by
  obtain ⟨a, rfl, h⟩ := h
  exact ⟨a, rfl, seqT_same e h⟩
theorem PiV.kp {K : PySem.W.Frag} {H H' : Hp} {c : Addr} {ys : List V} (e : Kp c H H') (hc : H c = some (.lst ys)) {v : V} {x : Int × Int} (h : PiV K H v x) : PiV K H' v x := by
  obtain ⟨a, rfl, h⟩ := h
  exact ⟨a, rfl, seqT_kp e hc h⟩
/-! ### sizes -/
structure SOk (ss : List Int) (n : Nat) : Prop where
  w : ∀ x ∈ ss, 1 ≤ x
  s : ss.sum = (n : Int)
theorem SOk.len {ss : List Int} {n : Nat} (h : SOk ss n) : ss.length ≤ n := by
  have h1 := sum_nn h.w
  have h2 := h.s
  omega
theorem SOk.ne {ss : List Int} {n : Nat} (h : SOk ss n) (hn : 1 ≤ n) : 1 ≤ ss.length := by
  have h2 := h.s
  cases ss with
  | nil => simp at h2; omega
  | cons x r => simp
def off (ss : List Int) (i : Nat) : Nat := (ss.take i).sum.toNat
def rowAt (ws ss : List Int) (i : Nat) : List Int := (ws.drop (off ss i)).take (ss.getD i 0).toNat
def rowsM (ws ss : List Int) : List (List Int) := (List.range ss.length).map (rowAt ws ss)
def sumsM (ws ss : List Int) : List Int := (rowsM ws ss).map List.sum
def endsM (ss : List Int) : List (Int × Int) := (List.range ss.length).map fun i => ((ss.take i).sum, (ss.take i).sum + ss.getD i 0)
theorem SOk.take {ss : List Int} {n : Nat} (h : SOk ss n) (i : Nat) : 0 ≤ (ss.take i).sum ∧ (ss.take i).sum ≤ (n : Int) := by
  have h1 := sum_nn (ws := ss.take i) fun x hx => h.w x (List.mem_of_mem_take hx)
  have h2 := sum_nn (ws := ss.drop i) fun x hx => h.w x (List.mem_of_mem_drop hx)
  have h3 : ss.sum = (ss.take i).sum + (ss.drop i).sum := by rw [← List.sum_append, List.take_append_drop]
  have h4 := h.s
  omega
theorem SOk.getD {ss : List Int} {n : Nat} (h : SOk ss n) {i : Nat} (hi : i < ss.length) : 1 ≤ ss.getD i 0 := by
  rw [List.getD_eq_getElem?_getD, List.getElem?_eq_getElem hi]
  exact h.w _ (List.getElem_mem hi)
theorem SOk.off_int {ss : List Int} {n : Nat} (h : SOk ss n) (i : Nat) : ((off ss i : Nat) : Int) = (ss.take i).sum := by
  have h1 := h.take i
  unfold off
  omega
theorem SOk.off_succ {ss : List Int} {n : Nat} (h : SOk ss n) {i : Nat} (hi : i < ss.length) : off ss (i + 1) = off ss i + (ss.getD i 0).toNat := by
  have h1 := h.take i
  have h2 := h.getD hi
  unfold off
  rw [take_sum hi]
  omega
theorem SOk.off_le {ss : List Int} {n : Nat} (h : SOk ss n) (i : Nat) : off ss i ≤ n := by
  have h1 := h.take i
  unfold off
  omega
theorem SOk.off_len {ss : List Int} {n : Nat} (h : SOk ss n) : off ss ss.length = n := by
  have h1 := h.s
  unfold off
  rw [List.take_length]
  omega
theorem SOk.size_le {ss : List Int} {n : Nat} (h : SOk ss n) {i : Nat} (hi : i < ss.length) : off ss i + (ss.getD i 0).toNat ≤ n := by
  rw [← h.off_succ hi]
  exact h.off_le _
section
variable {ws ss : List Int}
theorem row_len (h : SOk ss ws.length) {i : Nat} (hi : i < ss.length) : (rowAt ws ss i).length = (ss.getD i 0).toNat := by
  have := h.size_le hi
  unfold rowAt
  rw [List.length_take, List.length_drop]
  omega
theorem row_ok (hW : WOk ws) (h : SOk ss ws.length) {i : Nat} (hi : i < ss.length) : WOk (rowAt ws ss i) := by
  have h1 := h.size_le hi
  have h2 := h.getD hi
  have h3 := hW.l1
  refine ⟨by rw [row_len h hi]; omega, by rw [row_len h hi]; omega, fun x hx => hW.w x ?_⟩
  unfold rowAt at hx
  exact List.mem_of_mem_drop (List.mem_of_mem_take hx)
theorem row_take (h : SOk ss ws.length) {i : Nat} (hi : i < ss.length) : ws.take (off ss (i + 1)) = ws.take (off ss i) ++ rowAt ws ss i := by
  rw [h.off_succ hi, List.take_add]
  rfl
theorem sums_len : (sumsM ws ss).length = ss.length := by
  unfold sumsM rowsM
  rw [List.length_map, List.length_map, List.length_range]
theorem rows_len : (rowsM ws ss).length = ss.length := by
  unfold rowsM
  rw [List.length_map, List.length_range]
theorem rows_get {i : Nat} (hi : i < ss.length) : (rowsM ws ss)[i]? = some (rowAt ws ss i) := by
  unfold rowsM
  rw [List.getElem?_map, List.getElem?_range hi]
  rfl
theorem sums_get {i : Nat} (hi : i < ss.length) : (sumsM ws ss)[i]? = some (rowAt ws ss i).sum := by
  unfold sumsM
  rw [List.getElem?_map, rows_get hi]
  rfl
theorem sums_getD {i : Nat} (hi : i < ss.length) : (sumsM ws ss).getD i 0 = (rowAt ws ss i).sum := by
  rw [List.getD_eq_getElem?_getD, sums_get hi]
  rfl
theorem sums_take (h : SOk ss ws.length) : ∀ i, i ≤ ss.length → ((sumsM ws ss).take i).sum = (ws.take (off ss i)).sum
  | 0, _ => by simp [off]
  | i + 1, hi => by
    have ih := sums_take h i (by omega)
    rw [take_sum (by rw [sums_len]; omega), ih, sums_getD (by omega), row_take h (by omega), List.sum_append]
theorem sums_sum (h : SOk ss ws.length) : (sumsM ws ss).sum = ws.sum := by
  have e := sums_take h ss.length (Nat.le_refl _)
  rw [h.off_len, List.take_length] at e
  rw [← e, List.take_of_length_le (by rw [sums_len]; exact Nat.le_refl _)]
theorem sums_ok (hW : WOk ws) (h : SOk ss ws.length) : WGk (sumsM ws ss) := by
  have h0 := hW.l0
  have h1 := hW.l1
  refine ⟨by rw [sums_len]; exact h.ne h0, by rw [sums_len]; have := h.len; omega, fun x hx => ?_, by rw [sums_sum h]; exact hW.sum.2⟩
  obtain ⟨row, hr, rfl⟩ := List.mem_map.mp hx
  obtain ⟨i, hi, rfl⟩ := List.mem_map.mp hr
  have := (row_ok hW h (List.mem_range.mp hi)).sum
  omega
theorem cut_row (h : SOk ss ws.length) {i : Nat} (hi : i < ss.length) : cutV (ws.map V.int) (some (ss.take i).sum) (some ((ss.take i).sum + ss.getD i 0)) = (rowAt ws ss i).map V.int := by
  have h1 := h.size_le hi
  have h2 := h.getD hi
  have e1 := h.off_int i
  have e2 : (ss.take i).sum + ss.getD i 0 = ((off ss i + (ss.getD i 0).toNat : Nat) : Int) := by omega
  unfold cutV rowAt
  rw [e2, ← e1, List.length_map, HT.sIx_nat, HT.sIx_nat, Nat.min_eq_left (by omega), Nat.min_eq_left (by omega), Nat.add_sub_cancel_left, List.map_take, List.map_drop]
theorem ends_len : (endsM ss).length = ss.length := by
  unfold endsM
  rw [List.length_map, List.length_range]
theorem ends_get {i : Nat} {x : Int × Int} (h : (endsM ss)[i]? = some x) : i < ss.length ∧ x = ((ss.take i).sum, (ss.take i).sum + ss.getD i 0) := by
  have hi := (List.getElem?_eq_some_iff.mp h).1
  rw [ends_len] at hi
  unfold endsM at h
  rw [List.getElem?_map, List.getElem?_range hi] at h
  exact ⟨hi, (Option.some.inj h).symm⟩
theorem rows_get' {i : Nat} {x : List Int} (h : (rowsM ws ss)[i]? = some x) : i < ss.length ∧ x = rowAt ws ss i := by
  have hi := (List.getElem?_eq_some_iff.mp h).1
  rw [rows_len] at hi
  rw [rows_get hi] at h
  exact ⟨hi, (Option.some.inj h).symm⟩
/-- the boxes of the i-th row -/
def laidAt (b : Bx) (ws ss : List Int) (d : Bool) (i : Nat) : List Bx := cutM (cutAt b (sumsM ws ss) d i) (rowAt ws ss i) (!d)
def laidTo (b : Bx) (ws ss : List Int) (d : Bool) (i : Nat) : List Bx := ((List.range i).map (laidAt b ws ss d)).flatten
def laidM (b : Bx) (ws ss : List Int) (d : Bool) : List Bx := laidTo b ws ss d ss.length
theorem laidTo_succ (b : Bx) (ws ss : List Int) (d : Bool) (i : Nat) : laidTo b ws ss d (i + 1) = laidTo b ws ss d i ++ laidAt b ws ss d i := by
  unfold laidTo
  rw [List.range_succ, List.map_append, List.flatten_append, List.map_cons, List.map_nil, List.flatten_cons, List.flatten_nil, List.append_nil]
theorem laidTo_len (b : Bx) (d : Bool) (h : SOk ss ws.length) : ∀ i, i ≤ ss.length → (laidTo b ws ss d i).length = off ss i
  | 0, _ => by simp [off, laidTo]
  | i + 1, hi => by
    rw [laidTo_succ, List.length_append, laidTo_len b d h i (by omega), h.off_succ (by omega)]
    unfold laidAt
    rw [cutM_len, row_len h (by omega)]
theorem laidM_len (b : Bx) (d : Bool) (h : SOk ss ws.length) : (laidM b ws ss d).length = ws.length := by
  unfold laidM
  rw [laidTo_len b d h _ (Nat.le_refl _), h.off_len]
end
/-! ### rules that speak of the one frame, in a block too -/
section
variable {X : Cx} {K : PySem.W.Frag}
theorem kk_call {v : Value} {r : PySem.W.Frag → List V → Hp → VK → Prop} (hK : X.K = K) (h : CallR X v (r X.K)) : CallR X v (r K) := hK ▸ h
theorem kk_ix {r : PySem.W.Frag → R2} (hK : X.K = K) (h : IxR X (r X.K)) : IxR X (r K) := hK ▸ h
theorem kk_sl {r : PySem.W.Frag → V → Option Int → Option Int → Hp → VK → Prop} (hK : X.K = K) (h : SlR X (r X.K)) : SlR X (r K) := hK ▸ h
theorem kk_op {v : Value → Value → Sem Value} {r : PySem.W.Frag → R2} (hK : X.K = K) (h : OpR X v (r X.K)) : OpR X v (r K) := hK ▸ h
end
/-! ### promises -/
@[irreducible] def spRowEnds (K : PySem.W.Frag) : Sp := fun vs H Q _ => ∃ (a : Addr) (ss : List Int) (n : Nat), vs = [.ref a] ∧ SqT K H a (ss.map V.int) ∧ SOk ss n ∧ n ≤ 12 ∧ ∀ L us H', H L = none → Same H H' → H' L = some (.lst us) → Al (PiV K H') us (endsM ss) → Q (.ref L) H'
@[irreducible] def spCheckSz (K : PySem.W.Frag) : Sp := fun vs H Q _ => ∃ (a : Addr) (ss : List Int) (n : Nat), vs = [.ref a, .int n] ∧ SqT K H a (ss.map V.int) ∧ SOk ss n ∧ n ≤ 12 ∧ ∀ r H', Same H H' → r = V.non → Q r H'
@[irreducible] def spLaid (K : PySem.W.Frag) : Sp := fun vs H Q _ => ∃ (v : V) (a t : Addr) (b : Bx) (ws ss : List Int) (d : Bool), vs = [v, .ref a, .ref t, .str (sd d)] ∧ BxV K H v b ∧ b.Ok 500 ∧ IntsV K H a ws ∧ WOk ws ∧ SqT K H t (ss.map V.int) ∧ SOk ss ws.length ∧ ∀ L us H', H L = none → Same H H' → H' L = some (.lst us) → Bxs K H' us (laidM b ws ss d) → Q (.ref L) H'
@[irreducible] def spLSizes (K : PySem.W.Frag) : Sp := fun vs H Q _ => ∃ (c : Addr) (n : Nat), vs = [.ref c, .int n] ∧ Bag H c ∧ 1 ≤ n ∧ n ≤ 12 ∧ ∀ t ss H', H' t = some (.tup (ss.map V.int)) → SOk ss n → Bag H' c → Kp c H H' → Q (.ref t) H'
@[irreducible] def spTurned : Sp := fun vs H Q _ => ∃ d : Bool, vs = [.str (sd d)] ∧ ∀ r, r = V.str (sd (!d)) → Q r H
@[irreducible] def spParted (K : PySem.W.Frag) : Sp := fun vs H Q _ => ∃ (a t : Addr) (ws ss : List Int), vs = [.ref a, .ref t] ∧ SqL K H a (ws.map V.int) ∧ IntsV K H t ss ∧ SOk ss ws.length ∧ ws.length ≤ 12 ∧ ∀ L us H', H L = none → Same H H' → H' L = some (.lst us) → Al (RwV K H') us (rowsM ws ss) → Q (.ref L) H'
@[irreducible] def spLLaid (K : PySem.W.Frag) : Sp := fun vs H Q _ => ∃ (v : V) (a t : Addr) (b : Bx) (ws ss : List Int) (d : Bool), vs = [v, .ref a, .ref t, .str (sd d)] ∧ BxV K H v b ∧ b.Ok 500 ∧ SqL K H a (ws.map V.int) ∧ WOk ws ∧ IntsV K H t ss ∧ SOk ss ws.length ∧ ∀ L us H', H L = none → Same H H' → H' L = some (.lst us) → Bxs K H' us (laidM b ws ss d) → Q (.ref L) H'
section
variable {K : PySem.W.Frag} {H H' : Hp} {a t : Addr} {ws ss : List Int} {Q : VK} {E : XK} {vs : List V}
theorem rowends_step {n : Nat} (h : SqT K H a (ss.map V.int)) (hs : SOk ss n) (hn : n ≤ 12) (q : ∀ L us H', H L = none → Same H H' → H' L = some (.lst us) → Al (PiV K H') us (endsM ss) → Q (.ref L) H') (hvs : vs = [.ref a] := by rfl) : spRowEnds K vs H Q E := by
  unfold spRowEnds
  exact ⟨a, ss, n, hvs, h, hs, hn, q⟩
theorem checksz_step {n : Nat} (h : SqT K H a (ss.map V.int)) (hs : SOk ss n) (hn : n ≤ 12) (q : ∀ H', Same H H' → Q .non H') (hvs : vs = [.ref a, .int n] := by rfl) : spCheckSz K vs H Q E := by
  unfold spCheckSz
  exact ⟨a, ss, n, hvs, h, hs, hn, fun r H' s e => by rw [e]; exact q H' s⟩
theorem laid_step {v : V} {b : Bx} {d : Bool} {n : Nat} (hv : BxV K H v b) (hb : b.Ok n) (hn : n ≤ 500) (h : IntsV K H a ws) (hw : WOk ws) (ht : SqT K H t (ss.map V.int)) (hs : SOk ss ws.length) (q : ∀ L us H', H L = none → Same H H' → H' L = some (.lst us) → Bxs K H' us (laidM b ws ss d) → Q (.ref L) H') (hvs : vs = [v, .ref a, .ref t, .str (sd d)] := by rfl) : spLaid K vs H Q E := by
  unfold spLaid
  exact ⟨v, a, t, b, ws, ss, d, hvs, hv, hb.mono hn, h, hw, ht, hs, q⟩
theorem lsizes_step {c : Addr} {n : Nat} (hb : Bag H c) (h0 : 1 ≤ n) (h1 : n ≤ 12) (q : ∀ t ss H', H' t = some (.tup (ss.map V.int)) → SOk ss n → Bag H' c → Kp c H H' → Q (.ref t) H') (hvs : vs = [.ref c, .int n] := by rfl) : spLSizes K vs H Q E := by
  unfold spLSizes
  exact ⟨c, n, hvs, hb, h0, h1, q⟩
theorem turned_step {d : Bool} (q : Q (.str (sd (!d))) H) (hvs : vs = [.str (sd d)] := by rfl) : spTurned vs H Q E := by
  unfold spTurned
  exact ⟨d, hvs, fun r e => by rw [e]; exact q⟩
theorem parted_step (h : SqL K H a (ws.map V.int)) (ht : IntsV K H t ss) (hs : SOk ss ws.length) (hl : ws.length ≤ 12) (q : ∀ L us H', H L = none → Same H H' → H' L = some (.lst us) → Al (RwV K H') us (rowsM ws ss) → Q (.ref L) H') (hvs : vs = [.ref a, .ref t] := by rfl) : spParted K vs H Q E := by
  unfold spParted
  exact ⟨a, t, ws, ss, hvs, h, ht, hs, hl, q⟩
theorem llaid_step {v : V} {b : Bx} {d : Bool} {n : Nat} (hv : BxV K H v b) (hb : b.Ok n) (hn : n ≤ 500) (h : SqL K H a (ws.map V.int)) (hw : WOk ws) (ht : IntsV K H t ss) (hs : SOk ss ws.length) (q : ∀ L us H', H L = none → Same H H' → H' L = some (.lst us) → Bxs K H' us (laidM b ws ss d) → Q (.ref L) H') (hvs : vs = [v, .ref a, .ref t, .str (sd d)] := by rfl) : spLLaid K vs H Q E := by
  unfold spLLaid
  exact ⟨v, a, t, b, ws, ss, d, hvs, hv, hb.mono hn, h, hw, ht, hs, q⟩
end
end Cc
namespace Cc
open PySem PySem.Spec PyProof.Rows L2
/-! ### the boxes of a cut, and of rows: mathematics -/
theorem divInt_01 {a c : Int} (h0 : 0 ≤ a) (h1 : a ≤ c) (hc : 0 < c) : 0 ≤ Rat.divInt a c ∧ Rat.divInt a c ≤ 1 := by
  have e : Rat.divInt a c * (c : Rat) = (a : Rat) := by
    rw [Rat.divInt_eq_div, Rat.div_def, Rat.mul_assoc, Rat.inv_mul_cancel _ (by have := int_pos hc; grind), Rat.mul_one]
  have c0 := int_pos hc
  have a0 : (0 : Rat) ≤ (a : Rat) := Rat.intCast_nonneg.mpr h0
  have a1 : (a : Rat) ≤ (c : Rat) := Rat.intCast_le_intCast.mpr h1
  constructor
  · by_cases z : 0 ≤ Rat.divInt a c
    · exact z
    · have := Rat.mul_lt_mul_of_pos_right (show Rat.divInt a c < 0 by grind) c0
      grind
  · by_cases z : Rat.divInt a c ≤ 1
    · exact z
    · have := Rat.mul_lt_mul_of_pos_right (show 1 < Rat.divInt a c by grind) c0
      grind
theorem pre_01 {ws : List Int} (h : WGk ws) (i : Nat) : 0 ≤ pre ws i ∧ pre ws i ≤ 1 := by
  have h1 := sum_nn (ws := ws.drop i) fun x hx => h.w x (List.mem_of_mem_drop hx)
  have h3 : ws.sum = (ws.take i).sum + (ws.drop i).sum := by rw [← List.sum_append, List.take_append_drop]
  exact divInt_01 (h.take i).1 (by omega) h.sum.1
theorem pre_lenG {ws : List Int} (h : WGk ws) : pre ws ws.length = 1 := by
  unfold pre
  rw [List.take_length, Rat.divInt_self' (by have := h.sum; omega)]
theorem lies_iff {b : Bx} {x y : Rat} : lies b x y = true ↔ (¬ x < b.l ∧ x < b.l + b.w) ∧ (¬ y < b.t ∧ y < b.t + b.h) := by
  unfold lies
  simp only [Bool.and_eq_true, Bool.not_eq_true', decide_eq_true_eq, decide_eq_false_iff_not]
/-- what lies in a box of a cut lies in the box -/
theorem lies_sub {b : Bx} {ws : List Int} {d : Bool} {i n : Nat} {x y : Rat} (hb : b.Ok n) (h : WGk ws) (hi : i < ws.length) (hl : lies (cutAt b ws d i) x y = true) : lies b x y = true := by
  have p0 := (pre_01 h i).1
  have p1 := (pre_01 h (i + 1)).2
  rw [pre_succ hi] at p1
  rw [lies_iff] at hl ⊢
  rw [cutAt_eq] at hl
  unfold slab at hl
  cases d with
  | true =>
    rw [if_pos rfl] at hl
    have m0 := Rat.mul_nonneg (Rat.le_of_lt hb.h0) p0
    have m1 := Rat.mul_nonneg (Rat.le_of_lt hb.h0) (show 0 ≤ 1 - (pre ws i + shr ws i) by grind)
    obtain ⟨h1, h2, h3⟩ := hl
    refine ⟨h1, ?_, ?_⟩
    · have : b.t + b.h * pre ws i ≤ y := by
        have := h2
        grind
      grind
    · have h4 : y < b.t + b.h * pre ws i + b.h * shr ws i := h3
      grind
  | false =>
    rw [if_neg Bool.false_ne_true] at hl
    have m0 := Rat.mul_nonneg (Rat.le_of_lt hb.w0) p0
    have m1 := Rat.mul_nonneg (Rat.le_of_lt hb.w0) (show 0 ≤ 1 - (pre ws i + shr ws i) by grind)
    obtain ⟨⟨h2, h3⟩, h1⟩ := hl
    refine ⟨⟨?_, ?_⟩, h1⟩
    · have : b.l + b.w * pre ws i ≤ x := by
        have := h2
        grind
      grind
    · have h4 : x < b.l + b.w * pre ws i + b.w * shr ws i := h3
      grind
def edgeG (b : Bx) (ws : List Int) (d : Bool) (i : Nat) : Rat := if d then b.t + b.h * pre ws i else b.l + b.w * pre ws i
theorem edgeG_succ {b : Bx} {ws : List Int} (d : Bool) {i : Nat} (hi : i < ws.length) : edgeG b ws d (i + 1) = edgeG b ws d i + (if d then b.h else b.w) * shr ws i := by
  unfold edgeG
  rw [pre_succ hi]
  cases d with
  | true =>
    rw [if_pos rfl, if_pos rfl, if_pos rfl]
    grind
  | false =>
    rw [if_neg Bool.false_ne_true, if_neg Bool.false_ne_true, if_neg Bool.false_ne_true]
    grind
theorem edgeG_mono {b : Bx} {ws : List Int} {n : Nat} (hb : b.Ok n) (h : WGk ws) (d : Bool) {i : Nat} (hi : i < ws.length) : edgeG b ws d i ≤ edgeG b ws d (i + 1) := by
  rw [edgeG_succ d hi]
  have e1 := h.shr hi
  cases d with
  | true =>
    rw [if_pos rfl]
    have := Rat.mul_pos hb.h0 e1
    grind
  | false =>
    rw [if_neg Bool.false_ne_true]
    have := Rat.mul_pos hb.w0 e1
    grind
theorem lies_cutG {b : Bx} {ws : List Int} (d : Bool) {i : Nat} (hi : i < ws.length) {x y : Rat} (hl : lies b x y = true) :
    lies (cutAt b ws d i) x y = inStretch (edgeG b ws d) (if d then y else x) i := by
  have e := edgeG_succ (b := b) d hi
  obtain ⟨⟨x0, x1⟩, y0, y1⟩ := lies_iff.mp hl
  rw [cutAt_eq]
  unfold lies inStretch
  rw [e]
  unfold edgeG slab
  cases d with
  | true =>
    rw [if_pos rfl, if_pos rfl, if_pos rfl, if_pos rfl]
    rw [decide_eq_false x0, decide_eq_true x1]
    rfl
  | false =>
    rw [if_neg Bool.false_ne_true, if_neg Bool.false_ne_true, if_neg Bool.false_ne_true, if_neg Bool.false_ne_true]
    rw [decide_eq_false y0, decide_eq_true y1]
    simp
theorem count_liesG {b : Bx} {ws : List Int} {n : Nat} (hb : b.Ok n) (h : WGk ws) (d : Bool) {x y : Rat} (hl : lies b x y = true) :
    ((List.range ws.length).map fun i => lies (cutAt b ws d i) x y).count true = 1 := by
  have e : ((List.range ws.length).map fun i => lies (cutAt b ws d i) x y) = (List.range ws.length).map (inStretch (edgeG b ws d) (if d then y else x)) :=
    List.map_congr_left fun i hi => lies_cutG d (List.mem_range.mp hi) hl
  obtain ⟨⟨x0, x1⟩, y0, y1⟩ := lies_iff.mp hl
  rw [e]
  refine count_one _ _ _ (fun i hi => edgeG_mono hb h d hi) ?_ ?_
  · unfold edgeG
    rw [pre_zero]
    cases d with
    | true => rw [if_pos rfl, if_pos rfl]; grind
    | false => rw [if_neg Bool.false_ne_true, if_neg Bool.false_ne_true]; grind
  · unfold edgeG
    rw [pre_lenG h]
    cases d with
    | true => rw [if_pos rfl, if_pos rfl]; grind
    | false => rw [if_neg Bool.false_ne_true, if_neg Bool.false_ne_true]; grind
theorem count_zero {α : Type} {f : α → Bool} : ∀ {xs : List α}, (∀ x ∈ xs, f x = false) → (xs.map f).count true = 0
  | [], _ => rfl
  | x :: r, h => by
    rw [List.map_cons, List.count_cons, h x List.mem_cons_self, count_zero fun y hy => h y (List.mem_cons_of_mem _ hy)]
    rfl
section
variable {b : Bx} {ws ss : List Int} {d : Bool} {n : Nat}
theorem count_laidTo (hb : b.Ok n) (hW : WOk ws) (hS : SOk ss ws.length) (x y : Rat) : ∀ j, j ≤ ss.length → ((laidTo b ws ss d j).map fun c => lies c x y).count true = ((List.range j).map fun i => lies (cutAt b (sumsM ws ss) d i) x y).count true
  | 0, _ => rfl
  | j + 1, hj => by
    have hG := sums_ok hW hS
    have hjl : j < (sumsM ws ss).length := by rw [sums_len]; omega
    have hc := slab_okG (d := d) hb hG hjl
    have hr := (row_ok hW hS (i := j) (by omega)).g
    rw [laidTo_succ, List.map_append, List.count_append, count_laidTo hb hW hS x y j (by omega), List.range_succ, List.map_append, List.count_append]
    congr 1
    rw [List.map_cons, List.map_nil]
    unfold laidAt cutM
    rw [List.map_map]
    by_cases hl : lies (cutAt b (sumsM ws ss) d j) x y = true
    · rw [hl]
      exact count_liesG hc hr (!d) hl
    · have e : lies (cutAt b (sumsM ws ss) d j) x y = false := by
        cases z : lies (cutAt b (sumsM ws ss) d j) x y with
        | true => exact absurd z hl
        | false => rfl
      rw [e]
      refine count_zero fun k hk => ?_
      show lies (cutAt (cutAt b (sumsM ws ss) d j) (rowAt ws ss j) (!d) k) x y = false
      cases z : lies (cutAt (cutAt b (sumsM ws ss) d j) (rowAt ws ss j) (!d) k) x y with
      | true => exact absurd (lies_sub hc hr (List.mem_range.mp hk) z) hl
      | false => rfl
/-- each point of the box lies in just one of the laid boxes -/
theorem count_laid (hb : b.Ok n) (hW : WOk ws) (hS : SOk ss ws.length) {x y : Rat} (hl : lies b x y = true) : ((laidM b ws ss d).map fun c => lies c x y).count true = 1 := by
  have e := count_liesG hb (sums_ok hW hS) d hl
  rw [sums_len] at e
  rw [← e]
  exact count_laidTo hb hW hS x y _ (Nat.le_refl _)
theorem laid_mem {c : Bx} (hS : SOk ss ws.length) (h : c ∈ laidM b ws ss d) : ∃ j k, j < ss.length ∧ k < (rowAt ws ss j).length ∧ c = cutAt (cutAt b (sumsM ws ss) d j) (rowAt ws ss j) (!d) k := by
  unfold laidM laidTo at h
  obtain ⟨l, hl, hc⟩ := List.mem_flatten.mp h
  obtain ⟨j, hj, rfl⟩ := List.mem_map.mp hl
  unfold laidAt cutM at hc
  obtain ⟨k, hk, rfl⟩ := List.mem_map.mp hc
  exact ⟨j, k, List.mem_range.mp hj, List.mem_range.mp hk, rfl⟩
theorem laid_ok {c : Bx} (hb : b.Ok n) (hW : WOk ws) (hS : SOk ss ws.length) (h : c ∈ laidM b ws ss d) : c.Ok (4 * n + 72) := by
  obtain ⟨j, k, hj, hk, rfl⟩ := laid_mem hS h
  exact (slab_okG (slab_okG hb (sums_ok hW hS) (by rw [sums_len]; exact hj)) (row_ok hW hS hj).g hk).mono (by omega)
theorem laid_in {c : Bx} (hb : b.Ok n) (hW : WOk ws) (hS : SOk ss ws.length) (h : c ∈ laidM b ws ss d) : lies b c.l c.t = true := by
  have ho := laid_ok hb hW hS h
  obtain ⟨j, k, hj, hk, rfl⟩ := laid_mem hS h
  have hG := sums_ok hW hS
  have hjl : j < (sumsM ws ss).length := by rw [sums_len]; omega
  refine lies_sub (d := d) hb hG hjl (lies_sub (d := !d) (slab_okG (d := d) hb hG hjl) (row_ok hW hS hj).g hk (lies_iff.mpr ?_))
  have h0 := ho.w0
  have h1 := ho.h0
  exact ⟨⟨by grind, by grind⟩, by grind, by grind⟩
theorem cut_area (b : Bx) (ws : List Int) (d : Bool) (i : Nat) : (cutAt b ws d i).w * (cutAt b ws d i).h = b.w * b.h * shr ws i := by
  rw [cutAt_eq]
  unfold slab
  cases d with
  | true =>
    rw [if_pos rfl]
    show b.w * (b.h * shr ws i) = b.w * b.h * shr ws i
    grind
  | false =>
    rw [if_neg Bool.false_ne_true]
    show (b.w * shr ws i) * b.h = b.w * b.h * shr ws i
    grind
theorem row_getD (hS : SOk ss ws.length) {j k : Nat} (hj : j < ss.length) (hk : k < (rowAt ws ss j).length) : (rowAt ws ss j).getD k 0 = ws.getD (off ss j + k) 0 := by
  rw [row_len hS hj] at hk
  unfold rowAt
  generalize ss.getD j 0 = z at *
  rw [List.getD_eq_getElem?_getD, List.getD_eq_getElem?_getD, List.getElem?_take_of_lt hk, List.getElem?_drop]
theorem dv_chain {R T w : Int} (hR : R ≠ 0) : Rat.divInt R T * Rat.divInt w R = Rat.divInt w T := by
  rw [Rat.divInt_eq_div, Rat.divInt_eq_div, Rat.divInt_eq_div, Rat.div_def, Rat.div_def, Rat.div_def]
  have e := Rat.mul_inv_cancel (R : Rat) (fun z => hR (Rat.intCast_eq_zero_iff.mp z))
  grind
theorem shr_row (hW : WOk ws) (hS : SOk ss ws.length) {j k : Nat} (hj : j < ss.length) (hk : k < (rowAt ws ss j).length) : shr (sumsM ws ss) j * shr (rowAt ws ss j) k = shr ws (off ss j + k) := by
  unfold shr
  rw [sums_getD hj, sums_sum hS, row_getD hS hj hk]
  exact dv_chain (by have := (row_ok hW hS hj).sum; omega)
theorem laid_areas (hW : WOk ws) (hS : SOk ss ws.length) : ∀ j, j ≤ ss.length → (laidTo b ws ss d j).map (fun c => c.w * c.h) = (List.range (off ss j)).map fun i => b.w * b.h * shr ws i
  | 0, _ => by simp [laidTo, off]
  | j + 1, hj => by
    rw [laidTo_succ, List.map_append, laid_areas hW hS j (by omega), hS.off_succ (by omega), List.range_add, List.map_append]
    congr 1
    unfold laidAt cutM
    rw [List.map_map, List.map_map, row_len hS (by omega)]
    refine List.map_congr_left fun k hk => ?_
    have hk2 : k < (rowAt ws ss j).length := by
      rw [row_len hS (by omega)]
      exact List.mem_range.mp hk
    show (cutAt (cutAt b (sumsM ws ss) d j) (rowAt ws ss j) (!d) k).w * (cutAt (cutAt b (sumsM ws ss) d j) (rowAt ws ss j) (!d) k).h = b.w * b.h * shr ws (off ss j + k)
    rw [cut_area, cut_area, ← shr_row hW hS (by omega) hk2]
    grind
theorem laid_area {i : Nat} {c : Bx} (hW : WOk ws) (hS : SOk ss ws.length) (h : (laidM b ws ss d)[i]? = some c) : i < ws.length ∧ c.w * c.h = b.w * b.h * shr ws i := by
  have e := laid_areas (b := b) (d := d) hW hS ss.length (Nat.le_refl _)
  have hi := (List.getElem?_eq_some_iff.mp h).1
  rw [laidM_len b d hS] at hi
  rw [hS.off_len] at e
  have e2 := congrArg (fun l => l[i]?) e
  simp only [List.getElem?_map, List.getElem?_range hi] at e2
  have h' : (laidTo b ws ss d ss.length)[i]? = some c := h
  rw [h'] at e2
  exact ⟨hi, Option.some.inj e2⟩
theorem shr_timesG (h : WGk ws) (i : Nat) : shr ws i * ((ws.sum : Int) : Rat) = ((ws.getD i 0 : Int) : Rat) := by
  unfold shr
  rw [Rat.divInt_eq_div, Rat.div_def, Rat.mul_assoc, Rat.inv_mul_cancel _ (by have := int_pos h.sum.1; grind), Rat.mul_one]
theorem sz_shr (h : WOk ws) {i : Nat} (hi : i < ws.length) : Sz 23 (shr ws i) := sz_share (by have := getD_ok h hi; omega) h.sum
theorem sz_pre (h : WOk ws) (i : Nat) : Sz 23 (pre ws i) := sz_share (h.take i) h.sum
end
theorem point_inM {l w : Rat} {r m : Int} (hw : 0 < w) (h0 : 0 ≤ r) (h1 : r < m) : ¬ l + w * Rat.divInt r m < l ∧ l + w * Rat.divInt r m < l + w := by
  have m0 := int_pos (show (0 : Int) < m by omega)
  have e : Rat.divInt r m * (m : Rat) = (r : Rat) := by
    rw [Rat.divInt_eq_div, Rat.div_def, Rat.mul_assoc, Rat.inv_mul_cancel _ (by grind), Rat.mul_one]
  have r1 : (r : Rat) < ((m : Int) : Rat) := Rat.intCast_lt_intCast.mpr h1
  have s0 := (divInt_01 h0 (Int.le_of_lt h1) (by omega)).1
  have s1 : Rat.divInt r m < 1 := by
    by_cases z : Rat.divInt r m < 1
    · exact z
    · have z2 : Rat.divInt r m = 1 := by
        have := (divInt_01 h0 (Int.le_of_lt h1) (by omega)).2
        grind
      rw [z2] at e
      grind
  have n0 := Rat.mul_nonneg (Rat.le_of_lt hw) s0
  have n1 := Rat.mul_lt_mul_of_pos_left s1 hw
  rw [Rat.mul_one] at n1
  constructor <;> grind
/-! ### a list of parts, added up -/
@[irreducible] def spTotal (K : PySem.W.Frag) : Sp := fun vs H Q _ => ∃ (L : Addr) (us : List V) (qs : List Rat) (f : Nat → Rat), vs = [.ref L] ∧ SqL K H L us ∧ Al (PtV K H) us qs ∧ f 0 = 0 ∧ (∀ i q, qs[i]? = some q → f (i + 1) = f i + q ∧ Sz 3000 q) ∧ (∀ i, i ≤ qs.length → Sz 3000 (f i)) ∧ ∀ u H', Same H H' → PtV K H' u (f qs.length) → Q u H'
theorem total_step {K : PySem.W.Frag} {H : Hp} {Q : VK} {E : XK} {vs : List V} {L : Addr} {us : List V} {qs : List Rat} (f : Nat → Rat) (hL : SqL K H L us) (hA : Al (PtV K H) us qs) (f0 : f 0 = 0) (fs : ∀ i q, qs[i]? = some q → f (i + 1) = f i + q ∧ Sz 3000 q) (fz : ∀ i, i ≤ qs.length → Sz 3000 (f i)) (q : ∀ u H', Same H H' → PtV K H' u (f qs.length) → Q u H') (hvs : vs = [.ref L] := by rfl) : spTotal K vs H Q E := by
  unfold spTotal
  exact ⟨L, us, qs, f, hvs, hL, hA, f0, fs, fz, q⟩
end Cc
namespace Cc
open PySem PySem.Spec PyProof.Rows L2
/-! ### the greatest of parts -/
def mostL (qs : List Rat) : Rat := qs.foldl gr (qs.headD 0)
theorem gr_self (x : Rat) : gr x x = x := by
  unfold gr
  split <;> rfl
theorem gr_ge (x y : Rat) : x ≤ gr x y ∧ y ≤ gr x y := by
  unfold gr
  split <;> constructor <;> grind
theorem gr_or (x y : Rat) : gr x y = x ∨ gr x y = y := by
  unfold gr
  split
  · exact .inr rfl
  · exact .inl rfl
theorem foldl_gr_mem : ∀ (l : List Rat) (x : Rat), l.foldl gr x = x ∨ l.foldl gr x ∈ l
  | [], _ => .inl rfl
  | y :: r, x => by
    rw [List.foldl_cons]
    rcases foldl_gr_mem r (gr x y) with h | h
    · rcases gr_or x y with e | e
      · exact .inl (h.trans e)
      · rw [h, e]
        exact .inr List.mem_cons_self
    · exact .inr (List.mem_cons_of_mem _ h)
theorem foldl_gr_ge : ∀ (l : List Rat) (x : Rat), x ≤ l.foldl gr x ∧ ∀ q ∈ l, q ≤ l.foldl gr x
  | [], x => ⟨by rw [List.foldl_nil]; exact Rat.le_refl, fun q hq => by cases hq⟩
  | y :: r, x => by
    have ih := foldl_gr_ge r (gr x y)
    have g := gr_ge x y
    rw [List.foldl_cons]
    refine ⟨Rat.le_trans g.1 ih.1, fun q hq => ?_⟩
    rcases List.mem_cons.mp hq with rfl | hq
    · exact Rat.le_trans g.2 ih.1
    · exact ih.2 q hq
theorem mostL_mem {qs : List Rat} (h : qs ≠ []) : mostL qs ∈ qs := by
  cases qs with
  | nil => exact absurd rfl h
  | cons x r =>
    unfold mostL
    rw [List.headD_cons]
    rcases foldl_gr_mem (x :: r) x with e | e
    · rw [e]
      exact List.mem_cons_self
    · exact e
theorem mostL_ge {qs : List Rat} {q : Rat} (h : q ∈ qs) : q ≤ mostL qs := (foldl_gr_ge qs _).2 q h
theorem mostL_eq {qs : List Rat} {m : Rat} (h : m ∈ qs) (h2 : ∀ q ∈ qs, q ≤ m) : mostL qs = m :=
  Rat.le_antisymm (h2 _ (mostL_mem (List.ne_nil_of_mem h))) (mostL_ge h)
theorem mostL_flat {ls : List (List Rat)} (h : ∀ l ∈ ls, l ≠ []) (h0 : ls ≠ []) : mostL ls.flatten = mostL (ls.map mostL) := by
  have hm : mostL (ls.map mostL) ∈ ls.map mostL := mostL_mem (by simpa using h0)
  obtain ⟨l, hl, e⟩ := List.mem_map.mp hm
  refine mostL_eq ?_ fun q hq => ?_
  · rw [← e]
    exact List.mem_flatten.mpr ⟨l, hl, mostL_mem (h l hl)⟩
  · obtain ⟨l2, hl2, hq⟩ := List.mem_flatten.mp hq
    exact Rat.le_trans (mostL_ge hq) (mostL_ge (List.mem_map.mpr ⟨l2, hl2, rfl⟩))
theorem most_take {qs : List Rat} {i : Nat} {q x : Rat} (h : qs[i]? = some q) : (qs.take (i + 1)).foldl gr x = gr ((qs.take i).foldl gr x) q := by
  rw [List.take_add_one, h, List.foldl_append]
  rfl
theorem most_take_mem {qs : List Rat} {i : Nat} (h : qs ≠ []) : (qs.take i).foldl gr (qs.headD 0) ∈ qs := by
  rcases foldl_gr_mem (qs.take i) (qs.headD 0) with e | e
  · rw [e]
    cases qs with
    | nil => exact absurd rfl h
    | cons x r => exact List.mem_cons_self
  · exact List.mem_of_mem_take e
/-! ### shapes of rows -/
def shpX (g : Rat) (x : Int) : Rat := gr (g * (x : Rat)) (1 / (g * (x : Rat)))
def rowM (ws : List Int) (first size : Nat) : List Int := (ws.drop first).take size
def gform (b : Bx) (T : Int) (row : List Int) (d : Bool) : Rat := (if d then b.w / b.h else b.h / b.w) * Rat.divInt T (row.sum * row.sum)
def rowShape (b : Bx) (ws : List Int) (first size : Nat) (d : Bool) : Rat := mostL ((rowM ws first size).map (shpX (gform b ws.sum (rowM ws first size) d)))
def shapesM (b : Bx) (ws ss : List Int) (d : Bool) : List Rat := (List.range ss.length).map fun j => rowShape b ws (off ss j) (ss.getD j 0).toNat d
def worstM (b : Bx) (ws ss : List Int) (d : Bool) : Rat := mostL (shapesM b ws ss d)
theorem div_of {A B C : Rat} (h : A = C * B) (hB : B ≠ 0) : A / B = C := by
  rw [h, Rat.div_def, Rat.mul_assoc, Rat.mul_inv_cancel B hB, Rat.mul_one]
theorem inv_le {a b : Rat} (ha : 0 < a) (h : a ≤ b) : 1 / b ≤ 1 / a := by
  have hb : 0 < b := by grind
  have e1 : 1 / a * a = 1 := by rw [Rat.div_def, Rat.one_mul, Rat.inv_mul_cancel a (by grind)]
  have e2 : 1 / b * b = 1 := by rw [Rat.div_def, Rat.one_mul, Rat.inv_mul_cancel b (by grind)]
  have p0 : 0 < 1 / a := by
    rw [Rat.div_def, Rat.one_mul]
    exact Rat.inv_pos.mpr ha
  by_cases z : 1 / b ≤ 1 / a
  · exact z
  · have z' : 1 / a < 1 / b := by grind
    have h1 := Rat.mul_lt_mul_of_pos_right z' hb
    have h2 := Rat.mul_le_mul_of_nonneg_left h (Rat.le_of_lt p0)
    grind
theorem gform_pos {b : Bx} {T : Int} {row : List Int} {n : Nat} (hb : b.Ok n) (hT : 0 < T) (hR : 0 < row.sum) (d : Bool) : 0 < gform b T row d := by
  unfold gform
  have h1 : 0 < Rat.divInt T (row.sum * row.sum) := divInt_pos hT (Int.mul_pos hR hR)
  cases d with
  | true =>
    rw [if_pos rfl, Rat.div_def]
    exact Rat.mul_pos (Rat.mul_pos hb.w0 (Rat.inv_pos.mpr hb.h0)) h1
  | false =>
    rw [if_neg Bool.false_ne_true, Rat.div_def]
    exact Rat.mul_pos (Rat.mul_pos hb.h0 (Rat.inv_pos.mpr hb.w0)) h1
theorem shp_form {w h s S D R T x : Rat} (hw : 0 < w) (hh : 0 < h) (hS : 0 < S) (hs : 0 < s) (hR : 0 < R) (e1 : s * R = x) (e2 : S * T = R) (e3 : D * (R * R) = T) :
    (w * s) / (h * S) = w / h * D * x ∧ (h * S) / (w * s) = 1 / (w / h * D * x) := by
  have k : D * R * S = 1 := by
    have h1 : (D * R * S) * R = R := by grind
    have h2 := congrArg (fun z => z * R⁻¹) h1
    simp only [Rat.mul_assoc, Rat.mul_inv_cancel R (by grind : R ≠ 0), Rat.mul_one] at h2
    grind
  have hwh : w / h * h = w := by rw [Rat.div_def, Rat.mul_assoc, Rat.inv_mul_cancel h (by grind), Rat.mul_one]
  have hA : w * s = (w / h * D * x) * (h * S) := by
    have : (w / h * D * x) * (h * S) = (w / h * h) * (s * (D * R * S)) := by rw [← e1]; grind
    rw [this, k, hwh, Rat.mul_one]
  have p1 : 0 < h * S := Rat.mul_pos hh hS
  have p2 : 0 < w * s := Rat.mul_pos hw hs
  refine ⟨div_of hA (by grind), div_of ?_ (by grind)⟩
  generalize w / h * D * x = C at *
  have hC : C ≠ 0 := fun z => by
    rw [z, Rat.zero_mul] at hA
    grind
  rw [hA, ← Rat.mul_assoc, Rat.div_def, Rat.one_mul, Rat.inv_mul_cancel C hC, Rat.one_mul]
section
variable {b : Bx} {ws ss : List Int} {n : Nat}
theorem shp_laid (hb : b.Ok n) (hW : WOk ws) (hS : SOk ss ws.length) (d : Bool) {j k : Nat} (hj : j < ss.length) (hk : k < (rowAt ws ss j).length) :
    shp (cutAt (cutAt b (sumsM ws ss) d j) (rowAt ws ss j) (!d) k) = shpX (gform b ws.sum (rowAt ws ss j) d) ((rowAt ws ss j).getD k 0) := by
  have hR := (row_ok hW hS hj)
  have hG := sums_ok hW hS
  have r0 := int_pos hR.sum.1
  have e1 := shr_times hR k
  have e2 : shr (sumsM ws ss) j * ((ws.sum : Int) : Rat) = (((rowAt ws ss j).sum : Int) : Rat) := by
    rw [← sums_sum hS, shr_timesG hG, sums_getD hj]
  have e3 : Rat.divInt ws.sum ((rowAt ws ss j).sum * (rowAt ws ss j).sum) * ((((rowAt ws ss j).sum : Int) : Rat) * (((rowAt ws ss j).sum : Int) : Rat)) = ((ws.sum : Int) : Rat) := by
    rw [Rat.divInt_eq_div, Rat.div_def, Rat.mul_assoc, Rat.intCast_mul, Rat.inv_mul_cancel _ (by have := Rat.mul_pos r0 r0; grind), Rat.mul_one]
  have s0 := hG.shr (i := j) (by rw [sums_len]; exact hj)
  have s1 := hR.g.shr hk
  rw [cutAt_eq, cutAt_eq]
  unfold shp shpX gform slab
  cases d with
  | true =>
    simp only [Bool.not_true, if_true, if_false, Bool.false_eq_true]
    obtain ⟨f1, f2⟩ := shp_form hb.w0 hb.h0 s0 s1 r0 e1 e2 e3
    rw [f1, f2]
  | false =>
    simp only [Bool.not_false, if_true, if_false, Bool.false_eq_true]
    obtain ⟨f1, f2⟩ := shp_form hb.h0 hb.w0 s0 s1 r0 e1 e2 e3
    rw [f1, f2, gr_comm]
theorem map_getD {α : Type} (f : Int → α) : ∀ (row : List Int), (List.range row.length).map (fun k => f (row.getD k 0)) = row.map f
  | [] => rfl
  | x :: r => by
    rw [List.length_cons, List.range_succ_eq_map, List.map_cons, List.map_map, List.map_cons, ← map_getD f r]
    rfl
theorem shp_row (hb : b.Ok n) (hW : WOk ws) (hS : SOk ss ws.length) (d : Bool) {j : Nat} (hj : j < ss.length) : (laidAt b ws ss d j).map shp = (rowAt ws ss j).map (shpX (gform b ws.sum (rowAt ws ss j) d)) := by
  rw [← map_getD]
  unfold laidAt cutM
  rw [List.map_map]
  exact List.map_congr_left fun k hk => shp_laid hb hW hS d hj (List.mem_range.mp hk)
theorem most_laid (hb : b.Ok n) (hW : WOk ws) (hS : SOk ss ws.length) (d : Bool) : mostL ((laidM b ws ss d).map shp) = worstM b ws ss d := by
  unfold worstM shapesM laidM laidTo
  rw [List.map_flatten, List.map_map]
  rw [mostL_flat, List.map_map]
  · congr 1
    refine List.map_congr_left fun j hj => ?_
    show mostL ((laidAt b ws ss d j).map shp) = _
    rw [shp_row hb hW hS d (List.mem_range.mp hj)]
    rfl
  · intro l hl
    obtain ⟨j, hj, rfl⟩ := List.mem_map.mp hl
    have h := (row_ok hW hS (List.mem_range.mp hj)).l0
    intro z
    have z2 : ((laidAt b ws ss d j).map shp).length = 0 := congrArg List.length (show (laidAt b ws ss d j).map shp = [] from z)
    rw [List.length_map] at z2
    unfold laidAt at z2
    rw [cutM_len] at z2
    omega
  · have h := hS.ne hW.l0
    intro z
    have z2 := congrArg List.length z
    rw [List.length_map, List.length_range, List.length_nil] at z2
    omega
/-- the greatest shape of a row by its greatest and its least weight -/
theorem most_ends {row : List Int} {g : Rat} {M m : Int} (hg : 0 < g) (h1 : ∀ x ∈ row, 1 ≤ x) (hM : M ∈ row) (hM2 : ∀ x ∈ row, x ≤ M) (hm : m ∈ row) (hm2 : ∀ x ∈ row, m ≤ x) :
    mostL (row.map (shpX g)) = gr (g * (M : Rat)) (1 / (g * (m : Rat))) := by
  have cast : ∀ {x y : Int}, x ≤ y → g * (x : Rat) ≤ g * (y : Rat) := fun h => Rat.mul_le_mul_of_nonneg_left (Rat.intCast_le_intCast.mpr h) (Rat.le_of_lt hg)
  have pos : ∀ {x : Int}, x ∈ row → 0 < g * (x : Rat) := fun h => Rat.mul_pos hg (int_pos (by have := h1 _ h; omega))
  have i1 := inv_le (pos hm) (cast (hm2 M hM))
  have c1 := cast (hm2 M hM)
  refine mostL_eq ?_ fun q hq => ?_
  · rw [List.mem_map]
    by_cases e : g * (M : Rat) < 1 / (g * (m : Rat))
    · refine ⟨m, hm, ?_⟩
      unfold shpX gr
      rw [if_pos e, if_pos (by grind)]
    · refine ⟨M, hM, ?_⟩
      unfold shpX gr
      rw [if_neg e, if_neg (by grind)]
  · obtain ⟨x, hx, rfl⟩ := List.mem_map.mp hq
    have i2 := inv_le (pos hm) (cast (hm2 x hx))
    have c2 := cast (hM2 x hx)
    have g1 := gr_ge (g * (M : Rat)) (1 / (g * (m : Rat)))
    unfold shpX
    rcases gr_or (g * (x : Rat)) (1 / (g * (x : Rat))) with e | e
    · rw [e]
      grind
    · rw [e]
      grind
theorem laidTo_take (hS : SOk ss ws.length) (d : Bool) : ∀ m i, i ≤ m → m ≤ ss.length → (laidTo b ws ss d m).take (off ss i) = laidTo b ws ss d i
  | 0, i, hi, _ => by
    have : i = 0 := by omega
    subst this
    simp [laidTo]
  | m + 1, i, hi, hm => by
    by_cases e : i = m + 1
    · subst e
      exact List.take_of_length_le (by rw [laidTo_len b d hS _ hm]; exact Nat.le_refl _)
    · have h1 := laidTo_take hS d m i (by omega) (by omega)
      have h2 := laidTo_len b d hS m (by omega)
      have h3 : off ss i ≤ off ss m := by
        have := congrArg List.length h1
        rw [List.length_take, laidTo_len b d hS i (by omega), h2] at this
        omega
      rw [laidTo_succ, List.take_append_of_le_length (by rw [h2]; exact h3), h1]
theorem laid_slice (hS : SOk ss ws.length) (d : Bool) {j : Nat} (hj : j < ss.length) : ((laidM b ws ss d).drop (off ss j)).take (ss.getD j 0).toNat = laidAt b ws ss d j := by
  have h1 := laidTo_take (b := b) hS d ss.length (j + 1) hj (Nat.le_refl _)
  rw [hS.off_succ hj, laidTo_succ] at h1
  have h2 := congrArg (List.drop (off ss j)) h1
  rw [List.drop_take, Nat.add_sub_cancel_left, ← laidTo_len b d hS j (by omega), List.drop_left] at h2
  rw [← laidTo_len b d hS j (by omega)]
  exact h2
end
/-! ### sizes of shapes -/
theorem sz_gform {b : Bx} {T : Int} {row : List Int} {n : Nat} (hb : b.Ok n) (hT : 0 ≤ T ∧ T ≤ 4800000) (hR : 0 < row.sum ∧ row.sum ≤ 4800000) (d : Bool) : Sz (n + n + 46) (gform b T row d) := by
  unfold gform
  have h0 := Int.mul_pos hR.1 hR.1
  have h1 : row.sum * row.sum ≤ 4800000 * 4800000 := Int.mul_le_mul hR.2 hR.2 (by omega) (by omega)
  have z : Sz 46 (Rat.divInt T (row.sum * row.sum)) := size_divInt (by omega) (show T.natAbs < 2 ^ 46 by omega) (show (row.sum * row.sum).natAbs < 2 ^ 46 by omega)
  refine sz_mul (m := n + n) ?_ z (by omega)
  cases d with
  | true =>
    rw [if_pos rfl]
    exact sz_div hb.sw hb.sh (by have := hb.h0; grind) (Nat.le_refl _)
  | false =>
    rw [if_neg Bool.false_ne_true]
    exact sz_div hb.sh hb.sw (by have := hb.w0; grind) (Nat.le_refl _)
theorem sz_gr {n : Nat} {x y : Rat} (hx : Sz n x) (hy : Sz n y) : Sz n (gr x y) := by
  rcases gr_or x y with e | e <;> rw [e] <;> assumption
theorem sz_int {i : Int} (h : -4800000 ≤ i ∧ i ≤ 4800000) : Sz 23 (i : Rat) := ⟨sz23 h, Nat.one_lt_two_pow (by decide)⟩
end Cc
namespace Cc
open PySem PySem.Spec PyProof.Rows L2
/-! ### promises about shapes -/
def OneAt (K : PySem.W.Frag) (mg : Str → Option Value) : Prop := ∃ a, mg "ONE" = some (.ref a) ∧ ∀ H, PtV K H (.ref a) 1
theorem one_mk {K : PySem.W.Frag} {mg : Str → Option Value} {h : Heap} (X : K.In h) (G : h.Ns mainGlobals mg) {a : Addr} {dd : Option Addr} {n : Nat} {t u : Tok} {sl : Array (Option Value)}
    (e : PySem.W.nsIn K mainGlobals "ONE" = some (some (.ref a))) (l : K.lookup a = some ⟨.type "tuple", dd, .seq #[.int 1 t, .int 1 u] n, sl⟩) : OneAt K mg :=
  ⟨a, PySem.W.mg_of X G e, fun _ => ⟨a, rfl, .inr ⟨_, _, _, l, rfl, rfl, (show 2 ≤ sizeLine by decide), .cons ⟨t, rfl⟩ (.cons ⟨u, rfl⟩ .nil)⟩⟩⟩
theorem cut_rowM {ws : List Int} {first size : Nat} {lo hi : Int} (e1 : lo = first) (e2 : hi = (first : Int) + size) (h : first + size ≤ ws.length) : cutV (ws.map V.int) (some lo) (some hi) = (rowM ws first size).map V.int := by
  unfold cutV rowM
  rw [e2, e1, show (first : Int) + (size : Int) = ((first + size : Nat) : Int) by omega, List.length_map, HT.sIx_nat, HT.sIx_nat, Nat.min_eq_left (by omega), Nat.min_eq_left (by omega), Nat.add_sub_cancel_left, List.map_take, List.map_drop]
theorem rowM_ok {ws : List Int} {first size : Nat} (hW : WOk ws) (h0 : 1 ≤ size) (h : first + size ≤ ws.length) : WOk (rowM ws first size) := by
  have h1 := hW.l1
  unfold rowM
  refine ⟨by rw [List.length_take, List.length_drop]; omega, by rw [List.length_take, List.length_drop]; omega, fun x hx => hW.w x (List.mem_of_mem_drop (List.mem_of_mem_take hx))⟩
theorem sz_one : Sz 1 (1 : Rat) := ⟨by decide, by decide⟩
theorem rowShape_eq {b : Bx} {ws : List Int} {first size n : Nat} {d : Bool} {M m : Int} (hb : b.Ok n) (hW : WOk ws) (h0 : 1 ≤ size) (h : first + size ≤ ws.length) (hM : M ∈ rowM ws first size) (hM2 : ∀ x ∈ rowM ws first size, x ≤ M) (hm : m ∈ rowM ws first size) (hm2 : ∀ x ∈ rowM ws first size, m ≤ x) :
    rowShape b ws first size d = gr (gform b ws.sum (rowM ws first size) d * (M : Rat)) (1 / (gform b ws.sum (rowM ws first size) d * (m : Rat))) := by
  have hr := rowM_ok hW h0 h
  exact most_ends (gform_pos hb hW.sum.1 hr.sum.1 d) hr.g.w hM hM2 hm hm2
theorem sz_shpX {g : Rat} {x : Int} {n : Nat} (hg : Sz n g) (h0 : 0 < g) (hx : 1 ≤ x ∧ x ≤ 4800000) : Sz (n + 24) (shpX g x) := by
  have h1 := Rat.mul_pos h0 (int_pos (i := x) (by omega))
  have z : Sz (n + 23) (g * (x : Rat)) := sz_mul hg (sz_int (by omega)) (Nat.le_refl _)
  exact sz_gr (z.mono (by omega)) (sz_div sz_one z (by grind) (by omega))
theorem sz_rowShape {b : Bx} {ws : List Int} {first size n : Nat} (hb : b.Ok n) (hW : WOk ws) (h0 : 1 ≤ size) (h : first + size ≤ ws.length) (d : Bool) : Sz (n + n + 70) (rowShape b ws first size d) := by
  have hr := rowM_ok hW h0 h
  have hl := hr.l0
  have hm : rowShape b ws first size d ∈ (rowM ws first size).map (shpX (gform b ws.sum (rowM ws first size) d)) := mostL_mem (fun z => by
    have z2 := congrArg List.length z
    rw [List.length_map, List.length_nil] at z2
    omega)
  obtain ⟨x, hx, e⟩ := List.mem_map.mp hm
  rw [← e]
  have hs := hW.sum
  have hrs := hr.sum
  exact (sz_shpX (sz_gform hb (by omega) hrs d) (gform_pos hb hs.1 hrs.1 d) (hr.g.mem hx)).mono (by omega)
@[irreducible] def spGreat (K : PySem.W.Frag) : Sp := fun vs H Q _ => ∃ (L : Addr) (us : List V) (qs : List Rat), vs = [.ref L] ∧ SqL K H L us ∧ Al (PtV K H) us qs ∧ qs ≠ [] ∧ (∀ q ∈ qs, Sz 3900 q) ∧ ∀ u H', Same H H' → PtV K H' u (mostL qs) → Q u H'
@[irreducible] def spShapeB (K : PySem.W.Frag) : Sp := fun vs H Q _ => ∃ (v : V) (a : Addr) (b : Bx) (ws : List Int) (lo hi : Int) (first size : Nat) (d : Bool), vs = [v, .ref a, .int lo, .int hi, .str (sd d)] ∧ BxV K H v b ∧ b.Ok 450 ∧ IntsV K H a ws ∧ WOk ws ∧ lo = first ∧ hi = (first : Int) + size ∧ 1 ≤ size ∧ first + size ≤ ws.length ∧ ∀ u H', Same H H' → PtV K H' u (rowShape b ws first size d) → Q u H'
@[irreducible] def spRowShape (K : PySem.W.Frag) : Sp := fun vs H Q _ => ∃ (v : V) (a : Addr) (b : Bx) (ws : List Int) (lo hi : Int) (first size : Nat) (d : Bool), vs = [v, .ref a, .int lo, .int hi, .str (sd d)] ∧ BxV K H v b ∧ b.Ok 450 ∧ SqL K H a (ws.map V.int) ∧ WOk ws ∧ lo = first ∧ hi = size ∧ 1 ≤ size ∧ first + size ≤ ws.length ∧ ∀ u H', Same H H' → PtV K H' u (rowShape b ws first size d) → Q u H'
@[irreducible] def spWorst (K : PySem.W.Frag) : Sp := fun vs H Q _ => ∃ (v : V) (a t : Addr) (b : Bx) (ws ss : List Int) (d : Bool), vs = [v, .ref a, .ref t, .str (sd d)] ∧ BxV K H v b ∧ b.Ok 450 ∧ SqL K H a (ws.map V.int) ∧ WOk ws ∧ SqT K H t (ss.map V.int) ∧ SOk ss ws.length ∧ ∀ u H', Same H H' → PtV K H' u (worstM b ws ss d) → Q u H'
section
variable {K : PySem.W.Frag} {H H' : Hp} {a t : Addr} {ws ss : List Int} {Q : VK} {E : XK} {vs : List V} {b : Bx} {v : V} {d : Bool} {n : Nat}
theorem great_step {L : Addr} {us : List V} {qs : List Rat} (hL : SqL K H L us) (hA : Al (PtV K H) us qs) (h0 : qs ≠ []) (hz : ∀ q ∈ qs, Sz n q) (hn : n ≤ 3900) (q : ∀ u H', Same H H' → PtV K H' u (mostL qs) → Q u H') (hvs : vs = [.ref L] := by rfl) : spGreat K vs H Q E := by
  unfold spGreat
  exact ⟨L, us, qs, hvs, hL, hA, h0, fun q hq => (hz q hq).mono hn, q⟩
theorem shapebI_step {lo hi : Int} (first size : Nat) (hv : BxV K H v b) (hb : b.Ok n) (hn : n ≤ 450) (h : IntsV K H a ws) (hw : WOk ws) (e1 : lo = first) (e2 : hi = (first : Int) + size) (h0 : 1 ≤ size) (h1 : first + size ≤ ws.length) (q : ∀ u H', Same H H' → PtV K H' u (rowShape b ws first size d) → Q u H') (hvs : vs = [v, .ref a, .int lo, .int hi, .str (sd d)] := by rfl) : spShapeB K vs H Q E := by
  unfold spShapeB
  exact ⟨v, a, b, ws, lo, hi, first, size, d, hvs, hv, hb.mono hn, h, hw, e1, e2, h0, h1, q⟩
theorem shapeb_step {lo hi : Int} (first size : Nat) (hv : BxV K H v b) (hb : b.Ok n) (hn : n ≤ 450) (h : SqL K H a (ws.map V.int)) (hw : WOk ws) (e1 : lo = first) (e2 : hi = (first : Int) + size) (h0 : 1 ≤ size) (h1 : first + size ≤ ws.length) (q : ∀ u H', Same H H' → PtV K H' u (rowShape b ws first size d) → Q u H') (hvs : vs = [v, .ref a, .int lo, .int hi, .str (sd d)] := by rfl) : spShapeB K vs H Q E :=
  shapebI_step first size hv hb hn (.inl h) hw e1 e2 h0 h1 q hvs
theorem rowshape_step {lo hi : Int} (first size : Nat) (hv : BxV K H v b) (hb : b.Ok n) (hn : n ≤ 450) (h : SqL K H a (ws.map V.int)) (hw : WOk ws) (e1 : lo = first) (e2 : hi = size) (h0 : 1 ≤ size) (h1 : first + size ≤ ws.length) (q : ∀ u H', Same H H' → PtV K H' u (rowShape b ws first size d) → Q u H') (hvs : vs = [v, .ref a, .int lo, .int hi, .str (sd d)] := by rfl) : spRowShape K vs H Q E := by
  unfold spRowShape
  exact ⟨v, a, b, ws, lo, hi, first, size, d, hvs, hv, hb.mono hn, h, hw, e1, e2, h0, h1, q⟩
theorem worst_step (hv : BxV K H v b) (hb : b.Ok n) (hn : n ≤ 450) (h : SqL K H a (ws.map V.int)) (hw : WOk ws) (ht : SqT K H t (ss.map V.int)) (hs : SOk ss ws.length) (q : ∀ u H', Same H H' → PtV K H' u (worstM b ws ss d) → Q u H') (hvs : vs = [v, .ref a, .ref t, .str (sd d)] := by rfl) : spWorst K vs H Q E := by
  unfold spWorst
  exact ⟨v, a, t, b, ws, ss, d, hvs, hv, hb.mono hn, h, hw, ht, hs, q⟩
end
theorem Bxs.drop {K : PySem.W.Frag} {H : Hp} : ∀ (k : Nat) {vs : List V} {bs : List Bx}, Bxs K H vs bs → Bxs K H (vs.drop k) (bs.drop k)
  | 0, _, _, h => h
  | _ + 1, _, _, .nil => .nil
  | k + 1, _, _, .cons _ r => Bxs.drop k r
theorem Bxs.take {K : PySem.W.Frag} {H : Hp} : ∀ (k : Nat) {vs : List V} {bs : List Bx}, Bxs K H vs bs → Bxs K H (vs.take k) (bs.take k)
  | 0, _, _, _ => .nil
  | _ + 1, _, _, .nil => .nil
  | k + 1, _, _, .cons a r => .cons a (Bxs.take k r)
/-- the sizes that single a row out -/
def ss3 (first size n : Nat) : List Int := [(first : Int), (size : Int), (n : Int) - first - size].filter (fun x => decide (x > 0))
theorem ss3_eq {first size n : Nat} (h0 : 1 ≤ size) : ss3 first size n = (if (first : Int) > 0 then [(first : Int)] else []) ++ ((size : Int) :: (if (n : Int) - first - size > 0 then [(n : Int) - first - size] else [])) := by
  have hs : (size : Int) > 0 := by omega
  unfold ss3
  rw [List.filter_cons, List.filter_cons, List.filter_cons, List.filter_nil]
  by_cases a1 : (first : Int) > 0
  · rw [if_pos a1, if_pos (decide_eq_true a1), if_pos (decide_eq_true hs)]
    by_cases a3 : (n : Int) - first - size > 0
    · rw [if_pos a3, if_pos (decide_eq_true a3)]
      rfl
    · rw [if_neg a3, if_neg (fun z => a3 (of_decide_eq_true z))]
      rfl
  · rw [if_neg a1, if_neg (fun z => a1 (of_decide_eq_true z)), if_pos (decide_eq_true hs)]
    by_cases a3 : (n : Int) - first - size > 0
    · rw [if_pos a3, if_pos (decide_eq_true a3)]
      rfl
    · rw [if_neg a3, if_neg (fun z => a3 (of_decide_eq_true z))]
      rfl
theorem ss3_ok {first size n : Nat} (h0 : 1 ≤ size) (h : first + size ≤ n) : SOk (ss3 first size n) n ∧ ∃ j, j < (ss3 first size n).length ∧ off (ss3 first size n) j = first ∧ (ss3 first size n).getD j 0 = size := by
  refine ⟨⟨fun x hx => ?_, ?_⟩, ?_⟩
  · have := (List.mem_filter.mp hx).2
    have := of_decide_eq_true this
    omega
  · rw [ss3_eq h0, List.sum_append, List.sum_cons]
    split <;> split <;> simp <;> omega
  · rw [ss3_eq h0]
    by_cases a1 : (first : Int) > 0
    · rw [if_pos a1]
      exact ⟨1, by simp, by simp [off], rfl⟩
    · rw [if_neg a1]
      exact ⟨0, by simp, by simp [off]; omega, rfl⟩
/-! ### weights mixed, rows' places -/
def rLenK (K : PySem.W.Frag) : List V → Hp → VK → Prop := fun xs H Q => ∃ p ys, xs = [.ref p] ∧ (SqL K H p ys ∨ SqT K H p ys) ∧ Q (.int ys.length) H
theorem kk_len {X : Cx} {K : PySem.W.Frag} (hK : X.K = K) : CallR X (.builtin "len") (rLenK K) := by
  subst hK
  exact call_len_seq
theorem kk_bm {X : Cx} {K : PySem.W.Frag} {o e : Expr} {es : List Expr} {to : TE} {t : TA} {name : Str} {apos cpos : Pos} {T id : String} {r : V → List V → Hp → VK → Prop} (hK : X.K = K) (pa : PlainAttrs T) (slot : Slot T name id) (hty : typeOf (.builtin id) = pure (.type "method_descriptor")) (hm : MtR X id r) (ho : PE X o to) (ha : PA X (e :: es) t)
    (hbase : attributeBase o name X.env (eval o X.env) = eval o X.env := by rfl)
    (hfew : ((backTo cpos (starEach (e :: es) X.env)).all (fun x => !x.1) && (backToKw cpos (keywordEach [] X.env)).all (fun x => x.1.isSome)
      && decide ((e :: es).length + ([] : List Keyword).length + (if ([] : List Keyword).isEmpty then 0 else 1) < 30)) = true := by rfl)
    (hline : (apos.endLine == cpos.line) = true := by rfl) (hs : starEach (e :: es) X.env = (false, eval e X.env) :: starEach es X.env := by rfl) (hplain : (backTo cpos (starEach es X.env)).any (·.1) = false := by rfl) :
    PE X (.Call (.Attribute o name apos) (e :: es) [] cpos) (tBM K T r to t) := by
  subst hK
  exact pe_bm pa slot hty hm ho ha hbase hfew hline hs hplain
def spotsM (ss : List Int) : List (Int × Int) := (List.range ss.length).map fun i => ((ss.take i).sum, ss.getD i 0)
theorem spots_len {ss : List Int} : (spotsM ss).length = ss.length := by
  unfold spotsM
  rw [List.length_map, List.length_range]
theorem spots_get {ss : List Int} {i : Nat} {x : Int × Int} (h : (spotsM ss)[i]? = some x) : i < ss.length ∧ x = ((ss.take i).sum, ss.getD i 0) := by
  have hi := (List.getElem?_eq_some_iff.mp h).1
  rw [spots_len] at hi
  unfold spotsM at h
  rw [List.getElem?_map, List.getElem?_range hi] at h
  exact ⟨hi, (Option.some.inj h).symm⟩
@[irreducible] def spSpots (K : PySem.W.Frag) : Sp := fun vs H Q _ => ∃ (a : Addr) (ss : List Int) (n : Nat), vs = [.ref a] ∧ SqT K H a (ss.map V.int) ∧ SOk ss n ∧ n ≤ 12 ∧ ∀ L us H', H L = none → Same H H' → H' L = some (.lst us) → Al (PiV K H') us (spotsM ss) → Q (.ref L) H'
@[irreducible] def spMixed (K : PySem.W.Frag) : Sp := fun vs H Q _ => ∃ (c a : Addr) (xs : List Int) (P : Int → Prop), vs = [.ref c, .ref a] ∧ Bag H c ∧ H a = some (.lst (xs.map V.int)) ∧ a ≠ c ∧ xs.length ≤ 60 ∧ (∀ x ∈ xs, P x) ∧ ∀ L (ys : List Int) H', H L = none → H' L = some (.lst (ys.map V.int)) → ys.length = xs.length → ys.sum = xs.sum → (∀ x ∈ ys, P x) → Bag H' c → KpG c H H' → Q (.ref L) H'
section
variable {K : PySem.W.Frag} {H H' : Hp} {a : Addr} {ss : List Int} {Q : VK} {E : XK} {vs : List V}
theorem spots_step {n : Nat} (h : SqT K H a (ss.map V.int)) (hs : SOk ss n) (hn : n ≤ 12) (q : ∀ L us H', H L = none → Same H H' → H' L = some (.lst us) → Al (PiV K H') us (spotsM ss) → Q (.ref L) H') (hvs : vs = [.ref a] := by rfl) : spSpots K vs H Q E := by
  unfold spSpots
  exact ⟨a, ss, n, hvs, h, hs, hn, q⟩
theorem mixed_stepP (P : Int → Prop) {c : Addr} {xs : List Int} (hb : Bag H c) (h : H a = some (.lst (xs.map V.int))) (hne : a ≠ c) (hl : xs.length ≤ 60) (hw : ∀ x ∈ xs, P x) (q : ∀ L (ys : List Int) H', H L = none → H' L = some (.lst (ys.map V.int)) → ys.length = xs.length → ys.sum = xs.sum → (∀ x ∈ ys, P x) → Bag H' c → KpG c H H' → Q (.ref L) H') (hvs : vs = [.ref c, .ref a] := by rfl) : spMixed K vs H Q E := by
  unfold spMixed
  exact ⟨c, a, xs, P, hvs, hb, h, hne, hl, hw, q⟩
theorem mixed_step {c : Addr} {xs : List Int} (hb : Bag H c) (h : H a = some (.lst (xs.map V.int))) (hne : a ≠ c) (hl : xs.length ≤ 12) (hw : ∀ x ∈ xs, 1 ≤ x ∧ x ≤ 400000) (q : ∀ L (ys : List Int) H', H L = none → H' L = some (.lst (ys.map V.int)) → ys.length = xs.length → ys.sum = xs.sum → (∀ x ∈ ys, 1 ≤ x ∧ x ≤ 400000) → Bag H' c → KpG c H H' → Q (.ref L) H') (hvs : vs = [.ref c, .ref a] := by rfl) : spMixed K vs H Q E :=
  mixed_stepP _ hb h hne (by omega) hw q hvs
end
theorem cut_lo {ws : List Int} {first : Nat} {hi : Int} (e : hi = first) : cutV (ws.map V.int) none (some hi) = (ws.take first).map V.int := by
  unfold cutV
  rw [e, HT.sIx_none, HT.sIx_nat, List.drop_zero, Nat.sub_zero, List.length_map, ← List.map_take]
  congr 1
  rcases Nat.le_total first ws.length with h | h
  · rw [Nat.min_eq_left h]
  · rw [Nat.min_eq_right h, List.take_length, List.take_of_length_le h]
theorem cut_hi {ws : List Int} {at' : Nat} {lo : Int} (e : lo = at') (h : at' ≤ ws.length) : cutV (ws.map V.int) (some lo) none = (ws.drop at').map V.int := by
  unfold cutV
  rw [e, HT.sIx_none, HT.sIx_nat, List.length_map, Nat.min_eq_left h, List.map_drop]
  exact List.take_of_length_le (by rw [List.length_drop, List.length_map]; exact Nat.le_refl _)
theorem rowShape_of {b : Bx} {ws ws' : List Int} {f f' size : Nat} {d : Bool} (h1 : ws'.sum = ws.sum) (h2 : rowM ws' f' size = rowM ws f size) : rowShape b ws' f' size d = rowShape b ws f size d := by
  unfold rowShape
  rw [h1, h2]
theorem sum_erase : ∀ {xs : List Int} {k : Nat} {y : Int}, xs[k]? = some y → (xs.eraseIdx k).sum + y = xs.sum
  | [], k, y, h => by simp at h
  | x :: r, 0, y, h => by
    cases h
    rw [List.eraseIdx_cons_zero, List.sum_cons]
    omega
  | x :: r, k + 1, y, h => by
    rw [List.getElem?_cons_succ] at h
    have ih := sum_erase h
    rw [List.eraseIdx_cons_succ, List.sum_cons, List.sum_cons]
    omega
theorem map_erase (xs : List Int) (k : Nat) : (xs.map V.int).eraseIdx k = (xs.eraseIdx k).map V.int := by
  induction xs generalizing k with
  | nil => rfl
  | cons x r ih =>
    cases k with
    | zero => rfl
    | succ k => rw [List.map_cons, List.eraseIdx_cons_succ, List.eraseIdx_cons_succ, List.map_cons, ih]
end Cc
namespace Cc
open PySem PySem.Spec PyProof.Rows L2
/-! ### a dict of shapes, by the rows' ends -/
theorem u1 {n : Nat} (h : n + 64 < cLine) : n + 1 < cLine := by omega
def ky (i j : Nat) : List Key := [.inl (i : Int), .inl (j : Int)]
theorem ky_inj {i j i' j' : Nat} (h : ky i j = ky i' j') : i = i' ∧ j = j' := by
  unfold ky at h
  simp only [List.cons.injEq, Sum.inl.injEq, Int.natCast_inj, and_true] at h
  exact h
/-- all rows of n things -/
def AllR (n : Nat) (i j : Nat) : Prop := i < j ∧ j ≤ n
def DSh (K : PySem.W.Frag) (N : Nat) (C : Nat → Nat → Prop) (f : Nat → Nat → Rat) (m : Nat) (H : Hp) (a : Addr) : Prop := ∃ kvs : List (List Key × V), H a = some (.dT kvs) ∧ kvs.length ≤ m ∧ (∀ kv ∈ kvs, ∃ i j, kv.1 = ky i j ∧ AllR N i j) ∧ ∀ i j, C i j → ∃ v, valV kvs (ky i j) = some v ∧ PtV K H v (f i j)
section
variable {K : PySem.W.Frag} {C : Nat → Nat → Prop} {f : Nat → Nat → Rat} {m N : Nat} {H H' : Hp} {a : Addr}
theorem DSh.same (x : DSh K N C f m H a) (e : Same H H') : DSh K N C f m H' a := by
  obtain ⟨kvs, h1, h2, hk, h3⟩ := x
  refine ⟨kvs, e _ _ h1, h2, hk, fun i j c => ?_⟩
  obtain ⟨v, h4, h5⟩ := h3 i j c
  exact ⟨v, h4, h5.same e⟩
theorem DSh.ne (x : DSh K N C f m H a) {b : Addr} {ys : List V} (hb : H b = some (.lst ys)) : a ≠ b := fun z => by
  obtain ⟨kvs, h1, _⟩ := x
  rw [z, hb] at h1
  cases h1
theorem DSh.bag {b : Addr} (x : DSh K N C f m H a) (e : Kp b H H') (hb : Bag H b) : DSh K N C f m H' a := by
  obtain ⟨ys, hy⟩ := hb.lst
  have hn := x.ne hy
  obtain ⟨kvs, h1, h2, hk, h3⟩ := x
  refine ⟨kvs, e _ _ h1 hn, h2, hk, fun i j c => ?_⟩
  obtain ⟨v, h4, h5⟩ := h3 i j c
  exact ⟨v, h4, h5.bag e hb⟩
theorem DSh.mono {C' : Nat → Nat → Prop} {m' : Nat} (x : DSh K N C f m H a) (h : ∀ i j, C' i j → C i j) (hm : m ≤ m') : DSh K N C' f m' H a := by
  obtain ⟨kvs, h1, h2, hk, h3⟩ := x
  exact ⟨kvs, h1, Nat.le_trans h2 hm, hk, fun i j c => h3 i j (h i j c)⟩
theorem seqT_kpD {b a : Addr} {xs : List V} {kvs : List (List Key × V)} (e : Kp b H H') (hb : H b = some (.dT kvs)) (h : SqT K H a xs) : SqT K H' a xs := by
  rcases h with (h | ⟨o, h⟩) | h
  · exact .inl (.inl (e _ _ h (ne_of h hb (by intro z; cases z))))
  · exact .inl (.inr ⟨o, e _ _ h (ne_of h hb (by intro z; cases z))⟩)
  · exact .inr h
theorem PtV.kpD {b : Addr} {kvs : List (List Key × V)} {v : V} {q : Rat} (h : PtV K H v q) (e : Kp b H H') (hb : H b = some (.dT kvs)) : PtV K H' v q := by
  obtain ⟨a, rfl, h⟩ := h
  exact ⟨a, rfl, seqT_kpD e hb h⟩
theorem putK_len' {kvs : List (List Key × V)} {k : List Key} {v : V} : (putK kvs k v).length ≤ kvs.length + 1 := by
  unfold putK
  split
  · rw [List.length_map]
    omega
  · rw [List.length_append]
    exact Nat.le_refl _
/-- one shape more -/
theorem mem_putK {kvs : List (List Key × V)} {k : List Key} {v : V} {kv : List Key × V} (h : kv ∈ putK kvs k v) : kv.1 = k ∨ kv.1 ∈ kvs.map (·.1) := by
  unfold putK at h
  split at h
  · obtain ⟨y, hy, e⟩ := List.mem_map.mp h
    by_cases z : y.1 = k
    · rw [if_pos z] at e
      rw [← e]
      first | exact .inl rfl | exact .inl z
    · rw [if_neg z] at e
      rw [← e]
      exact .inr (List.mem_map.mpr ⟨y, hy, rfl⟩)
  · rcases List.mem_append.mp h with h | h
    · exact .inr (List.mem_map.mpr ⟨kv, h, rfl⟩)
    · rw [List.mem_singleton.mp h]
      exact .inl rfl
theorem DSh.put {i j : Nat} {v : V} (x : DSh K N C f m H a) (hN : AllR N i j) (hm : m < 900) (hv : PtV K H v (f i j)) (p : Addr) (hp : H p = some (.tup [.int i, .int j])) :
    ∃ H4, DPut H a (.ref p) v H4 ∧ Kp a H H4 ∧ DSh K N (fun i' j' => C i' j' ∨ (i' = i ∧ j' = j)) f (m + 1) H4 a := by
  obtain ⟨kvs, h1, h2, hk, h3⟩ := x
  refine ⟨upd H a (.dT (putK kvs (ky i j) v)), DPut.t h1 hp (small1000 (by omega)), Kp.upd, _, upd_same, Nat.le_trans putK_len' (by omega), fun kv hkv => ?_, fun i' j' c => ?_⟩
  · rcases mem_putK hkv with e | e
    · exact ⟨i, j, e, hN⟩
    · obtain ⟨kv', h4, h5⟩ := List.mem_map.mp e
      obtain ⟨i', j', h6, h7⟩ := hk kv' h4
      exact ⟨i', j', by rw [← h5]; exact h6, h7⟩
  rw [valV_put]
  by_cases e : ky i' j' = ky i j
  · obtain ⟨rfl, rfl⟩ := ky_inj e
    rw [if_pos rfl]
    exact ⟨v, rfl, hv.kpD Kp.upd h1⟩
  · rw [if_neg e]
    rcases c with c | ⟨rfl, rfl⟩
    · obtain ⟨w, h4, h5⟩ := h3 i' j' c
      exact ⟨w, h4, h5.kpD Kp.upd h1⟩
    · exact absurd rfl e
/-- a shape looked up -/
theorem DSh.get {i j : Nat} (x : DSh K N C f m H a) (c : C i j) (p : Addr) (hp : H p = some (.tup [.int i, .int j])) : ∃ v, DGet H a (.ref p) (some v) ∧ PtV K H v (f i j) := by
  obtain ⟨kvs, h1, h2, hk, h3⟩ := x
  obtain ⟨v, h4, h5⟩ := h3 i j c
  refine ⟨v, ?_, h5⟩
  rw [← h4]
  exact DGet.t h1 hp
end
def fSh (b : Bx) (ws : List Int) (d : Bool) (i j : Nat) : Rat := rowShape b ws i (j - i) d
@[irreducible] def spShapes (K : PySem.W.Frag) : Sp := fun vs H Q _ => ∃ (v : V) (a : Addr) (b : Bx) (ws : List Int) (d : Bool), vs = [v, .ref a, .str (sd d)] ∧ BxV K H v b ∧ b.Ok 450 ∧ SqL K H a (ws.map V.int) ∧ WOk ws ∧ ∀ D H', H D = none → Same H H' → DSh K ws.length (AllR ws.length) (fSh b ws d) 200 H' D → Q (.ref D) H'
theorem shapes_step {K : PySem.W.Frag} {H : Hp} {a : Addr} {ws : List Int} {Q : VK} {E : XK} {vs : List V} {b : Bx} {v : V} {d : Bool} {n : Nat} (hv : BxV K H v b) (hb : b.Ok n) (hn : n ≤ 450) (h : SqL K H a (ws.map V.int)) (hw : WOk ws) (q : ∀ D H', H D = none → Same H H' → DSh K ws.length (AllR ws.length) (fSh b ws d) 200 H' D → Q (.ref D) H') (hvs : vs = [v, .ref a, .str (sd d)] := by rfl) : spShapes K vs H Q E := by
  unfold spShapes
  exact ⟨v, a, b, ws, d, hvs, hv, hb.mono hn, h, hw, q⟩
@[irreducible] def spShapesI (K : PySem.W.Frag) : Sp := fun vs H Q _ => ∃ (v : V) (a : Addr) (b : Bx) (ws : List Int) (d : Bool), vs = [v, .ref a, .str (sd d)] ∧ BxV K H v b ∧ b.Ok 450 ∧ IntsV K H a ws ∧ WOk ws ∧ ∀ D H', H D = none → Same H H' → DSh K ws.length (AllR ws.length) (fSh b ws d) 200 H' D → Q (.ref D) H'
theorem shapesI_step {K : PySem.W.Frag} {H : Hp} {a : Addr} {ws : List Int} {Q : VK} {E : XK} {vs : List V} {b : Bx} {v : V} {d : Bool} {n : Nat} (hv : BxV K H v b) (hb : b.Ok n) (hn : n ≤ 450) (h : IntsV K H a ws) (hw : WOk ws) (q : ∀ D H', H D = none → Same H H' → DSh K ws.length (AllR ws.length) (fSh b ws d) 200 H' D → Q (.ref D) H') (hvs : vs = [v, .ref a, .str (sd d)] := by rfl) : spShapesI K vs H Q E := by
  unfold spShapesI
  exact ⟨v, a, b, ws, d, hvs, hv, hb.mono hn, h, hw, q⟩
/-! ### greedy sizes -/
def gEnd (f : Nat → Nat → Rat) (n b e : Nat) : Nat := if e < n ∧ ¬ f b e < f b (e + 1) then gEnd f n b (e + 1) else e
termination_by n - e
theorem gEnd_go {f : Nat → Nat → Rat} {n b e : Nat} (h : e < n ∧ ¬ f b e < f b (e + 1)) : gEnd f n b e = gEnd f n b (e + 1) := by
  rw [gEnd, if_pos h]
theorem gEnd_stop {f : Nat → Nat → Rat} {n b e : Nat} (h : ¬ (e < n ∧ ¬ f b e < f b (e + 1))) : gEnd f n b e = e := by
  rw [gEnd, if_neg h]
theorem gEnd_ge (f : Nat → Nat → Rat) (n b : Nat) : ∀ k e, n - e ≤ k → e ≤ gEnd f n b e
  | 0, e, h => by
    rw [gEnd_stop (by omega)]
    exact Nat.le_refl _
  | k + 1, e, h => by
    by_cases c : e < n ∧ ¬ f b e < f b (e + 1)
    · rw [gEnd_go c]
      have := gEnd_ge f n b k (e + 1) (by omega)
      omega
    · rw [gEnd_stop c]
      exact Nat.le_refl _
theorem gEnd_le (f : Nat → Nat → Rat) (n b : Nat) : ∀ k e, n - e ≤ k → e ≤ n → gEnd f n b e ≤ n
  | 0, e, h, h2 => by
    rw [gEnd_stop (by omega)]
    exact h2
  | k + 1, e, h, h2 => by
    by_cases c : e < n ∧ ¬ f b e < f b (e + 1)
    · rw [gEnd_go c]
      exact gEnd_le f n b k (e + 1) (by omega) (by omega)
    · rw [gEnd_stop c]
      exact h2
def greedyL (f : Nat → Nat → Rat) (n b : Nat) : List Int := if b < n then ((gEnd f n b (b + 1) - b : Nat) : Int) :: greedyL f n (gEnd f n b (b + 1)) else []
termination_by n - b
decreasing_by
  have := gEnd_ge f n b (n - (b + 1)) (b + 1) (Nat.le_refl _)
  omega
theorem greedyL_go {f : Nat → Nat → Rat} {n b : Nat} (h : b < n) : greedyL f n b = ((gEnd f n b (b + 1) - b : Nat) : Int) :: greedyL f n (gEnd f n b (b + 1)) := by
  rw [greedyL, if_pos h]
theorem greedyL_stop {f : Nat → Nat → Rat} {n b : Nat} (h : ¬ b < n) : greedyL f n b = [] := by
  rw [greedyL, if_neg h]
/-- greedy sizes are sizes -/
theorem greedy_ok (f : Nat → Nat → Rat) (n : Nat) : ∀ k b, n - b ≤ k → b ≤ n → (∀ x ∈ greedyL f n b, 1 ≤ x) ∧ (greedyL f n b).sum = (n : Int) - b
  | 0, b, h, hb => by
    rw [greedyL_stop (by omega)]
    refine ⟨by simp, ?_⟩
    rw [List.sum_nil]
    omega
  | k + 1, b, h, hb => by
    by_cases c : b < n
    · have g1 := gEnd_ge f n b (n - (b + 1)) (b + 1) (Nat.le_refl _)
      have g2 := gEnd_le f n b (n - (b + 1)) (b + 1) (Nat.le_refl _) (by omega)
      obtain ⟨h1, h2⟩ := greedy_ok f n k (gEnd f n b (b + 1)) (by omega) g2
      rw [greedyL_go c]
      refine ⟨fun x hx => ?_, ?_⟩
      · rcases List.mem_cons.mp hx with rfl | hx
        · omega
        · exact h1 x hx
      · rw [List.sum_cons, h2]
        omega
    · rw [greedyL_stop c]
      refine ⟨by simp, ?_⟩
      rw [List.sum_nil]
      omega
theorem greedy_sok (f : Nat → Nat → Rat) (n : Nat) : SOk (greedyL f n 0) n := by
  obtain ⟨h1, h2⟩ := greedy_ok f n n 0 (by omega) (by omega)
  exact ⟨h1, by rw [h2]; omega⟩
@[irreducible] def spGreedy (K : PySem.W.Frag) : Sp := fun vs H Q _ => ∃ (v : V) (a : Addr) (b : Bx) (ws : List Int) (d : Bool), vs = [v, .ref a, .str (sd d)] ∧ BxV K H v b ∧ b.Ok 450 ∧ SqL K H a (ws.map V.int) ∧ WOk ws ∧ ∀ t H', Same H H' → H' t = some (.tup ((greedyL (fSh b ws d) ws.length 0).map V.int)) → Q (.ref t) H'
@[irreducible] def spLGreedy (K : PySem.W.Frag) : Sp := fun vs H Q _ => ∃ (D : Addr) (n : Nat) (f : Nat → Nat → Rat) (m : Nat), vs = [.ref D, .int n] ∧ DSh K n (AllR n) f m H D ∧ n ≤ 12 ∧ (∀ i j, AllR n i j → Sz 3900 (f i j)) ∧ ∀ t H', Same H H' → H' t = some (.tup ((greedyL f n 0).map V.int)) → Q (.ref t) H'
section
variable {K : PySem.W.Frag} {H : Hp} {a : Addr} {ws : List Int} {Q : VK} {E : XK} {vs : List V} {b : Bx} {v : V} {d : Bool} {n m : Nat}
theorem greedy_step (hv : BxV K H v b) (hb : b.Ok n) (hn : n ≤ 450) (h : SqL K H a (ws.map V.int)) (hw : WOk ws) (q : ∀ t H', Same H H' → H' t = some (.tup ((greedyL (fSh b ws d) ws.length 0).map V.int)) → Q (.ref t) H') (hvs : vs = [v, .ref a, .str (sd d)] := by rfl) : spGreedy K vs H Q E := by
  unfold spGreedy
  exact ⟨v, a, b, ws, d, hvs, hv, hb.mono hn, h, hw, q⟩
theorem lgreedy_step {D : Addr} {f : Nat → Nat → Rat} (h : DSh K n (AllR n) f m H D) (hn : n ≤ 12) (hz : ∀ i j, AllR n i j → Sz 3900 (f i j)) (q : ∀ t H', Same H H' → H' t = some (.tup ((greedyL f n 0).map V.int)) → Q (.ref t) H') (hvs : vs = [.ref D, .int n] := by rfl) : spLGreedy K vs H Q E := by
  unfold spLGreedy
  exact ⟨D, n, f, m, hvs, h, hn, hz, q⟩
end
theorem sz_fSh {b : Bx} {ws : List Int} {n : Nat} (hb : b.Ok n) (hW : WOk ws) (d : Bool) (hn : n ≤ 450) : ∀ i j, AllR ws.length i j → Sz 3900 (fSh b ws d i j) := fun i j h => by
  have h1 := h.1
  have h2 := h.2
  exact (sz_rowShape hb hW (by omega) (by omega) d).mono (by omega)
theorem same_kp {H H3 H4 : Hp} {F : Addr} (nF : H F = none) (s : Same H H3) (k : Kp F H3 H4) : Same H H4 := fun b u e => k b u (s b u e) (ne_of_none e nF)
/-- the shape of a thing of a row, as a law reckons it -/
theorem shp_own {L W : Rat} {R T x : Int} (hL : 0 < L) (hW : 0 < W) (hR : 0 < R) (hT : 0 < T) (hx : 0 < x) :
    gr ((L * Rat.divInt R T) / (W * Rat.divInt x R)) ((W * Rat.divInt x R) / (L * Rat.divInt R T)) = shpX (W / L * Rat.divInt T (R * R)) x := by
  have r0 := int_pos hR
  have t0 := int_pos hT
  have rr := Int.mul_pos hR hR
  have mulr : ∀ {a c : Int}, 0 < c → Rat.divInt a c * (c : Rat) = (a : Rat) := fun {a c} h => by
    have := int_pos h
    rw [Rat.divInt_eq_div, Rat.div_def, Rat.mul_assoc, Rat.inv_mul_cancel _ (by grind), Rat.mul_one]
  have e3 : Rat.divInt T (R * R) * ((R : Rat) * (R : Rat)) = (T : Rat) := by
    have := mulr (a := T) rr
    rw [Rat.intCast_mul] at this
    exact this
  obtain ⟨f1, f2⟩ := shp_form hW hL (divInt_pos hR hT) (divInt_pos hx hR) r0 (mulr hR) (mulr hT) e3
  unfold shpX
  rw [f1, f2, gr_comm]
end Cc
namespace Cc
open PySem PySem.Spec PyProof.Rows L2
/-! ### t * 1 is t -/
theorem tuple_mul1 (l : Addr) (items : Array Value) (n : Nat) (dd : Option Addr) (sl : Array (Option Value)) (u : Tok) :
    Meets (Builtin.«tuple.__mul__» ⟨[.ref l, .int 1 u], []⟩) (fun _ R s => s.heap.get? l = some { cls := .type "tuple", dict := dd, data := .seq items n, slots := sl } ∧ R (.ok (.ret (Value.ref l))) s) :=
  .of_wp fun prog w A R s h => by
    obtain ⟨hp, g, d, tk, os⟩ := s
    obtain ⟨hl, h⟩ := h
    have f1 := AutoSeq1.idx_int
    have c1 : (items.isEmpty || (1 : Int) == 1) = true := by simp
    wp_walk using wpAny_loadPart' hl
    repeat (first
      | (refine wpAny_ite_true (decide_eq_true (by rw [c1])) ?_; wp_walk using wpAny_loadPart' hl)
      | (refine wpAny_ite_true (by rw [c1]) ?_; wp_walk using wpAny_loadPart' hl))
    exact ⟨_, rfl, h⟩
def rRepT1 (K : PySem.W.Frag) : R2 := fun x y H Q => ∃ l xs, x = .ref l ∧ y = .int 1 ∧ SqT K H l xs ∧ Q (.ref l) H
theorem op_repT1 {X : Cx} : OpR X (binaryOp .Mult) (rRepT1 X.K) := by
  intro pins s σ H x y v u Q I rx ry h
  obtain ⟨l, xs, rfl, rfl, hT, q⟩ := h
  cases rx
  obtain ⟨t, rfl⟩ := ry
  obtain ⟨its, r, ⟨⟨cls, dd, data, sl⟩, ho, hc, n, hd⟩, hs⟩ := I.tuple hT
  simp only at hc hd
  subst hc hd
  refine wpAny_binaryOp_repeat_ref (T := "tuple") (U := "int") (by decide) ⟨_, ho, rfl⟩ (fun s' => typeIs_int s' 1 t) noFill_tuple_mul F.fills_int_mul F.slot_int_rmul repeat_tuple F.slot_int_index.lookup
    (call_meets F.slot_int_rmul (typeIs_int s 1 t) F.entry_int_rmul (F.args_int_rmul_2 _ _) (int_rmul_tuple 1 t l its.toArray n dd sl)
      ⟨ho, rfl, ⟨_, ho, rfl⟩, call_meets F.slot_tuple_mul ⟨_, ho, rfl⟩ F.entry_tuple_mul (F.args_tuple_mul_2 _ _) (tuple_mul1 l its.toArray n dd sl t) ⟨ho, ?_⟩⟩)
  exact ⟨.ref l, H, I, rfl, q⟩
theorem op_or2 {X : Cx} {f : Value → Value → Sem Value} {r1 r2 : R2} (h1 : OpR X f r1) (h2 : OpR X f r2) : OpR X f (fun x y H Q => r1 x y H Q ∨ r2 x y H Q) := by
  intro pins s σ H x y v u Q I rx ry h
  rcases h with h | h
  · exact h1 pins s σ H x y v u Q I rx ry h
  · exact h2 pins s σ H x y v u Q I rx ry h
/-! ### the least of parts -/
def leastL (qs : List Rat) : Rat := qs.foldl ls (qs.headD 0)
theorem ls_or (x y : Rat) : ls x y = x ∨ ls x y = y := by
  unfold ls
  split
  · exact .inl rfl
  · exact .inr rfl
theorem ls_le (x y : Rat) : ls x y ≤ x ∧ ls x y ≤ y := by
  unfold ls
  split <;> constructor <;> grind
theorem foldl_ls_mem : ∀ (l : List Rat) (x : Rat), l.foldl ls x = x ∨ l.foldl ls x ∈ l
  | [], _ => .inl rfl
  | y :: r, x => by
    rw [List.foldl_cons]
    rcases foldl_ls_mem r (ls x y) with h | h
    · rcases ls_or x y with e | e
      · exact .inl (h.trans e)
      · rw [h, e]
        exact .inr List.mem_cons_self
    · exact .inr (List.mem_cons_of_mem _ h)
theorem foldl_ls_le : ∀ (l : List Rat) (x : Rat), l.foldl ls x ≤ x ∧ ∀ q ∈ l, l.foldl ls x ≤ q
  | [], x => ⟨by rw [List.foldl_nil]; exact Rat.le_refl, fun q hq => by cases hq⟩
  | y :: r, x => by
    have ih := foldl_ls_le r (ls x y)
    have g := ls_le x y
    rw [List.foldl_cons]
    refine ⟨Rat.le_trans ih.1 g.1, fun q hq => ?_⟩
    rcases List.mem_cons.mp hq with rfl | hq
    · exact Rat.le_trans ih.1 g.2
    · exact ih.2 q hq
theorem leastL_mem {qs : List Rat} (h : qs ≠ []) : leastL qs ∈ qs := by
  cases qs with
  | nil => exact absurd rfl h
  | cons x r =>
    unfold leastL
    rw [List.headD_cons]
    rcases foldl_ls_mem (x :: r) x with e | e
    · rw [e]
      exact List.mem_cons_self
    · exact e
theorem leastL_le {qs : List Rat} {q : Rat} (h : q ∈ qs) : leastL qs ≤ q := (foldl_ls_le qs _).2 q h
theorem least_take {qs : List Rat} {i : Nat} {q x : Rat} (h : qs[i]? = some q) : (qs.take (i + 1)).foldl ls x = ls ((qs.take i).foldl ls x) q := by
  rw [List.take_add_one, h, List.foldl_append]
  rfl
theorem least_take_mem {qs : List Rat} {i : Nat} (h : qs ≠ []) : (qs.take i).foldl ls (qs.headD 0) ∈ qs := by
  rcases foldl_ls_mem (qs.take i) (qs.headD 0) with e | e
  · rw [e]
    cases qs with
    | nil => exact absurd rfl h
    | cons x r => exact List.mem_cons_self
  · exact List.mem_of_mem_take e
@[irreducible] def spLeastOf (K : PySem.W.Frag) : Sp := fun vs H Q _ => ∃ (L : Addr) (us : List V) (qs : List Rat), vs = [.ref L] ∧ SqL K H L us ∧ Al (PtV K H) us qs ∧ qs ≠ [] ∧ (∀ q ∈ qs, Sz 3900 q) ∧ ∀ u H', Same H H' → PtV K H' u (leastL qs) → Q u H'
theorem leastof_step {K : PySem.W.Frag} {H : Hp} {Q : VK} {E : XK} {vs : List V} {n : Nat} {L : Addr} {us : List V} {qs : List Rat} (hL : SqL K H L us) (hA : Al (PtV K H) us qs) (h0 : qs ≠ []) (hz : ∀ q ∈ qs, Sz n q) (hn : n ≤ 3900) (q : ∀ u H', Same H H' → PtV K H' u (leastL qs) → Q u H') (hvs : vs = [.ref L] := by rfl) : spLeastOf K vs H Q E := by
  unfold spLeastOf
  exact ⟨L, us, qs, hvs, hL, hA, h0, fun q hq => (hz q hq).mono hn, q⟩
/-! ### the least worst shape behind each place -/
structure Bst (f : Nat → Nat → Rat) (n i : Nat) (g : Nat → Rat) : Prop where
  e : g n = 1
  hit : ∀ b, i ≤ b → b < n → ∃ e, b < e ∧ e ≤ n ∧ g b = gr (f b e) (g e)
  le : ∀ b, i ≤ b → b < n → ∀ e, b < e → e ≤ n → g b ≤ gr (f b e) (g e)
theorem Bst.mono {f : Nat → Nat → Rat} {n i j : Nat} {g : Nat → Rat} (h : Bst f n i g) (hij : i ≤ j) : Bst f n j g := ⟨h.e, fun b h1 h2 => h.hit b (by omega) h2, fun b h1 h2 => h.le b (by omega) h2⟩
/-- sizes have no lesser worst shape -/
theorem Bst.low {f : Nat → Nat → Rat} {n : Nat} {g : Nat → Rat} {ss : List Int} {M : Rat} (h : Bst f n 0 g) (hS : SOk ss n) (h1 : 1 ≤ M) (hM : ∀ j, j < ss.length → f (off ss j) (off ss (j + 1)) ≤ M) : ∀ k, k ≤ ss.length → g (off ss (ss.length - k)) ≤ M
  | 0, _ => by
    rw [Nat.sub_zero, hS.off_len, h.e]
    exact h1
  | k + 1, hk => by
    have ih := Bst.low h hS h1 hM k (by omega)
    have hj : ss.length - (k + 1) < ss.length := by omega
    have e : ss.length - k = ss.length - (k + 1) + 1 := by omega
    have hs := hS.off_succ hj
    have hg := hS.getD hj
    have hl := hS.off_le (ss.length - (k + 1) + 1)
    rw [e] at ih
    have h2 := h.le (off ss (ss.length - (k + 1))) (by omega) (by omega) (off ss (ss.length - (k + 1) + 1)) (by omega) hl
    have h3 := hM (ss.length - (k + 1)) hj
    rcases gr_or (f (off ss (ss.length - (k + 1))) (off ss (ss.length - (k + 1) + 1))) (g (off ss (ss.length - (k + 1) + 1))) with e2 | e2
    · rw [e2] at h2
      exact Rat.le_trans h2 h3
    · rw [e2] at h2
      exact Rat.le_trans h2 ih
theorem shpX_ge {g : Rat} {x : Int} (h : 0 < g * (x : Rat)) : 1 ≤ shpX g x := by
  unfold shpX
  have g1 := gr_ge (g * (x : Rat)) (1 / (g * (x : Rat)))
  by_cases e : 1 ≤ g * (x : Rat)
  · exact Rat.le_trans e g1.1
  · have h2 := inv_le h (show g * (x : Rat) ≤ 1 by grind)
    have e1 : (1 : Rat) / 1 = 1 := by rw [Rat.div_def]; grind
    rw [e1] at h2
    exact Rat.le_trans h2 g1.2
theorem rowShape_ge {b : Bx} {ws : List Int} {first size n : Nat} (hb : b.Ok n) (hW : WOk ws) (h0 : 1 ≤ size) (h : first + size ≤ ws.length) (d : Bool) : 1 ≤ rowShape b ws first size d := by
  have hr := rowM_ok hW h0 h
  have hl := hr.l0
  have hm : rowShape b ws first size d ∈ (rowM ws first size).map (shpX (gform b ws.sum (rowM ws first size) d)) := mostL_mem (fun z => by
    have z2 := congrArg List.length z
    rw [List.length_map, List.length_nil] at z2
    omega)
  obtain ⟨x, hx, e⟩ := List.mem_map.mp hm
  rw [← e]
  exact shpX_ge (Rat.mul_pos (gform_pos hb hW.sum.1 hr.sum.1 d) (int_pos (by have := hr.g.mem hx; omega)))
theorem Bst.worst {b : Bx} {ws ss : List Int} {m : Nat} {d : Bool} {g : Nat → Rat} (hb : b.Ok m) (hW : WOk ws) (h : Bst (fSh b ws d) ws.length 0 g) (hS : SOk ss ws.length) : ¬ worstM b ws ss d < g 0 := by
  have key : ∀ j, j < ss.length → fSh b ws d (off ss j) (off ss (j + 1)) = rowShape b ws (off ss j) (ss.getD j 0).toNat d := fun j hj => by
    unfold fSh
    rw [hS.off_succ hj, Nat.add_sub_cancel_left]
  have hM : ∀ j, j < ss.length → rowShape b ws (off ss j) (ss.getD j 0).toNat d ≤ worstM b ws ss d := fun j hj => by
    unfold worstM shapesM
    exact mostL_ge (List.mem_map.mpr ⟨j, List.mem_range.mpr hj, rfl⟩)
  have h0 := hS.ne hW.l0
  have hg := hS.getD (show 0 < ss.length by omega)
  have h1 : 1 ≤ worstM b ws ss d := Rat.le_trans (rowShape_ge hb hW (by omega) (hS.size_le (show 0 < ss.length by omega)) d) (hM 0 (by omega))
  have := Bst.low h hS h1 (fun j hj => by rw [key j hj]; exact hM j hj) ss.length (Nat.le_refl _)
  rw [Nat.sub_self] at this
  have e : off ss 0 = 0 := by simp [off]
  rw [e] at this
  grind
@[irreducible] def spLeastB (K : PySem.W.Frag) : Sp := fun vs H Q _ => ∃ (D : Addr) (n m : Nat) (f : Nat → Nat → Rat), vs = [.ref D, .int n] ∧ DSh K n (AllR n) f m H D ∧ n ≤ 12 ∧ (∀ i j, AllR n i j → Sz 3900 (f i j)) ∧ ∀ L us g H', H L = none → Same H H' → H' L = some (.lst us) → Bst f n 0 g → (∀ e, e ≤ n → Sz 3900 (g e) ∧ ∃ v, us[e]? = some v ∧ PtV K H' v (g e)) → Q (.ref L) H'
@[irreducible] def spLeast (K : PySem.W.Frag) : Sp := fun vs H Q _ => ∃ (v : V) (a : Addr) (b : Bx) (ws : List Int) (d : Bool), vs = [v, .ref a, .str (sd d)] ∧ BxV K H v b ∧ b.Ok 450 ∧ SqL K H a (ws.map V.int) ∧ WOk ws ∧ ∀ u g H', Same H H' → Bst (fSh b ws d) ws.length 0 g → Sz 3900 (g 0) → PtV K H' u (g 0) → Q u H'
section
variable {K : PySem.W.Frag} {H : Hp} {a : Addr} {ws : List Int} {Q : VK} {E : XK} {vs : List V} {b : Bx} {v : V} {d : Bool} {n m : Nat}
theorem leastb_step {D : Addr} {f : Nat → Nat → Rat} (h : DSh K n (AllR n) f m H D) (hn : n ≤ 12) (hz : ∀ i j, AllR n i j → Sz 3900 (f i j)) (q : ∀ L us g H', H L = none → Same H H' → H' L = some (.lst us) → Bst f n 0 g → (∀ e, e ≤ n → Sz 3900 (g e) ∧ ∃ v, us[e]? = some v ∧ PtV K H' v (g e)) → Q (.ref L) H') (hvs : vs = [.ref D, .int n] := by rfl) : spLeastB K vs H Q E := by
  unfold spLeastB
  exact ⟨D, n, m, f, hvs, h, hn, hz, q⟩
theorem least_step (hv : BxV K H v b) (hb : b.Ok n) (hn : n ≤ 450) (h : SqL K H a (ws.map V.int)) (hw : WOk ws) (q : ∀ u g H', Same H H' → Bst (fSh b ws d) ws.length 0 g → Sz 3900 (g 0) → PtV K H' u (g 0) → Q u H') (hvs : vs = [v, .ref a, .str (sd d)] := by rfl) : spLeast K vs H Q E := by
  unfold spLeast
  exact ⟨v, a, b, ws, d, hvs, hv, hb.mono hn, h, hw, q⟩
end
/-! ### what greedy sizes are like -/
theorem gEnd_no {f : Nat → Nat → Rat} {n b : Nat} : ∀ k e, n - e ≤ k → ∀ e', e ≤ e' → e' < gEnd f n b e → ¬ f b e' < f b (e' + 1)
  | 0, e, h, e', h1, h2 => by
    rw [gEnd_stop (by omega)] at h2
    omega
  | k + 1, e, h, e', h1, h2 => by
    by_cases c : e < n ∧ ¬ f b e < f b (e + 1)
    · rw [gEnd_go c] at h2
      by_cases z : e' = e
      · rw [z]
        exact c.2
      · exact gEnd_no k (e + 1) (by omega) e' (by omega) h2
    · rw [gEnd_stop c] at h2
      omega
theorem gEnd_end {f : Nat → Nat → Rat} {n b : Nat} : ∀ k e, n - e ≤ k → gEnd f n b e < n → f b (gEnd f n b e) < f b (gEnd f n b e + 1)
  | 0, e, h, h2 => by
    rw [gEnd_stop (by omega)] at h2
    omega
  | k + 1, e, h, h2 => by
    by_cases c : e < n ∧ ¬ f b e < f b (e + 1)
    · rw [gEnd_go c] at h2 ⊢
      exact gEnd_end k (e + 1) (by omega) h2
    · rw [gEnd_stop c] at h2 ⊢
      by_cases z : f b e < f b (e + 1)
      · exact z
      · exact absurd ⟨h2, z⟩ c
theorem greedy_at (f : Nat → Nat → Rat) (n : Nat) : ∀ k b, n - b ≤ k → b ≤ n → ∀ j, j < (greedyL f n b).length → ∃ o : Nat, (o : Int) = b + ((greedyL f n b).take j).sum ∧ o < n ∧ (greedyL f n b).getD j 0 = ((gEnd f n o (o + 1) - o : Nat) : Int)
  | 0, b, h, hb, j, hj => by
    rw [greedyL_stop (by omega)] at hj
    simp at hj
  | k + 1, b, h, hb, j, hj => by
    by_cases c : b < n
    · have g1 := gEnd_ge f n b (n - (b + 1)) (b + 1) (Nat.le_refl _)
      have g2 := gEnd_le f n b (n - (b + 1)) (b + 1) (Nat.le_refl _) (by omega)
      rw [greedyL_go c] at hj ⊢
      cases j with
      | zero => exact ⟨b, by simp, c, rfl⟩
      | succ j =>
        rw [List.length_cons] at hj
        obtain ⟨o, h1, h2, h3⟩ := greedy_at f n k (gEnd f n b (b + 1)) (by omega) g2 j (by omega)
        refine ⟨o, ?_, h2, ?_⟩
        · rw [List.take_succ_cons, List.sum_cons, h1]
          omega
        · rw [List.getD_cons_succ]
          exact h3
    · rw [greedyL_stop c] at hj
      simp at hj
/-- sizes of one row; sizes of one each -/
theorem sok_one {n : Nat} (h : 1 ≤ n) : SOk [(n : Int)] n := ⟨fun x hx => by rw [List.mem_singleton.mp hx]; omega, by simp⟩
theorem sok_ones : ∀ n : Nat, SOk (List.replicate n (1 : Int)) n
  | 0 => ⟨by simp, by simp⟩
  | n + 1 => by
    obtain ⟨h1, h2⟩ := sok_ones n
    refine ⟨fun x hx => ?_, ?_⟩
    · rw [List.replicate_succ] at hx
      rcases List.mem_cons.mp hx with rfl | hx
      · decide
      · exact h1 x hx
    · rw [List.replicate_succ, List.sum_cons, h2]
      omega
theorem rep1 {α : Type} (x : α) : ∀ k : Nat, (List.replicate k [x]).flatten = List.replicate k x
  | 0 => rfl
  | k + 1 => by
    rw [List.replicate_succ, List.flatten_cons, rep1 x k, List.replicate_succ]
    rfl
theorem ixN_n {n j : Nat} (hj : j < n) : ixN n (j : Int) = some j := by
  unfold ixN
  rw [if_pos (by omega), if_pos (by omega)]
  simp
/-- (1,) * n -/
def rOnes (K : PySem.W.Frag) : R2 := fun x y H Q => ∃ (l : Addr) (n : Nat), x = .ref l ∧ y = .int n ∧ SqT K H l [.int 1] ∧ 1 ≤ n ∧ n ≤ 1000 ∧ ∀ p H', Same H H' → SqT K H' p ((List.replicate n (1 : Int)).map V.int) → Q (.ref p) H'
theorem op_ones {X : Cx} : OpR X (binaryOp .Mult) (rOnes X.K) := by
  intro pins s σ H x y v u Q I rx ry h
  obtain ⟨l, n, rfl, rfl, hT, h0, h1, q⟩ := h
  by_cases e : n = 1
  · subst e
    exact op_repT1 pins s σ H _ _ v u Q I rx ry ⟨l, _, rfl, rfl, hT, q l H (Same.refl H) hT⟩
  · refine op_repT pins s σ H _ _ v u Q I rx ry ⟨l, n, [.int 1], rfl, rfl, hT, by simp, by omega, by omega, by simp, fun p np => ?_⟩
    refine q p _ (same_new np) ?_
    rw [show ((n : Nat) : Int).toNat = n from rfl, rep1, show (List.replicate n (1 : Int)).map V.int = List.replicate n (V.int 1) from List.map_replicate]
    exact SqT.of upd_same
theorem ne_bl {x y : V} (h : x = y) : V.bl (!decide (x = y)) = V.bl false := by
  subst h
  simp
theorem atI_neg1 {α : Type} {xs : List α} {v : α} (h : xs[xs.length - 1]? = some v) : atI xs (-1) = some v := by
  have hl := (List.getElem?_eq_some_iff.mp h).1
  have e : xs = xs.dropLast ++ [v] := by
    have hne : xs ≠ [] := fun z => by
      rw [z] at hl
      simp at hl
    have h2 := List.dropLast_concat_getLast hne
    rw [List.getLast_eq_getElem] at h2
    rw [List.getElem?_eq_getElem hl] at h
    rw [Option.some.inj h] at h2
    exact h2.symm
  rw [e]
  exact atI_last _ _
theorem any_false (n : Nat) : (List.replicate n false).any id = false := by
  induction n with
  | zero => rfl
  | succ n ih => rw [List.replicate_succ, List.any_cons, ih]; rfl
end Cc
namespace Cc
open PySem PySem.Spec PyProof.Rows L2
/-! ### max(t), min(t), t a tuple of ints -/
section
variable {X : Cx}
def rMaxA (K : PySem.W.Frag) : List V → Hp → VK → Prop := fun vs H Q => ∃ (a : Addr) (ns : List Int), vs = [V.ref a] ∧ IntsV K H a ns ∧ 0 < ns.length ∧ ∀ m, m ∈ ns → (∀ y, y ∈ ns → y ≤ m) → Q (.int m) H
def rMinA (K : PySem.W.Frag) : List V → Hp → VK → Prop := fun vs H Q => ∃ (a : Addr) (ns : List Int), vs = [V.ref a] ∧ IntsV K H a ns ∧ 0 < ns.length ∧ ∀ m, m ∈ ns → (∀ y, y ∈ ns → m ≤ y) → Q (.int m) H
theorem nth_in {ns : List Int} {k : Nat} (h : k < ns.length) : nth ns k ∈ ns := by
  rw [nth_get h]
  exact List.getElem_mem h
theorem in_nth {ns : List Int} {y : Int} (h : y ∈ ns) : ∃ k, k < ns.length ∧ nth ns k = y := by
  obtain ⟨k, hk, e⟩ := List.getElem_of_mem h
  exact ⟨k, hk, by rw [nth_get hk, e]⟩
theorem cr_maxA (hc : X.calm = true) : CallR X (.builtin "max") (rMaxA X.K) := fun pins s σ H vs us Q I r ⟨a, ns, ev, hs, hne, q⟩ => by
  subst ev
  rcases hs with hs | hs
  · exact cr_max hc pins s σ H _ us Q I r ⟨a, ns, rfl, hs, hne, q⟩
  obtain ⟨its, rv, hl, _⟩ := I.tuple hs
  have len := ints_len rv
  rw [Vals.ref1 r]
  refine call_max_walkH (PySem.W.iter_tupleW (A := X.A.in1) (I.ok.hd hc) hl fun s2 e W st hb hw hk => ?_)
  refine ⟨_, _, _, _, _, _, _, s.heap, fun i j => decide (nth ns i > nth ns j), rfl, W, st, hb, by rw [len]; exact hne, hw, hk, fun i j vi vj z P F _ hi hj => CmpOf.ints_gt (nth ns) (ints_at rv) i j vi vj z P F hi hj, fun v s' hv m => ?_⟩
  obtain ⟨h', tk, rfl, old⟩ := PySem.W.moved_old e rfl m
  obtain ⟨t, rfl⟩ := ints_at rv _ v hv
  have b := argBest_gt (nth ns) (its.toArray.size - 1)
  refine ⟨.int _, H, I.kept old, ⟨t, rfl⟩, q _ (nth_in (by omega)) fun y hy => ?_⟩
  obtain ⟨k, hk, rfl⟩ := in_nth hy
  exact b.2 k (by omega)
theorem cr_minA (hc : X.calm = true) : CallR X (.builtin "min") (rMinA X.K) := fun pins s σ H vs us Q I r ⟨a, ns, ev, hs, hne, q⟩ => by
  subst ev
  rcases hs with hs | hs
  · exact cr_min hc pins s σ H _ us Q I r ⟨a, ns, rfl, hs, hne, q⟩
  obtain ⟨its, rv, hl, _⟩ := I.tuple hs
  have len := ints_len rv
  rw [Vals.ref1 r]
  refine call_min_walkH (PySem.W.iter_tupleW (A := X.A.in1) (I.ok.hd hc) hl fun s2 e W st hb hw hk => ?_)
  refine ⟨_, _, _, _, _, _, _, s.heap, fun i j => decide (nth ns i < nth ns j), rfl, W, st, hb, by rw [len]; exact hne, hw, hk, fun i j vi vj z P F _ hi hj => CmpOf.ints_lt (nth ns) (ints_at rv) i j vi vj z P F hi hj, fun v s' hv m => ?_⟩
  obtain ⟨h', tk, rfl, old⟩ := PySem.W.moved_old e rfl m
  obtain ⟨t, rfl⟩ := ints_at rv _ v hv
  have b := argBest_lt (nth ns) (its.toArray.size - 1)
  refine ⟨.int _, H, I.kept old, ⟨t, rfl⟩, q _ (nth_in (by omega)) fun y hy => ?_⟩
  obtain ⟨k, hk, rfl⟩ := in_nth hy
  exact b.2 k (by omega)
end
/-! ### sorted(d), the keys of d pairs of ints -/
section
variable {prog : Program} {w : World} {A : Around} {E : Value → Shared → Prop} {s : Shared}
/-- sorted(x): x is something that can be collected, and what is collected can be sorted -/
theorem sorted_of {x : Value} {Q : Value → Shared → Prop} (P : List Value → Prop) (small : ∀ vs, P vs → vs.length ≤ sizeLine)
    (col : ∀ R : List Value → Shared → Prop, (∀ g t vs, (∀ b o, s.heap.get? b = some o → g.get? b = some o) → P vs → R vs { s with heap := g, toks := t }) → wpAny (model prog w) A.in1 (collect x) R E s)
    (ord : ∀ vs, P vs → 2 ≤ vs.length → ∀ (z : Shared) (a : Addr), z.heap.get? a = some (seqObj "list" vs.toArray 0) → (∀ b o, s.heap.get? b = some o → z.heap.get? b = some o) → Srt.Sortable prog w A.in1.in1 z a vs)
    (fin : ∀ (vs out : List Value) (g g2 : Heap) (t : Nat), P vs → out.Perm vs → (∀ b o, s.heap.get? b = some o → g.get? b = some o) → (∀ b o, g.get? b = some o → g2.get? b = some o) → (∃ n, g2.get? g.objs.size = some (seqObj "list" out.toArray n)) → Q (.ref g.objs.size) { s with heap := g2, toks := t }) :
    wpAny (model prog w) A (call (.builtin "sorted") [x]) Q E s := by
  apply Calls.call_function_entry kind_sorted plain_sorted entry_sorted (args_sorted1 x)
  unfold Builtin.«sorted»
  refine wpAny_bind (wpAny_pure (wpAny_bind (col _ fun g t vs old hp => wpAny_bind (wpAny_newList ?_ (small vs hp)))))
  have at0 : (g.push (seqObj "list" vs.toArray 0)).get? g.objs.size = some (seqObj "list" vs.toArray 0) := Heap.get?_push_size _ rfl
  have up : ∀ b o, s.heap.get? b = some o → (g.push (seqObj "list" vs.toArray 0)).get? b = some o := fun b o e => Heap.get?_push_of_some _ (old b o e)
  refine wpAny_bind (wpAny_holding (wpAny_call_entry slot_list_sort ⟨_, at0, rfl⟩ entry_list_sort (Srt.list_sort_any (s := { s with heap := g.push (seqObj "list" vs.toArray 0), toks := t }) at0 (small vs hp) (fun two => ord vs hp two _ _ at0 up) fun out perm => ⟨_, rfl, wpAny_pure ⟨_, rfl, ?_⟩⟩) (args_list_sort _)))
  refine fin vs out g _ t hp perm old (fun b o e => ?_) (sortedHeap_at at0)
  have lt := Heap.lt_size e
  rw [sortedHeap_old (Nat.ne_of_lt lt) (by rw [size_push']; exact Nat.lt_succ_of_lt lt)]
  exact Heap.get?_push_of_some _ e
theorem items_keys {es : Array DictEntry} {acc : Array Value} (it : ItemsOf (fun i v => ∃ en : DictEntry, es[i]? = some en ∧ v = en.key) acc es.size) : acc = es.map (·.key) := by
  refine Array.ext (by simpa using it.1) fun i h1 h2 => ?_
  obtain ⟨en, e1, e2⟩ := it.2 i acc[i] (Array.getElem?_eq_getElem h1)
  rw [Array.getElem?_eq_getElem (show i < es.size by simpa using h2)] at e1
  cases e1
  rw [e2, Array.getElem_map]
end
theorem pair_keys {H : Hp} : ∀ {kvs : List (List Key × V)} {bs : List Addr}, Paired (fun p b => H b = some (.tup (p.1.map kV))) kvs bs → (∀ kv ∈ kvs, ∃ i j : Int, kv.1 = [.inl i, .inl j]) → ∀ b ∈ bs, ∃ i j : Int, H b = some (.tup [.int i, .int j])
  | _, _, .nil, _, b, hb => nomatch hb
  | _, _, .cons h t, hq, b, hb => by
    cases hb with
    | head =>
      obtain ⟨i, j, e⟩ := hq _ (List.mem_cons_self ..)
      exact ⟨i, j, by rw [h, e]; rfl⟩
    | tail _ hb => exact pair_keys t (fun kv hkv => hq kv (List.mem_cons_of_mem _ hkv)) b hb
section
variable {X : Cx}
theorem call_sortedDT (hc : X.calm = true) : CallR X (.builtin "sorted") (fun xs H Q => ∃ (d : Addr) (kvs : List (List Key × V)), xs = [.ref d] ∧ Rd H d (.dT kvs) ∧ (∀ kv ∈ kvs, ∃ i j : Int, kv.1 = [.inl i, .inl j]) ∧
    ∀ (bs : List Addr) (ys : List V) (p : Addr), IsKeys H kvs bs → ys.Perm (bs.map V.ref) → H p = none → Q (.ref p) (upd H p (.lst ys))) := fun pins s σ H xs us Q I r ⟨d, kvs, ex, hd, hpair, q⟩ => by
  subst ex
  rw [Vals.ref1 r]
  obtain ⟨z, hs, ks, pr, o, es, ep, ho, hx, hdt, he, -⟩ := (show ObjOk X.prog X.w H s.heap d (.dT kvs) from hd.ok I.hok)
  have keys := isKeys_of pr
  have many : es.size ≤ sizeLine := by rw [size_of_entries he, ← Paired.length pr]; exact z
  have all := pair_keys keys hpair
  generalize hB : ks.map (fun x => x.2.1) = bs at keys all
  have hE : (es.map (·.key)).toList = bs.map Value.ref := by
    rw [← hB, Array.toList_map, he, List.map_map, List.map_map]
    rfl
  have cnt : (bs.map Value.ref).length ≤ sizeLine := by rw [← hE, Array.length_toList, Array.size_map]; exact many
  refine sorted_of (fun vs => vs = bs.map Value.ref) (fun vs e => e ▸ cnt) (fun R h => ?_) (fun vs e two y a ha up => ?_) fun vs out g g2 t e perm up up2 hg => ?_
  · exact PySem.W.kdu_collect (kdl_raw hs hx hdt) (I.ok.hd hc) ho many fun g t acc up it => h g t _ up (by rw [items_keys it, hE])
  · subst e
    refine Srt.pairs_sortable (by omega) (fun v hv => ?_) fun o' e' cl => ?_
    · obtain ⟨b, hb, rfl⟩ := List.mem_map.mp hv
      obtain ⟨i, j, hij⟩ := all b hb
      obtain ⟨_, cs, rc, oc, h1, h2, n, h3⟩ := I.hok _ _ hij
      obtain ⟨c1, c2, rfl, ⟨t1, rfl⟩, t2, rfl⟩ := vals2 rc
      exact ⟨i, j, b, oc, t1, t2, n, rfl, up _ _ h1, h2, h3⟩
    · rw [ha] at e'
      cases e'
      exact absurd (Value.type.inj cl) (by decide)
  · subst e
    have refs : ∀ u ∈ out, ∃ a, u = Value.ref a := fun u hu => by
      obtain ⟨b, -, rfl⟩ := List.mem_map.mp (perm.mem_iff.mp hu)
      exact ⟨b, rfl⟩
    obtain ⟨n, hg⟩ := hg
    have len : (out.map backV).length ≤ sizeLine := by rw [List.length_map, perm.length_eq]; exact cnt
    have I1 : Inv X pins σ H { s with heap := g } := I.kept (t' := s.toks) up
    refine ⟨.ref g.objs.size, upd H g.objs.size (.lst (out.map backV)), I1.laid (t' := t) up2 (Nat.le_refl _) (show ObjOk X.prog X.w _ _ _ (.lst (out.map backV)) from ⟨len, out, n, vals_back refs, hg⟩), rfl, q bs _ _ keys ?_ (I1.hok.fresh (Nat.le_refl _))⟩
    rw [show bs.map V.ref = (bs.map Value.ref).map backV by rw [List.map_map]; rfl]
    exact perm.map backV
end
/-! ### beginnings -/
def begL (f : Nat → Nat → Rat) (bound : Rat) : Nat → List Nat
  | 0 => [0]
  | k + 1 => if (begL f bound k).any (fun b => decide (f b (k + 1) < bound)) = true then begL f bound k ++ [k + 1] else begL f bound k
theorem begL_le (f : Nat → Nat → Rat) (bound : Rat) : ∀ k, ∀ b ∈ begL f bound k, b ≤ k
  | 0, b, h => by
    rw [show begL f bound 0 = [0] from rfl, List.mem_singleton] at h
    omega
  | k + 1, b, h => by
    rw [begL] at h
    split at h
    · rcases List.mem_append.mp h with h | h
      · have := begL_le f bound k b h
        omega
      · rw [List.mem_singleton] at h
        omega
    · have := begL_le f bound k b h
      omega
theorem begL_len (f : Nat → Nat → Rat) (bound : Rat) : ∀ k, (begL f bound k).length ≤ k + 1
  | 0 => Nat.le_refl _
  | k + 1 => by
    have ih := begL_len f bound k
    rw [begL]
    split
    · rw [List.length_append]
      show _ + 1 ≤ _
      omega
    · omega
def natV (xs : List Nat) : List V := xs.map fun i : Nat => V.int (i : Int)
@[irreducible] def spCheckB (K : PySem.W.Frag) : Sp := fun vs H Q _ => ∃ (v : V) (x : Rat), vs = [v] ∧ PtV K H v x ∧ Sz 3900 x ∧ ¬ x < 1 ∧ ∀ r H', Same H H' → r = V.non → Q r H'
@[irreducible] def spBegs (K : PySem.W.Frag) : Sp := fun vs H Q _ => ∃ (v u : V) (a : Addr) (b : Bx) (ws : List Int) (bound : Rat) (d : Bool), vs = [v, .ref a, u, .str (sd d)] ∧ BxV K H v b ∧ b.Ok 450 ∧ IntsV K H a ws ∧ WOk ws ∧ PtV K H u bound ∧ Sz 3900 bound ∧ ¬ bound < 1 ∧ ∀ L H', H L = none → Same H H' → H' L = some (.lst (natV (begL (fSh b ws d) bound ws.length))) → Q (.ref L) H'
@[irreducible] def spLBegs (K : PySem.W.Frag) : Sp := fun vs H Q _ => ∃ (u : V) (D : Addr) (n m : Nat) (f : Nat → Nat → Rat) (bound : Rat), vs = [.ref D, .int n, u] ∧ DSh K n (AllR n) f m H D ∧ n ≤ 12 ∧ (∀ i j, AllR n i j → Sz 3900 (f i j)) ∧ PtV K H u bound ∧ Sz 3900 bound ∧ ∀ L H', H L = none → Same H H' → H' L = some (.lst (natV (begL f bound n))) → Q (.ref L) H'
@[irreducible] def spBound (K : PySem.W.Frag) : Sp := fun vs H Q _ => ∃ c : Addr, vs = [.ref c] ∧ Bag H c ∧ ∀ v q H', PtV K H' v q → ¬ q < 1 → Sz 200 q → Bag H' c → Kp c H H' → Q v H'
section
variable {K : PySem.W.Frag} {H : Hp} {a : Addr} {ws : List Int} {Q : VK} {E : XK} {vs : List V} {b : Bx} {v u : V} {d : Bool} {n m : Nat}
theorem checkb_step {x : Rat} (hv : PtV K H v x) (hz : Sz n x) (hn : n ≤ 3900) (h1 : ¬ x < 1) (q : ∀ H', Same H H' → Q .non H') (hvs : vs = [v] := by rfl) : spCheckB K vs H Q E := by
  unfold spCheckB
  exact ⟨v, x, hvs, hv, hz.mono hn, h1, fun r H' s e => by rw [e]; exact q H' s⟩
theorem begs_step {bound : Rat} (hv : BxV K H v b) (hb : b.Ok n) (hn : n ≤ 450) (h : IntsV K H a ws) (hw : WOk ws) (hu : PtV K H u bound) (hz : Sz m bound) (hm : m ≤ 3900) (h1 : ¬ bound < 1) (q : ∀ L H', H L = none → Same H H' → H' L = some (.lst (natV (begL (fSh b ws d) bound ws.length))) → Q (.ref L) H') (hvs : vs = [v, .ref a, u, .str (sd d)] := by rfl) : spBegs K vs H Q E := by
  unfold spBegs
  exact ⟨v, u, a, b, ws, bound, d, hvs, hv, hb.mono hn, h, hw, hu, hz.mono hm, h1, q⟩
theorem lbegs_step {D : Addr} {f : Nat → Nat → Rat} {bound : Rat} {k : Nat} (h : DSh K n (AllR n) f m H D) (hn : n ≤ 12) (hz : ∀ i j, AllR n i j → Sz 3900 (f i j)) (hu : PtV K H u bound) (zb : Sz k bound) (hk : k ≤ 3900) (q : ∀ L H', H L = none → Same H H' → H' L = some (.lst (natV (begL f bound n))) → Q (.ref L) H') (hvs : vs = [.ref D, .int n, u] := by rfl) : spLBegs K vs H Q E := by
  unfold spLBegs
  exact ⟨u, D, n, m, f, bound, hvs, h, hn, hz, hu, zb.mono hk, q⟩
theorem bound_step {c : Addr} (hb : Bag H c) (q : ∀ v q H', PtV K H' v q → ¬ q < 1 → Sz 200 q → Bag H' c → Kp c H H' → Q v H') (hvs : vs = [.ref c] := by rfl) : spBound K vs H Q E := by
  unfold spBound
  exact ⟨c, hvs, hb, q⟩
end
theorem fSh_ge {b : Bx} {ws : List Int} {n : Nat} (hb : b.Ok n) (hW : WOk ws) (d : Bool) {i j : Nat} (h : AllR ws.length i j) : ¬ fSh b ws d i j < 1 := by
  have h1 := h.1
  have h2 := h.2
  have := rowShape_ge hb hW (first := i) (size := j - i) (by omega) (by omega) d
  unfold fSh
  grind
theorem divInt_ge1 {a c : Int} (h0 : 0 < c) (h : c ≤ a) : ¬ Rat.divInt a c < 1 := by
  have c0 := int_pos h0
  have e : Rat.divInt a c * (c : Rat) = (a : Rat) := by
    rw [Rat.divInt_eq_div, Rat.div_def, Rat.mul_assoc, Rat.inv_mul_cancel _ (by grind), Rat.mul_one]
  have a1 : (c : Rat) ≤ (a : Rat) := Rat.intCast_le_intCast.mpr h
  intro z
  have := Rat.mul_lt_mul_of_pos_right z c0
  grind
theorem one_ge : ¬ (1 : Rat) < 1 := by decide
/-- all the shapes that a dict holds, by its keys -/
theorem DSh.all {K : PySem.W.Frag} {N : Nat} {f : Nat → Nat → Rat} {m : Nat} {H : Hp} {D : Addr} (x : DSh K N (AllR N) f m H D) :
    ∃ kvs : List (List Key × V), H D = some (.dT kvs) ∧ kvs.length ≤ m ∧ (1 ≤ N → kvs ≠ []) ∧ (∀ kv ∈ kvs, ∃ i j : Int, kv.1 = [.inl i, .inl j]) ∧ ∀ kv ∈ kvs, ∃ i j, kv.1 = ky i j ∧ AllR N i j := by
  obtain ⟨kvs, h1, h2, hk, h3⟩ := x
  refine ⟨kvs, h1, h2, fun hN z => ?_, fun kv hkv => ?_, hk⟩
  · subst z
    obtain ⟨v, h4, _⟩ := h3 0 1 ⟨by omega, hN⟩
    cases h4
  · obtain ⟨i, j, e, _⟩ := hk kv hkv
    exact ⟨i, j, e⟩
theorem isKeys_mem {H : Hp} : ∀ {kvs : List (List Key × V)} {bs : List Addr}, IsKeys H kvs bs → ∀ b ∈ bs, ∃ kv ∈ kvs, H b = some (.tup (kv.1.map kV)) := by
  intro kvs bs hp
  unfold IsKeys at hp
  induction hp with
  | nil => intro b hb; cases hb
  | cons hh _ ih =>
    intro b hb
    rcases List.mem_cons.mp hb with rfl | hb
    · exact ⟨_, List.mem_cons_self, hh⟩
    · obtain ⟨kv, h1, h2⟩ := ih b hb
      exact ⟨kv, List.mem_cons_of_mem _ h1, h2⟩
theorem isKeys_len {H : Hp} {kvs : List (List Key × V)} {bs : List Addr} (h : IsKeys H kvs bs) : kvs.length = bs.length := Paired.length h
end Cc
namespace Cc
open PySem PySem.Spec PyProof.Rows L2
/-! ### k in xs, xs a list of ints -/
theorem all_flat : ∀ xs : List Int, (xs.map V.int).all flatV = true
  | [] => rfl
  | x :: r => by
    rw [List.map_cons, List.all_cons, all_flat r]
    rfl
theorem inV_ints (k : Int) : ∀ xs : List Int, inV (.int k) (xs.map V.int) = decide (k ∈ xs)
  | [] => rfl
  | x :: r => by
    have ih := inV_ints k r
    unfold inV at ih ⊢
    rw [List.map_cons, List.any_cons, ih]
    show ((x == k) || decide (k ∈ r)) = decide (k ∈ x :: r)
    by_cases e : x = k
    · subst e
      simp
    · have e2 : ¬ k = x := fun z => e z.symm
      simp [e, e2]
def rInI (K : PySem.W.Frag) : R2 := fun x y H Q => ∃ (k : Int) (p : Addr) (xs : List Int), x = .int k ∧ y = .ref p ∧ SqL K H p (xs.map V.int) ∧ ∀ r, r = decide (k ∈ xs) → Q (.bl r) H
def rNotInI (K : PySem.W.Frag) : R2 := fun x y H Q => ∃ (k : Int) (p : Addr) (xs : List Int), x = .int k ∧ y = .ref p ∧ SqL K H p (xs.map V.int) ∧ ∀ r, r = (!decide (k ∈ xs)) → Q (.bl r) H
theorem op_inI {X : Cx} : OpR X (compareOp .In) (rInI X.K) := by
  intro pins s σ H x y v u Q I rx ry h
  obtain ⟨k, p, xs, rfl, rfl, hs, q⟩ := h
  refine op_in_seq pins s σ H _ _ v u Q I rx ry ⟨p, _, rfl, .inl hs, rfl, all_flat xs, ?_⟩
  show Q (.bl (inV (.int k) (xs.map V.int))) H
  exact q _ (inV_ints k xs)
theorem op_notInI {X : Cx} : OpR X (compareOp .NotIn) (rNotInI X.K) := by
  intro pins s σ H x y v u Q I rx ry h
  obtain ⟨k, p, xs, rfl, rfl, hs, q⟩ := h
  refine op_notIn_seq pins s σ H _ _ v u Q I rx ry ⟨p, _, rfl, .inl hs, rfl, all_flat xs, ?_⟩
  show Q (.bl (!inV (.int k) (xs.map V.int))) H
  exact q _ (by rw [inV_ints])
/-! ### what shuts a bound -/
def ShutP (f : Nat → Nat → Rat) (n : Nat) (bound : Rat) (xs : List Int) : Prop := (0 : Int) ∈ xs ∧ (n : Int) ∉ xs ∧ ∀ i j, AllR n i j → (i : Int) ∈ xs → (j : Int) ∉ xs → ¬ f i j < bound
@[irreducible] def spShuts (K : PySem.W.Frag) : Sp := fun vs H Q _ => ∃ (v u : V) (a S : Addr) (b : Bx) (ws xs : List Int) (bound : Rat) (d : Bool), vs = [v, .ref a, u, .ref S, .str (sd d)] ∧ BxV K H v b ∧ b.Ok 450 ∧ SqL K H a (ws.map V.int) ∧ WOk ws ∧ PtV K H u bound ∧ Sz 3900 bound ∧ ¬ bound < 1 ∧ SqL K H S (xs.map V.int) ∧ xs.length ≤ 60 ∧ ∀ (k : Bool) H', Same H H' → (k = true ↔ ShutP (fSh b ws d) ws.length bound xs) → Q (.bl k) H'
@[irreducible] def spLShut (K : PySem.W.Frag) : Sp := fun vs H Q _ => ∃ (u : V) (D S : Addr) (n m : Nat) (f : Nat → Nat → Rat) (bound : Rat) (xs : List Int), vs = [.ref D, .int n, u, .ref S] ∧ DSh K n (AllR n) f m H D ∧ n ≤ 12 ∧ (∀ i j, AllR n i j → Sz 3900 (f i j)) ∧ PtV K H u bound ∧ Sz 3900 bound ∧ SqL K H S (xs.map V.int) ∧ ∀ (k : Bool) H', Same H H' → (k = true ↔ ShutP f n bound xs) → Q (.bl k) H'
section
variable {K : PySem.W.Frag} {H : Hp} {a S : Addr} {ws xs : List Int} {Q : VK} {E : XK} {vs : List V} {b : Bx} {v u : V} {d : Bool} {n m : Nat}
theorem shuts_step {bound : Rat} (hv : BxV K H v b) (hb : b.Ok n) (hn : n ≤ 450) (h : SqL K H a (ws.map V.int)) (hw : WOk ws) (hu : PtV K H u bound) (hz : Sz m bound) (hm : m ≤ 3900) (h1 : ¬ bound < 1) (hS : SqL K H S (xs.map V.int)) (hx : xs.length ≤ 60) (q : ∀ (k : Bool) H', Same H H' → (k = true ↔ ShutP (fSh b ws d) ws.length bound xs) → Q (.bl k) H') (hvs : vs = [v, .ref a, u, .ref S, .str (sd d)] := by rfl) : spShuts K vs H Q E := by
  unfold spShuts
  exact ⟨v, u, a, S, b, ws, xs, bound, d, hvs, hv, hb.mono hn, h, hw, hu, hz.mono hm, h1, hS, hx, q⟩
theorem lshut_step {D : Addr} {f : Nat → Nat → Rat} {bound : Rat} {k : Nat} (h : DSh K n (AllR n) f m H D) (hn : n ≤ 12) (hz : ∀ i j, AllR n i j → Sz 3900 (f i j)) (hu : PtV K H u bound) (zb : Sz k bound) (hk : k ≤ 3900) (hS : SqL K H S (xs.map V.int)) (q : ∀ (k : Bool) H', Same H H' → (k = true ↔ ShutP f n bound xs) → Q (.bl k) H') (hvs : vs = [.ref D, .int n, u, .ref S] := by rfl) : spLShut K vs H Q E := by
  unfold spLShut
  exact ⟨u, D, S, n, m, f, bound, xs, hvs, h, hn, hz, hu, zb.mono hk, hS, q⟩
end
theorem isKeys_get {H : Hp} : ∀ {kvs : List (List Key × V)} {bs : List Addr}, IsKeys H kvs bs → ∀ kv ∈ kvs, ∃ b ∈ bs, H b = some (.tup (kv.1.map kV)) := by
  intro kvs bs hp
  unfold IsKeys at hp
  induction hp with
  | nil => intro b hb; cases hb
  | cons hh _ ih =>
    intro kv hkv
    rcases List.mem_cons.mp hkv with rfl | hkv
    · exact ⟨_, List.mem_cons_self, hh⟩
    · obtain ⟨b, h1, h2⟩ := ih kv hkv
      exact ⟨b, List.mem_cons_of_mem _ h1, h2⟩
theorem valV_mem {kvs : List (List Key × V)} {k : List Key} {v : V} (h : valV kvs k = some v) : ∃ kv ∈ kvs, kv.1 = k := by
  have e := valV_any k kvs
  rw [h] at e
  obtain ⟨kv, h1, h2⟩ := List.any_eq_true.mp e
  exact ⟨kv, h1, of_decide_eq_true h2⟩
end Cc
namespace Cc
open PySem PySem.Spec PyProof.Rows L2
/-! ### the best sizes -/
/-- the least worst shapes behind each place are one and the same, however they are got -/
theorem Bst.uniq {f : Nat → Nat → Rat} {n : Nat} {g g' : Nat → Rat} (h : Bst f n 0 g) (h' : Bst f n 0 g') : ∀ k, k ≤ n → g (n - k) = g' (n - k)
  | 0, _ => by rw [Nat.sub_zero, h.e, h'.e]
  | k + 1, hk => by
    have low : ∀ {p q : Nat → Rat}, Bst f n 0 p → Bst f n 0 q → (∀ j, j ≤ k → p (n - j) = q (n - j)) → p (n - (k + 1)) ≤ q (n - (k + 1)) := fun {p q} hp hq ih => by
      obtain ⟨e, h1, h2, h3⟩ := hq.hit (n - (k + 1)) (by omega) (by omega)
      have h4 := hp.le (n - (k + 1)) (by omega) (by omega) e h1 h2
      have h5 := ih (n - e) (by omega)
      rw [show n - (n - e) = e by omega] at h5
      rw [h3, ← h5]
      exact h4
    have ih : ∀ j, j ≤ k → g (n - j) = g' (n - j) := fun j hj => Bst.uniq h h' j (by omega)
    exact Rat.le_antisymm (low h h' ih) (low h' h fun j hj => (ih j hj).symm)
theorem Bst.uniq0 {f : Nat → Nat → Rat} {n : Nat} {g g' : Nat → Rat} (h : Bst f n 0 g) (h' : Bst f n 0 g') : g 0 = g' 0 := by
  have := Bst.uniq h h' n (Nat.le_refl _)
  rw [Nat.sub_self] at this
  exact this
/-- from e on: the first end of a row behind which the rest is within M too -/
def bEnd (f : Nat → Nat → Rat) (g : Nat → Rat) (M : Rat) (n b e : Nat) : Nat := if e < n ∧ M < gr (f b e) (g e) then bEnd f g M n b (e + 1) else e
termination_by n - e
section
variable {f : Nat → Nat → Rat} {g : Nat → Rat} {M : Rat} {n b : Nat}
theorem bEnd_go {e : Nat} (h : e < n ∧ M < gr (f b e) (g e)) : bEnd f g M n b e = bEnd f g M n b (e + 1) := by rw [bEnd, if_pos h]
theorem bEnd_stop {e : Nat} (h : ¬ (e < n ∧ M < gr (f b e) (g e))) : bEnd f g M n b e = e := by rw [bEnd, if_neg h]
theorem bEnd_ge : ∀ k e, n - e ≤ k → e ≤ bEnd f g M n b e
  | 0, e, h => by
    rw [bEnd_stop (by omega)]
    exact Nat.le_refl _
  | k + 1, e, h => by
    by_cases c : e < n ∧ M < gr (f b e) (g e)
    · rw [bEnd_go c]
      have := bEnd_ge k (e + 1) (by omega)
      omega
    · rw [bEnd_stop c]
      exact Nat.le_refl _
theorem bEnd_le : ∀ k e, n - e ≤ k → e ≤ n → bEnd f g M n b e ≤ n
  | 0, e, h, h2 => by
    rw [bEnd_stop (by omega)]
    exact h2
  | k + 1, e, h, h2 => by
    by_cases c : e < n ∧ M < gr (f b e) (g e)
    · rw [bEnd_go c]
      exact bEnd_le k (e + 1) (by omega) (by omega)
    · rw [bEnd_stop c]
      exact h2
/-- what lies ahead of it is over M -/
theorem bEnd_over : ∀ k e, n - e ≤ k → ∀ e', e ≤ e' → e' < bEnd f g M n b e → M < gr (f b e') (g e')
  | 0, e, h, e', h1, h2 => by
    rw [bEnd_stop (by omega)] at h2
    omega
  | k + 1, e, h, e', h1, h2 => by
    by_cases c : e < n ∧ M < gr (f b e) (g e)
    · rw [bEnd_go c] at h2
      by_cases z : e' = e
      · rw [z]
        exact c.2
      · exact bEnd_over k (e + 1) (by omega) e' (by omega) h2
    · rw [bEnd_stop c] at h2
      omega
/-- and it is within M, where there is such an end -/
theorem bEnd_hit : ∀ k e, n - e ≤ k → e ≤ n → (∃ e', e ≤ e' ∧ e' ≤ n ∧ ¬ M < gr (f b e') (g e')) → ¬ M < gr (f b (bEnd f g M n b e)) (g (bEnd f g M n b e))
  | 0, e, h, h2, ⟨e', h3, h4, h5⟩ => by
    rw [bEnd_stop (by omega), show e = e' by omega]
    exact h5
  | k + 1, e, h, h2, ⟨e', h3, h4, h5⟩ => by
    by_cases c : e < n ∧ M < gr (f b e) (g e)
    · rw [bEnd_go c]
      refine bEnd_hit k (e + 1) (by omega) (by omega) ⟨e', ?_, h4, h5⟩
      by_cases z : e' = e
      · rw [z] at h5
        exact absurd c.2 h5
      · omega
    · rw [bEnd_stop c]
      by_cases z : e < n
      · exact fun w => c ⟨z, w⟩
      · rw [show e = e' by omega]
        exact h5
end
/-- the best sizes from b on -/
def bestL (f : Nat → Nat → Rat) (g : Nat → Rat) (M : Rat) (n b : Nat) : List Int := if b < n then ((bEnd f g M n b (b + 1) - b : Nat) : Int) :: bestL f g M n (bEnd f g M n b (b + 1)) else []
termination_by n - b
decreasing_by
  have := bEnd_ge (f := f) (g := g) (M := M) (n := n) (b := b) (n - (b + 1)) (b + 1) (Nat.le_refl _)
  omega
section
variable {f : Nat → Nat → Rat} {g : Nat → Rat} {M : Rat} {n : Nat}
theorem bestL_go {b : Nat} (h : b < n) : bestL f g M n b = ((bEnd f g M n b (b + 1) - b : Nat) : Int) :: bestL f g M n (bEnd f g M n b (b + 1)) := by rw [bestL, if_pos h]
theorem bestL_stop {b : Nat} (h : ¬ b < n) : bestL f g M n b = [] := by rw [bestL, if_neg h]
theorem best_ok : ∀ k b, n - b ≤ k → b ≤ n → (∀ x ∈ bestL f g M n b, 1 ≤ x) ∧ (bestL f g M n b).sum = (n : Int) - b
  | 0, b, h, hb => by
    rw [bestL_stop (by omega)]
    refine ⟨by simp, ?_⟩
    rw [List.sum_nil]
    omega
  | k + 1, b, h, hb => by
    by_cases c : b < n
    · have g1 := bEnd_ge (f := f) (g := g) (M := M) (n := n) (b := b) (n - (b + 1)) (b + 1) (Nat.le_refl _)
      have g2 := bEnd_le (f := f) (g := g) (M := M) (n := n) (b := b) (n - (b + 1)) (b + 1) (Nat.le_refl _) (by omega)
      obtain ⟨h1, h2⟩ := best_ok k (bEnd f g M n b (b + 1)) (by omega) g2
      rw [bestL_go c]
      refine ⟨fun x hx => ?_, ?_⟩
      · rcases List.mem_cons.mp hx with rfl | hx
        · omega
        · exact h1 x hx
      · rw [List.sum_cons, h2]
        omega
    · rw [bestL_stop c]
      refine ⟨by simp, ?_⟩
      rw [List.sum_nil]
      omega
theorem best_sok : SOk (bestL f g M n 0) n := by
  obtain ⟨h1, h2⟩ := best_ok (f := f) (g := g) (M := M) (n := n) n 0 (by omega) (by omega)
  exact ⟨h1, by rw [h2]; omega⟩
/-- the sizes hang on g at the places alone -/
theorem bEnd_congr {g' : Nat → Rat} (h : ∀ e, e ≤ n → g e = g' e) {b : Nat} : ∀ k e, n - e ≤ k → bEnd f g M n b e = bEnd f g' M n b e
  | 0, e, hk => by rw [bEnd_stop (by omega), bEnd_stop (by omega)]
  | k + 1, e, hk => by
    by_cases c : e < n ∧ M < gr (f b e) (g e)
    · rw [bEnd_go (g := g) c, bEnd_go (g := g') (e := e) (by rw [← h e (by omega)]; exact c)]
      exact bEnd_congr h k (e + 1) (by omega)
    · rw [bEnd_stop c, bEnd_stop (fun z => c ⟨z.1, by rw [h e (by omega)]; exact z.2⟩)]
theorem bestL_congr {g' : Nat → Rat} (h : ∀ e, e ≤ n → g e = g' e) : ∀ k b, n - b ≤ k → bestL f g M n b = bestL f g' M n b
  | 0, b, hk => by rw [bestL_stop (by omega), bestL_stop (by omega)]
  | k + 1, b, hk => by
    by_cases c : b < n
    · have g1 := bEnd_ge (f := f) (g := g') (M := M) (n := n) (b := b) (n - (b + 1)) (b + 1) (Nat.le_refl _)
      rw [bestL_go (g := g) c, bestL_go (g := g') c, bEnd_congr h (n - (b + 1)) (b + 1) (Nat.le_refl _), bestL_congr h k _ (by omega)]
    · rw [bestL_stop c, bestL_stop c]
end
/-- a row from a place within M leads on within M -/
theorem Bst.on {f : Nat → Nat → Rat} {g : Nat → Rat} {n b : Nat} {M : Rat} (h : Bst f n 0 g) (hb : b < n) (hM : g b ≤ M) : ∃ e, b + 1 ≤ e ∧ e ≤ n ∧ ¬ M < gr (f b e) (g e) := by
  obtain ⟨e, h1, h2, h3⟩ := h.hit b (Nat.zero_le _) hb
  exact ⟨e, h1, h2, by rw [← h3]; grind⟩
@[irreducible] def spBest (K : PySem.W.Frag) : Sp := fun vs H Q _ => ∃ (v : V) (a : Addr) (b : Bx) (ws : List Int) (d : Bool), vs = [v, .ref a, .str (sd d)] ∧ BxV K H v b ∧ b.Ok 450 ∧ IntsV K H a ws ∧ WOk ws ∧
  ∀ t g H', Same H H' → Bst (fSh b ws d) ws.length 0 g → H' t = some (.tup ((bestL (fSh b ws d) g (g 0) ws.length 0).map V.int)) → Q (.ref t) H'
theorem best_step {K : PySem.W.Frag} {H : Hp} {a : Addr} {ws : List Int} {Q : VK} {E : XK} {vs : List V} {b : Bx} {v : V} {d : Bool} {n : Nat} (hv : BxV K H v b) (hb : b.Ok n) (hn : n ≤ 450) (h : IntsV K H a ws) (hw : WOk ws)
    (q : ∀ t g H', Same H H' → Bst (fSh b ws d) ws.length 0 g → H' t = some (.tup ((bestL (fSh b ws d) g (g 0) ws.length 0).map V.int)) → Q (.ref t) H') (hvs : vs = [v, .ref a, .str (sd d)] := by rfl) : spBest K vs H Q E := by
  unfold spBest
  exact ⟨v, a, b, ws, d, hvs, hv, hb.mono hn, h, hw, q⟩
end Cc
namespace Cc
open PySem PySem.Spec PyProof.Rows L2
/-! ### min of a list of data -/
def rMinD (K : PySem.W.Frag) : List V → Hp → VK → Prop := fun vs H Q => ∃ (l : Addr) (us : List V) (x : PyData) (xs : List PyData), vs = [V.ref l] ∧ SqL K H l us ∧ DpAll K H us (x :: xs) ∧ PySem.W.AlikeAll (x :: xs) ∧ PyData.depthAll (x :: xs) ≤ 60 ∧
  ∀ (i : Nat) (u : V), us[i]? = some u → Dp K H u (PySem.W.minD x xs) → Q u H
theorem cr_minD {X : Cx} (hc : X.calm = true) (hu : X.A.units + 64 < cLine) : CallR X (.builtin "min") (rMinD X.K) := by
  intro pins s σ H vs us Q I r h
  obtain ⟨l, ys, x, xs, rfl, hs, ha, hal, hd, q⟩ := h
  obtain ⟨its, rv, hl, _⟩ := I.list hs
  rw [Vals.ref1 r]
  obtain ⟨as, hr⟩ := Dp.readsAll I (x :: xs) ys its ha rv
  refine PySem.W.min_list_data (I.ok.hd hc) hl.isList hr hal (by omega) fun i v h' tk bs hv rr hk => ?_
  have hv' : its[i]? = some v := by simpa using hv
  obtain ⟨u, hu, ru⟩ : ∃ u, ys[i]? = some u ∧ RelV u v := by
    have hl2 := rv.length
    obtain ⟨hi, _⟩ := List.getElem?_eq_some_iff.mp hv'
    obtain ⟨w, hw, rw⟩ := rv.get (List.getElem?_eq_getElem (show i < ys.length by omega))
    rw [hv'] at hw
    cases hw
    exact ⟨_, List.getElem?_eq_getElem (by omega), rw⟩
  obtain ⟨d, hd', hdp⟩ := dpAll_get ha hu
  obtain ⟨as1, r1⟩ := Dp.reads I d u v hdp ru
  have e := (PySem.Reads.unique (PySem.W.reads_keeps hk r1) _ _ rr).1
  exact ⟨u, H, I.kept hk, ru, q i u hu (e ▸ hdp)⟩
theorem minD_first {x : PyData} : ∀ {xs : List PyData}, (∀ y ∈ xs, PySem.W.dataLt y x = false) → PySem.W.minD x xs = x
  | [], _ => rfl
  | y :: r, h => by
    show PySem.W.minD (if PySem.W.dataLt y x = true then y else x) r = x
    rw [h y List.mem_cons_self]
    exact minD_first fun z hz => h z (List.mem_cons_of_mem _ hz)
/-! ### what leads on, with its cost -/
def sD (c : Int) (ss : List Int) : PyData := .tuple [.int c, .tuple (ss.map .int)]
theorem alikeI : ∀ {ss ts : List Int}, PySem.W.alikeAll (ss.map .int) (ts.map .int) = true
  | [], _ => by simp [PySem.W.alikeAll]
  | _ :: _, [] => by simp [PySem.W.alikeAll]
  | _ :: ss, _ :: ts => by
    rw [List.map_cons, List.map_cons, PySem.W.alikeAll, alikeI]
    simp [PySem.W.alike]
theorem sD_alike {c c' : Int} {ss ts : List Int} : PySem.W.alike (sD c ss) (sD c' ts) = true := by
  simp [sD, PySem.W.alike, PySem.W.alikeAll, alikeI]
theorem sD_lt {c : Int} {i j : Int} {ss ts : List Int} (h : i < j) : PySem.W.dataLt (sD c (j :: ss)) (sD c (i :: ts)) = false := by
  unfold sD
  rw [PySem.W.dataLt_tuple, PySem.W.dataLt_all_yes (by simp [PySem.W.alike]) (by simp [PyData.eqv]), PySem.W.dataLt_all_no (by simp only [PySem.W.alike]; exact alikeI) (by simp only [List.map_cons, PyData.eqv, PyData.eqvAll, Bool.and_eq_false_iff]; left; simp; omega), PySem.W.dataLt_tuple, List.map_cons, List.map_cons, PySem.W.dataLt_all_no (by simp [PySem.W.alike]) (by simp [PyData.eqv]; omega), PySem.W.dataLt_int]
  simp
  omega
theorem sD_depth {c : Int} {ss : List Int} : (sD c ss).depth ≤ 3 := by
  have : ∀ ss : List Int, PyData.depthAll (ss.map .int) ≤ 1 := fun ss => by
    induction ss with
    | nil => simp [PyData.depthAll]
    | cons x r ih =>
      rw [List.map_cons, PyData.depthAll]
      have : (PyData.int x).depth ≤ 1 := by simp [PyData.depth]
      omega
  have := this ss
  simp only [sD, PyData.depth, PyData.depthAll]
  omega
/-! ### a dict by ints -/
def kI (i : Nat) : Key := .inl (i : Int)
theorem kI_inj {i j : Nat} (h : kI i = kI j) : i = j := by
  unfold kI at h
  simp only [Sum.inl.injEq, Int.natCast_inj] at h
  exact h
section
variable {K : PySem.W.Frag} {H H' : Hp} {a b : Addr}
theorem kp_lst {xs : List V} (e : Kp b H H') {u v : HO} (hb : H b = some u) (h : H a = some v) (n : u ≠ v) : H' a = some v := e _ _ h fun z => by
  rw [z, hb] at h
  exact n (Option.some.inj h)
theorem seqT_kpK {xs : List V} {kvs : List (Key × V)} (e : Kp b H H') (hb : H b = some (.dK kvs)) (h : SqT K H a xs) : SqT K H' a xs := by
  rcases h with (h | ⟨o, h⟩) | h
  · exact .inl (.inl (kp_lst (xs := []) e hb h (fun z => nomatch z)))
  · exact .inl (.inr ⟨o, kp_lst (xs := []) e hb h (fun z => nomatch z)⟩)
  · exact .inr h
theorem PtV.kpK {kvs : List (Key × V)} {v : V} {q : Rat} (h : PtV K H v q) (e : Kp b H H') (hb : H b = some (.dK kvs)) : PtV K H' v q := by
  obtain ⟨a, rfl, h⟩ := h
  exact ⟨a, rfl, seqT_kpK e hb h⟩
theorem dgetK {kvs : List (Key × V)} {i : Nat} {v : V} (h : H a = some (.dK kvs)) (e : valV kvs (kI i) = some v) : DGet H a (.int (i : Int)) (some v) := by
  rw [← e]
  exact DGet.k (k := kI i) h
theorem dputK {kvs : List (Key × V)} {i : Nat} {v : V} (h : H a = some (.dK kvs)) (e : kvs.length < 900) : DPut H a (.int (i : Int)) v (upd H a (.dK (putK kvs (kI i) v))) := DPut.k (k := kI i) h (small1000 (by omega))
end
@[irreducible] def spFLeast (K : PySem.W.Frag) : Sp := fun vs H Q _ => ∃ (D : Addr) (n m : Nat) (f : Nat → Nat → Rat), vs = [.ref D, .int n] ∧ DSh K n (AllR n) f m H D ∧ n ≤ 12 ∧ (∀ i j, AllR n i j → Sz 3900 (f i j)) ∧ ∀ u g H', Same H H' → Bst f n 0 g → Sz 3900 (g 0) → PtV K H' u (g 0) → Q u H'
theorem fleast_step {K : PySem.W.Frag} {H : Hp} {Q : VK} {E : XK} {vs : List V} {n m : Nat} {D : Addr} {f : Nat → Nat → Rat} (h : DSh K n (AllR n) f m H D) (hn : n ≤ 12) (hz : ∀ i j, AllR n i j → Sz 3900 (f i j)) (q : ∀ u g H', Same H H' → Bst f n 0 g → Sz 3900 (g 0) → PtV K H' u (g 0) → Q u H') (hvs : vs = [.ref D, .int n] := by rfl) : spFLeast K vs H Q E := by
  unfold spFLeast
  exact ⟨D, n, m, f, hvs, h, hn, hz, q⟩
theorem units65 {k : Nat} {A : Around} (r : Room k A) : A.units + 65 < cLine := by have := r.un; omega
/-- (cost, sizes) -/
def CD (K : PySem.W.Frag) (H : Hp) (v : V) (c : Int) (ss : List Int) : Prop := ∃ t s, v = .ref t ∧ SqT K H t [.int c, .ref s] ∧ SqT K H s (ss.map V.int)
section
variable {K : PySem.W.Frag} {H H' : Hp} {v : V} {c : Int} {ss : List Int}
theorem CD.same (h : CD K H v c ss) (e : Same H H') : CD K H' v c ss := by
  obtain ⟨t, s, h0, h1, h2⟩ := h
  exact ⟨t, s, h0, seqT_same e h1, seqT_same e h2⟩
theorem CD.kp {b : Addr} {ys : List V} (h : CD K H v c ss) (e : Kp b H H') (hb : H b = some (.lst ys)) : CD K H' v c ss := by
  obtain ⟨t, s, h0, h1, h2⟩ := h
  exact ⟨t, s, h0, seqT_kp e hb h1, seqT_kp e hb h2⟩
theorem CD.kpK {b : Addr} {kvs : List (Key × V)} (h : CD K H v c ss) (e : Kp b H H') (hb : H b = some (.dK kvs)) : CD K H' v c ss := by
  obtain ⟨t, s, h0, h1, h2⟩ := h
  exact ⟨t, s, h0, seqT_kpK e hb h1, seqT_kpK e hb h2⟩
theorem dpI : ∀ {ss : List Int}, DpAll K H (ss.map V.int) (ss.map .int)
  | [] => .nil
  | _ :: _ => .cons (.int _) dpI
theorem dpI_inv : ∀ {ss : List Int} {xs : List V}, DpAll K H xs (ss.map .int) → xs = ss.map V.int
  | [], _, h => by cases h; rfl
  | _ :: _, _, h => by
    cases h with
    | cons h1 h2 =>
      cases h1
      rw [dpI_inv h2]
      rfl
theorem CD.dp (h : CD K H v c ss) : Dp K H v (sD c ss) := by
  obtain ⟨t, s, rfl, h1, h2⟩ := h
  exact .tup h1 (.cons (.int _) (.cons (.tup h2 dpI) .nil))
theorem CD.of (h : Dp K H v (sD c ss)) : CD K H v c ss := by
  unfold sD at h
  cases h with
  | tup h1 h2 =>
    cases h2 with
    | cons a b =>
      cases a
      cases b with
      | cons a2 b2 =>
        cases b2
        cases a2 with
        | tup h3 h4 =>
          rw [dpI_inv h4] at h3
          exact ⟨_, _, rfl, h1, h3⟩
/-- a list of pairs -/
def SpD (K : PySem.W.Frag) (H : Hp) (L : Addr) (ps : List (Int × Int)) : Prop := ∃ us, SqL K H L us ∧ Al (fun v p => ∃ t, v = .ref t ∧ SqT K H t [.int p.1, .int p.2]) us ps
def ppD (p : Int × Int) : PyData := .tuple [.int p.1, .int p.2]
theorem SpD.same {L : Addr} {ps : List (Int × Int)} (h : SpD K H L ps) (e : Same H H') : SpD K H' L ps := by
  obtain ⟨us, h1, h2⟩ := h
  exact ⟨us, seqL_same e h1, h2.mono fun v x ⟨t, a, b⟩ => ⟨t, a, seqT_same e b⟩⟩
theorem ppAll : ∀ {us : List V} {ps : List (Int × Int)}, Al (fun v p => ∃ t, v = .ref t ∧ SqT K H t [.int p.1, .int p.2]) us ps → DpAll K H us (ps.map ppD)
  | _, _, .nil => .nil
  | _, _, .cons ⟨t, a, b⟩ r => by
    subst a
    exact .cons (.tup b (.cons (.int _) (.cons (.int _) .nil))) (ppAll r)
theorem ppD_lay : ∀ ps : List (Int × Int), PyData.canLayAll0 (ps.map ppD) = true ∧ PyData.depthAll (ps.map ppD) ≤ 2
  | [] => by simp [PyData.canLayAll0, PyData.depthAll]
  | z :: zs => by
    have h := ppD_lay zs
    have h2 : (ppD z).depth ≤ 2 := by simp [ppD, PyData.depth, PyData.depthAll]
    have h3 : (ppD z).canLay0 = true := by simp [ppD, PyData.canLay0, PyData.canLayAll0]
    refine ⟨by simp [PyData.canLayAll0, h3, h.1], ?_⟩
    simp only [List.map_cons, PyData.depthAll]
    have := h.2
    omega
theorem ppD_shaped (ps : List (Int × Int)) : SeqAt.shaped (.list (ps.map ppD)) = true := by
  have h := ppD_lay ps
  show (PyData.canLay0 (.list (ps.map ppD)) && decide (PyData.depth (.list (ps.map ppD)) ≤ 64)) = true
  rw [Bool.and_eq_true]
  exact ⟨by simp only [PyData.canLay0]; exact h.1, decide_eq_true (by simp only [PyData.depth]; omega)⟩
theorem ppD_sh (p : Int × Int) : SeqAt.shaped (ppD p) = true := by
  show (PyData.canLay0 (ppD p) && decide (PyData.depth (ppD p) ≤ 64)) = true
  simp [ppD, PyData.canLay0, PyData.canLayAll0, PyData.depth, PyData.depthAll]
theorem inSp_step {L t : Addr} {ps : List (Int × Int)} {p : Int × Int} {Q : VK} (h : SpD K H L ps) (hp : H t = some (.tup [.int p.1, .int p.2])) (hm : p ∈ ps) (q : Q (.bl true) H) : rInD K (.ref t) (.ref L) H Q := by
  obtain ⟨us, h1, h2⟩ := h
  refine ⟨ppD p, ps.map ppD, .tup (SqT.of hp) (.cons (.int _) (.cons (.int _) .nil)), .lst h1 (ppAll h2), ppD_sh p, ppD_shaped ps, ?_⟩
  have e : (ps.map ppD).any (fun z => PyData.eqv z (ppD p)) = true := List.any_eq_true.mpr ⟨ppD p, List.mem_map.mpr ⟨p, hm, rfl⟩, by simp [ppD, PyData.eqv, PyData.eqvAll]⟩
  rw [e]
  exact q
end
/-! ### what leads on from a place -/
section
variable {f : Nat → Nat → Rat} {g : Nat → Rat} {M : Rat} {n b : Nat}
def ons (f : Nat → Nat → Rat) (g : Nat → Rat) (M : Rat) (b k : Nat) : List Nat := ((List.range k).map fun i => b + 1 + i).filter fun e => decide (g e ≤ M ∧ ¬ M < f b e)
theorem ons_succ (k : Nat) : ons f g M b (k + 1) = ons f g M b k ++ (if g (b + 1 + k) ≤ M ∧ ¬ M < f b (b + 1 + k) then [b + 1 + k] else []) := by
  unfold ons
  rw [List.range_succ, List.map_append, List.filter_append]
  congr 1
  by_cases c : g (b + 1 + k) ≤ M ∧ ¬ M < f b (b + 1 + k)
  · rw [if_pos c]
    simp [c.1]
    exact c.2
  · rw [if_neg c]
    simp
    intro h
    by_cases z : M < f b (b + 1 + k)
    · exact z
    · exact absurd ⟨h, z⟩ c
theorem ons_mem {k e : Nat} : e ∈ ons f g M b k ↔ (b + 1 ≤ e ∧ e < b + 1 + k) ∧ g e ≤ M ∧ ¬ M < f b e := by
  unfold ons
  rw [List.mem_filter, List.mem_map, decide_eq_true_iff]
  constructor
  · rintro ⟨⟨i, hi, rfl⟩, h⟩
    have := List.mem_range.mp hi
    exact ⟨⟨by omega, by omega⟩, h⟩
  · rintro ⟨⟨h1, h2⟩, h⟩
    exact ⟨⟨e - (b + 1), List.mem_range.mpr (by omega), by omega⟩, h⟩
theorem ons_len {k : Nat} : (ons f g M b k).length ≤ k := by
  unfold ons
  refine Nat.le_trans (List.length_filter_le _ _) ?_
  rw [List.length_map, List.length_range]
  exact Nat.le_refl _
theorem ons_lt {k : Nat} : (ons f g M b k).Pairwise (· < ·) := by
  unfold ons
  refine List.Pairwise.filter _ ?_
  refine List.Pairwise.map _ (fun x y h => ?_) List.pairwise_lt_range
  omega
theorem gr_le {x y : Rat} (h : ¬ M < gr x y) : x ≤ M ∧ y ≤ M := by
  have := gr_ge x y
  constructor <;> grind
theorem gr_le' {x y : Rat} (h : y ≤ M) (h2 : ¬ M < x) : ¬ M < gr x y := by
  rcases gr_or x y with e | e <;> rw [e] <;> grind
theorem ons_first {e : Nat} {r : List Nat} (h : ons f g M b (n - b) = e :: r) (hb : b < n) : bEnd f g M n b (b + 1) = e ∧ e ≤ n ∧ b < e := by
  have hm := ons_mem.mp (show e ∈ ons f g M b (n - b) by rw [h]; exact List.mem_cons_self)
  have hp := ons_lt (f := f) (g := g) (M := M) (b := b) (k := n - b)
  rw [h] at hp
  have hp := List.pairwise_cons.mp hp
  have h1 := bEnd_ge (f := f) (g := g) (M := M) (n := n) (b := b) (n - (b + 1)) (b + 1) (Nat.le_refl _)
  have h2 := bEnd_le (f := f) (g := g) (M := M) (n := n) (b := b) (n - (b + 1)) (b + 1) (Nat.le_refl _) (by omega)
  have h3 := bEnd_hit (f := f) (g := g) (M := M) (n := n) (b := b) (n - (b + 1)) (b + 1) (Nat.le_refl _) (by omega) ⟨e, hm.1.1, by omega, gr_le' hm.2.1 hm.2.2⟩
  have h4 := bEnd_over (f := f) (g := g) (M := M) (n := n) (b := b) (n - (b + 1)) (b + 1) (Nat.le_refl _) e hm.1.1
  refine ⟨?_, by omega, by omega⟩
  rcases Nat.lt_trichotomy e (bEnd f g M n b (b + 1)) with z | z | z
  · exact absurd (h4 z) (gr_le' hm.2.1 hm.2.2)
  · exact z.symm
  · have h5 := gr_le h3
    have h6 : bEnd f g M n b (b + 1) ∈ ons f g M b (n - b) := ons_mem.mpr ⟨⟨h1, by omega⟩, h5.2, Rat.not_lt.mpr h5.1⟩
    rw [h] at h6
    rcases List.mem_cons.mp h6 with h7 | h7
    · omega
    · have := hp.1 _ h7
      omega
theorem ons_nil (h : Bst f n 0 g) (hb : b < n) : ons f g M b (n - b) = [] ↔ ¬ g b ≤ M := by
  constructor
  · intro e hM
    obtain ⟨e', h1, h2, h3⟩ := h.on hb hM
    have h4 := gr_le h3
    have : e' ∈ ons f g M b (n - b) := ons_mem.mpr ⟨⟨h1, by omega⟩, h4.2, Rat.not_lt.mpr h4.1⟩
    rw [e] at this
    cases this
  · intro hM
    rcases he : ons f g M b (n - b) with _ | ⟨e, r⟩
    · rfl
    · have hm := ons_mem.mp (show e ∈ ons f g M b (n - b) by rw [he]; exact List.mem_cons_self)
      have h1 := h.le b (Nat.zero_le _) hb e (by omega) (by omega)
      have h2 := gr_le' hm.2.1 hm.2.2
      exact absurd (by grind) hM
end
section
variable {K : PySem.W.Frag} {H : Hp} {F : Nat → List Int}
theorem cat_step {a b : Addr} {xs ys : List V} {Q : VK} (ha : SqT K H a xs) (hb : SqT K H b ys) (hx : xs ≠ []) (hz : xs.length + ys.length ≤ sizeLine) (q : ∀ p H', Same H H' → SqT K H' p (xs ++ ys) → Q (.ref p) H') : rCatT K (.ref a) (.ref b) H Q :=
  ⟨a, b, xs, ys, rfl, rfl, ha, hb, hx, hz, fun e => q a H (Same.refl _) (by rw [e, List.append_nil]; exact ha), fun _ p np => q p _ (same_new np) (SqT.of upd_same)⟩
theorem cdAll : ∀ {cs : List V} {es : List Nat}, Al (fun v e => CD K H v 0 (F e)) cs es → DpAll K H cs (es.map fun e => sD 0 (F e))
  | _, _, .nil => .nil
  | _, _, .cons a r => .cons a.dp (cdAll r)
theorem intsLay : ∀ ss : List Int, PyData.canLayAll0 (ss.map .int) = true
  | [] => by simp [PyData.canLayAll0]
  | x :: r => by
    rw [List.map_cons, PyData.canLayAll0, intsLay r]
    simp [PyData.canLay0]
theorem sD_lay (c : Int) (ss : List Int) : (sD c ss).canLay0 = true := by
  simp only [sD, PyData.canLay0, PyData.canLayAll0, intsLay]
  rfl
theorem sDs_ok : ∀ es : List Nat, PyData.canLayAll0 (es.map fun e => sD 0 (F e)) = true ∧ PyData.depthAll (es.map fun e => sD 0 (F e)) ≤ 3
  | [] => by simp [PyData.canLayAll0, PyData.depthAll]
  | z :: zs => by
    have h := sDs_ok zs
    have h2 := sD_depth (c := 0) (ss := F z)
    refine ⟨by simp [PyData.canLayAll0, sD_lay, h.1], ?_⟩
    simp only [List.map_cons, PyData.depthAll]
    have := h.2
    omega
theorem sDs_shaped (es : List Nat) : SeqAt.shaped (.list (es.map fun e => sD 0 (F e))) = true := by
  have h := sDs_ok (F := F) es
  show (PyData.canLay0 (.list (es.map fun e => sD 0 (F e))) && decide (PyData.depth (.list (es.map fun e => sD 0 (F e))) ≤ 64)) = true
  rw [Bool.and_eq_true]
  exact ⟨by simp only [PyData.canLay0]; exact h.1, decide_eq_true (by simp only [PyData.depth]; omega)⟩
theorem nil_shaped : SeqAt.shaped (.list []) = true := by
  show (PyData.canLay0 (.list []) && decide (PyData.depth (.list []) ≤ 64)) = true
  simp [PyData.canLay0, PyData.canLayAll0, PyData.depth, PyData.depthAll]
theorem sDs_alike (es : List Nat) : PySem.W.AlikeAll (es.map fun e => sD 0 (F e)) := by
  refine ⟨fun x hx y hy => ?_, fun x hx => ?_⟩
  · obtain ⟨a, _, rfl⟩ := List.mem_map.mp hx
    obtain ⟨b, _, rfl⟩ := List.mem_map.mp hy
    exact sD_alike
  · obtain ⟨a, _, rfl⟩ := List.mem_map.mp hx
    simp [sD]
theorem dgetN {a : Addr} {kvs : List (Key × V)} {i : Nat} (h : H a = some (.dK kvs)) (e : valV kvs (kI i) = none) : DGet H a (.int (i : Int)) none := by
  rw [← e]
  exact DGet.k (k := kI i) h
end
@[irreducible] def spFCalm (K : PySem.W.Frag) : Sp := fun vs H Q _ => ∃ (D L : Addr) (n m : Nat) (u : V) (M : Rat) (f : Nat → Nat → Rat) (g : Nat → Rat) (ps : List (Int × Int)), vs = [.ref D, .int n, u, .ref L] ∧ DSh K n (AllR n) f m H D ∧ n ≤ 12 ∧ (∀ i j, AllR n i j → Sz 3900 (f i j)) ∧ PtV K H u M ∧ Sz 3900 M ∧ Bst f n 0 g ∧ g 0 ≤ M ∧ 1 ≤ M ∧ SpD K H L ps ∧ (∀ i j : Nat, AllR n i j → ((i : Int), (j : Int) - i) ∈ ps) ∧
  ∀ t s c H', Same H H' → SqT K H' t [.ref s, c] → SqT K H' s ((bestL f g M n 0).map V.int) → Q (.ref t) H'
theorem fcalm_step {K : PySem.W.Frag} {H : Hp} {Q : VK} {E : XK} {vs : List V} {n m : Nat} {D L : Addr} {u : V} {M : Rat} {f : Nat → Nat → Rat} {g : Nat → Rat} {ps : List (Int × Int)} (hD : DSh K n (AllR n) f m H D) (hn : n ≤ 12) (hz : ∀ i j, AllR n i j → Sz 3900 (f i j)) (hu : PtV K H u M) (zM : Sz 3900 M) (hG : Bst f n 0 g) (hM : g 0 ≤ M) (hM1 : 1 ≤ M) (hL : SpD K H L ps) (hps : ∀ i j : Nat, AllR n i j → ((i : Int), (j : Int) - i) ∈ ps)
    (q : ∀ t s c H', Same H H' → SqT K H' t [.ref s, c] → SqT K H' s ((bestL f g M n 0).map V.int) → Q (.ref t) H') (hvs : vs = [.ref D, .int n, u, .ref L] := by rfl) : spFCalm K vs H Q E := by
  unfold spFCalm
  exact ⟨D, L, n, m, u, M, f, g, ps, hvs, hD, hn, hz, hu, zM, hG, hM, hM1, hL, hps, q⟩
theorem Bst.ge1 {f : Nat → Nat → Rat} {g : Nat → Rat} {n : Nat} (h : Bst f n 0 g) : ∀ k b, n - b ≤ k → b ≤ n → 1 ≤ g b
  | 0, b, hk, hb => by
    rw [show b = n by omega, h.e]
    exact Rat.le_refl
  | k + 1, b, hk, hb => by
    by_cases c : b = n
    · rw [c, h.e]
      exact Rat.le_refl
    · obtain ⟨e, h1, h2, h3⟩ := h.hit b (Nat.zero_le _) (by omega)
      have h4 := Bst.ge1 h k e (by omega) h2
      have h5 := gr_ge (f b e) (g e)
      rw [h3]
      exact Rat.le_trans h4 h5.2
def spot : List Key → Int × Int
  | [.inl a, .inl b] => (a, b - a)
  | _ => (0, 0)
@[irreducible] def spFBest (K : PySem.W.Frag) : Sp := fun vs H Q _ => ∃ (D : Addr) (n m : Nat) (f : Nat → Nat → Rat), vs = [.ref D, .int n] ∧ DSh K n (AllR n) f m H D ∧ m ≤ 200 ∧ n ≤ 12 ∧ (∀ i j, AllR n i j → Sz 3900 (f i j)) ∧ ∀ t g H', Same H H' → Bst f n 0 g → SqT K H' t ((bestL f g (g 0) n 0).map V.int) → Q (.ref t) H'
theorem fbest_step {K : PySem.W.Frag} {H : Hp} {Q : VK} {E : XK} {vs : List V} {n m : Nat} {D : Addr} {f : Nat → Nat → Rat} (h : DSh K n (AllR n) f m H D) (hm : m ≤ 200) (hn : n ≤ 12) (hz : ∀ i j, AllR n i j → Sz 3900 (f i j)) (q : ∀ t g H', Same H H' → Bst f n 0 g → SqT K H' t ((bestL f g (g 0) n 0).map V.int) → Q (.ref t) H') (hvs : vs = [.ref D, .int n] := by rfl) : spFBest K vs H Q E := by
  unfold spFBest
  exact ⟨D, n, m, f, hvs, h, hm, hn, hz, q⟩
end Cc
set_option maxHeartbeats 2000000
/-! XItm: for k, v in d.items(), the keys tuples, d just made; min(xs, default=v). -/
namespace Cc
open PySem PySem.Spec PyProof.Rows L2
/-- the pairs of a locked dict with tuple keys, each a new tuple -/
def ItiT (d : Addr) (o : Obj) (kvs : List (List Key × V)) : It :=
  ⟨fun i H => H d = some (.frz o (.dT kvs)) ∧ i < kvs.length, fun i H x H' => ∃ T k v q, kvs[i]? = some (k, v) ∧ H q = some (.tup (k.map kV)) ∧ x = .ref T ∧ H T = none ∧ H' = upd H T (.tup [.ref q, v]), fun i H => H d = some (.frz o (.dT kvs)) ∧ kvs.length ≤ i⟩
section
variable {X : Cx} {pins : List (Addr × Obj)} {σ : L2.St} {H : Hp} {s : Shared} {d : Addr} {o : Obj}
theorem frzT2 {ps : List (List Key × V)} (I : Inv X pins σ H s) (h : H d = some (.frz o (.dT ps))) :
    ((d == sysModules) = false ∧ (ps.map (·.1)).Nodup) ∧ ∃ (rows : Array DictEntry) (ep : Nat), o.data = .dict rows ep ∧ DT.Raw s.heap d rows ep ∧ rows.size = ps.length ∧
      ∀ (i : Nat) (ky : List Key) (v : V), ps[i]? = some (ky, v) → ∃ (hi : i < rows.size) (q : Addr), rows[i].key = .ref q ∧ H q = some (.tup (ky.map kV)) ∧ RelV v rows[i].val := by
  obtain ⟨e0, _, ns, xs, pair, o', rows, ep, e1, exact1, e2, e3, one⟩ := I.hok d _ h
  obtain rfl : o = o' := by rw [e0] at e1; exact Option.some.inj e1
  have m1 := size_of_entries e3
  have m2 := Paired.length pair
  have same : ∀ {as : List (List Key × V)} {bs : List (List Key × Addr × Value)}, Paired (fun p q => p.1 = q.1 ∧ H q.2.1 = some (.tup (p.1.map kV)) ∧ RelV p.2 q.2.2) as bs → as.map (·.1) = bs.map (·.1) := fun h => by
    induction h with
    | nil => rfl
    | cons a _ ih => rw [List.map_cons, List.map_cons, a.1, ih]
  refine ⟨⟨ns, by rw [same pair]; exact one⟩, rows, ep, e2, ⟨o, e0, exact1, e2⟩, by omega, fun i ky v hi => ?_⟩
  obtain ⟨⟨ky', q, u⟩, g1, g2, g3, g4⟩ := paired_get pair hi
  have at1 := entry_at e3 i
  rw [g1] at at1
  obtain ⟨lt, at2⟩ := Array.getElem?_eq_some_iff.mp at1
  refine ⟨lt, q, ?_, g3, ?_⟩ <;> rw [at2]
  · rfl
  · exact g4
end
/-- one turn of it -/
theorem turn_itemsT {P : Program} {w : World} {K : PySem.W.Frag} {d : Addr} {o : Obj} {rows : Array DictEntry} {ep : Nat} {ps : List (List Key × V)} {elts : List Expr} {kk : Nat} {tpos : Pos} (z : Addr) (ho : o.data = .dict rows ep) :
    Turn P w K (.Tuple elts kk tpos) (ItiT d o ps) [z] z (fun i h => ∃ u1 u2, IsItemIter h z d i rows.size ep u1 u2) := by
  refine { mem := List.mem_singleton.mpr rfl, obj := ?_, keep := ?_, item := ?_, done := ?_, self := ?_ }
  · rintro i h ⟨u1, u2, there⟩ b hb
    cases List.mem_singleton.mp hb
    exact ⟨_, there, by simp⟩
  · rintro i h h' ⟨u1, u2, there⟩ same
    exact ⟨u1, u2, same z (List.mem_singleton.mpr rfl) _ there⟩
  · rintro X rfl rfl rfl _ i pins s σ H E I free ⟨u1, u2, there⟩ ⟨frozen, small⟩
    obtain ⟨_, rows', ep', ho', raw, len, ent⟩ := frzT2 I frozen
    obtain ⟨e1, e2⟩ := dict_ep ho ho'
    subst e1 e2
    have at0 : ps[i]? = some (ps[i].1, ps[i].2) := List.getElem?_eq_getElem small
    generalize ps[i].1 = ky at at0
    generalize ps[i].2 = v at at0
    obtain ⟨lt, q, eq, hq, rv⟩ := ent i ky v at0
    have zlt : z < s.heap.objs.size := Heap.lt_size there
    refine DT.nextI there raw lt fun h1 out1 tup1 _ kept1 => ⟨_, rfl, ?_⟩
    refine wpAny_letOwnedTupleGo_items (s := { s with heap := h1 }) out1 fun h2 back2 only2 => ?_
    have nz : s.heap.objs.size ≠ z := Nat.ne_of_gt zlt
    have tup2 := (only2.2 _ nz).trans tup1
    have keep12 : ∀ b ob, b ∉ [z] → s.heap.get? b = some ob → h2.get? b = some ob := fun b ob nb e => by
      have nb := fun e => nb (List.mem_singleton.mpr e)
      exact (only2.2 b nb).trans (kept1 b ob nb e)
    have made : ObjOk X.prog X.w (upd H s.heap.objs.size (.tup [.ref q, v])) h2 s.heap.objs.size (.tup [.ref q, v]) :=
      ⟨(show 2 ≤ sizeLine by decide), [rows'[i].key, rows'[i].val], .cons (by rw [eq]; rfl) (.cons rv .nil), ⟨_, tup2, rfl, _, rfl⟩⟩
    refine ⟨.ref s.heap.objs.size, _, I.turnedNew (t' := s.toks) (ch := [z]) keep12 free (Nat.le_refl _) made, rfl, ⟨_, ky, v, q, at0, hq, rfl, I.hok.fresh (Nat.le_refl _), rfl⟩, ⟨_, _, back2⟩, fun b hb => ?_⟩
    cases List.mem_singleton.mp hb
    rw [upd_ne (fun e => nz e.symm)]
    exact (free z (List.mem_singleton.mpr rfl)).1
  · rintro X rfl rfl rfl calm i pins s σ H E I free ⟨u1, u2, there⟩ ⟨frozen, stop⟩
    obtain ⟨_, rows', ep', ho', raw, len, _⟩ := frzT2 I frozen
    obtain ⟨e1, e2⟩ := dict_ep ho ho'
    subst e1 e2
    obtain ⟨a0, a1, _, a3, a4, a5⟩ := free z (List.mem_singleton.mpr rfl)
    exact DT.endI (I.ok.hd calm) there raw (by omega) fun h1 but => ⟨rfl, I.turned (t' := s.toks) (fun b ob nb e => but b ob nb e) a0 a1 a3 a4 a5⟩
  · rintro A i s Q E ⟨_, _, there⟩ h
    exact PySem.W.kcp_self there h
/-- the dict is told by the expression, and stays locked from here on -/
def iItemsT (td : TE) : TI := fun σ H R => td σ H fun x H1 => ∃ d kvs, x = .ref d ∧ H1 d = some (.dT kvs) ∧ ((kvs.map (·.1)).Nodup → ∀ o, R (ItiT d o kvs) (upd H1 d (.frz o (.dT kvs))))
section
variable {X : Cx} {e : Expr} {td : TE} {apos cpos : Pos}
theorem pi_itemsT {elts : List Expr} {kk : Nat} {tpos : Pos} (he : PE X e td) (hb : attributeBase e "items" X.env (eval e X.env) = eval e X.env := by rfl) (hl : (apos.endLine == cpos.line) = true := by rfl) :
    PI X (.Tuple elts kk tpos) (.Call (.Attribute e "items" apos) [] [] cpos) (iItemsT td) := by
  constructor
  intro pins s σ H R I h
  refine wpAny_Call_method (T := "dict") (id := "dict.items") hb rfl hl F.plainAttrs_dict F.slot_dict_items F.type_dict_items (thn (he.run pins s σ H _ I h) ?_)
  rintro u s1 ⟨x, H1, I1, rx, d, ps, rfl, there, q⟩
  cases (show u = Value.ref d from rx)
  obtain ⟨o, I0⟩ := I1.lock there True.intro
  obtain ⟨⟨ns, one⟩, rows, ep, ho, raw, _, _⟩ := frzT2 I0 upd_same
  refine ⟨raw.typeIs, fun a ea => ?_, ?_⟩
  · obtain ⟨o', g1, g2, _⟩ := raw
    cases ea
    exact ⟨o', g1, g2.2.1⟩
  have pushed : ∀ (ob : Obj), ∀ b u, s1.heap.get? b = some u → (s1.heap.push ob).get? b = some u := fun ob b u e => Heap.get?_push_of_some _ e
  refine method_meetsIn F.slot_dict_items F.entry_dict_items rfl (PySem.evalArgs_none ⟨rfl, raw.typeIs, F.args_dict_items_1 _, _, DT.meetsItems ns, raw, ?_⟩)
  exact DT.iterI (d := d) ⟨_, Heap.get?_push_size _ rfl, rfl, rfl⟩ (raw.push _) (pi_one (tk := s1.toks) (I0.kept (t' := s1.toks) (pushed _)) _ (turn_itemsT _ ho) ⟨.none, .none, Heap.get?_push_size _ rfl⟩ (q one o))
end
theorem walk_itemsT {d : Addr} {o : Obj} {kvs : List (List Key × V)} : Walk (ItiT d o kvs) kvs.length (fun H => H d = some (.frz o (.dT kvs))) (fun i H x H' => ∃ T k v q, kvs[i]? = some (k, v) ∧ H q = some (.tup (k.map kV)) ∧ x = .ref T ∧ H T = none ∧ H' = upd H T (.tup [.ref q, v])) :=
  { goes := fun _ _ lt here => ⟨here, lt⟩, stops := fun _ here => ⟨here, Nat.le_refl _⟩, yields := fun _ _ _ _ _ _ y => y }
theorem valV_at {kvs : List (List Key × V)} : ∀ {i : Nat} {k : List Key} {v : V}, (kvs.map (·.1)).Nodup → kvs[i]? = some (k, v) → valV kvs k = some v := by
  induction kvs with
  | nil => intro i k v _ h; simp at h
  | cons p r ih =>
    intro i k v nd h
    rw [List.map_cons, List.nodup_cons] at nd
    unfold valV
    rw [List.find?_cons]
    cases i with
    | zero =>
      simp only [List.getElem?_cons_zero, Option.some.injEq] at h
      subst h
      simp
    | succ i =>
      rw [List.getElem?_cons_succ] at h
      have ne : p.1 ≠ k := fun z => nd.1 (by rw [z]; exact List.mem_map.mpr ⟨(k, v), List.mem_of_getElem? h, rfl⟩)
      simp only [ne, decide_false]
      exact ih nd.2 h
/-! ### min(xs, default=None) of whole numbers -/
theorem foldl_min_mem : ∀ (l : List Int) (x : Int), l.foldl min x = x ∨ l.foldl min x ∈ l
  | [], _ => .inl rfl
  | y :: r, x => by
    rw [List.foldl_cons]
    rcases foldl_min_mem r (min x y) with h | h
    · rcases Int.le_total x y with z | z
      · left
        rw [h]
        omega
      · right
        rw [h, show min x y = y by omega]
        exact List.mem_cons_self
    · exact .inr (List.mem_cons_of_mem _ h)
theorem foldl_min_le : ∀ (l : List Int) (x : Int), l.foldl min x ≤ x ∧ ∀ y ∈ l, l.foldl min x ≤ y
  | [], _ => ⟨Int.le_refl _, fun y h => nomatch h⟩
  | y :: r, x => by
    obtain ⟨h1, h2⟩ := foldl_min_le r (min x y)
    rw [List.foldl_cons]
    refine ⟨by omega, fun z hz => ?_⟩
    rcases List.mem_cons.mp hz with rfl | hz
    · omega
    · exact h2 z hz
def rMinDef (K : PySem.W.Frag) : List V → List V → Hp → VK → Prop := fun vs zs H Q => ∃ (l : Addr) (ns : List Int), vs = [V.ref l] ∧ zs = [V.non] ∧ SqL K H l (ns.map V.int) ∧ (ns = [] → Q .non H) ∧ (∀ m, m ∈ ns → (∀ y ∈ ns, m ≤ y) → Q (.int m) H)
theorem ints_alike (ns : List Int) : PySem.W.AlikeAll (ns.map PyData.int) := by
  refine ⟨fun x hx y hy => ?_, fun x hx => ?_⟩
  · obtain ⟨a, _, rfl⟩ := List.mem_map.mp hx
    obtain ⟨b, _, rfl⟩ := List.mem_map.mp hy
    simp [PySem.W.alike]
  · obtain ⟨a, _, rfl⟩ := List.mem_map.mp hx
    simp
theorem ints_depth : ∀ ss : List Int, PyData.depthAll (ss.map .int) ≤ 1
  | [] => by simp [PyData.depthAll]
  | x :: r => by
    have ih := ints_depth r
    rw [List.map_cons, PyData.depthAll]
    have : (PyData.int x).depth ≤ 1 := by simp [PyData.depth]
    omega
theorem cr_minDef {X : Cx} (hc : X.calm = true) (hu : X.A.units + 64 < cLine) : CallRK X (.builtin "min") [Str.ofString "default"] (rMinDef X.K) := by
  intro pins s σ H vs zs us ws Q I r rz h
  obtain ⟨l, ns, rfl, rfl, hs, q0, q1⟩ := h
  obtain rfl := Vals.ref1 r
  obtain ⟨w1, rfl, e1⟩ := vals1 rz
  obtain rfl : w1 = Value.none := e1
  obtain ⟨its, rv, hl, _⟩ := I.list hs
  obtain ⟨as, hr⟩ := Dp.readsAll I (ns.map .int) (ns.map V.int) its dpI rv
  have hd := ints_depth ns
  refine PySem.W.min_list_default (I.ok.hd hc) hl.isList hr (ints_alike ns) (by omega) (fun e h' tk hk => ?_) fun y ys i v h' tk bs ey hv rr hk => ?_
  · cases ns with
    | nil => exact ⟨.non, H, I.kept hk, rfl, q0 rfl⟩
    | cons a b => cases e
  · cases ns with
    | nil => cases ey
    | cons a b =>
      rw [List.map_cons] at ey
      cases ey
      have hv' : its[i]? = some v := by simpa using hv
      obtain ⟨u, hu, ru⟩ : ∃ u, ((a :: b).map V.int)[i]? = some u ∧ RelV u v := by
        have hl2 := rv.length
        obtain ⟨hi, _⟩ := List.getElem?_eq_some_iff.mp hv'
        obtain ⟨w, hw, rw⟩ := rv.get (List.getElem?_eq_getElem (show i < ((a :: b).map V.int).length by omega))
        rw [hv'] at hw
        cases hw
        exact ⟨_, List.getElem?_eq_getElem (by omega), rw⟩
      obtain ⟨d, hd', hdp⟩ := dpAll_get (dpI (K := X.K) (H := H) (ss := a :: b)) hu
      obtain ⟨as1, r1⟩ := Dp.reads I d u v hdp ru
      have e := (PySem.Reads.unique (PySem.W.reads_keeps hk r1) _ _ rr).1
      rw [PySem.W.minD_ints] at e
      rw [e] at hdp
      cases hdp
      refine ⟨_, H, I.kept hk, ru, q1 _ ?_ ?_⟩
      · rcases foldl_min_mem b a with z | z
        · rw [z]
          exact List.mem_cons_self
        · exact List.mem_cons_of_mem _ z
      · intro y hy
        have h2 := foldl_min_le b a
        rcases List.mem_cons.mp hy with rfl | hy
        · exact h2.1
        · exact h2.2 y hy
end Cc
set_option maxHeartbeats 2000000
/-! XDc: {k: v for x in xs}, the keys tuples. -/
namespace Cc
open PySem PySem.Spec PyProof.Rows L2
theorem dictSet_tup {X : Cx} {pins : List (Addr × Obj)} {σ : L2.St} {H : Hp} {s : Shared} {E : Value → Shared → Prop} {D b : Addr} {kvs : List (List Key × V)} {k : List Key} {v : V} {r : Value} {Q : Unit → Shared → Prop} (hu : X.A.units + 1 < cLine) (I : Inv X pins σ H s) (there : H D = some (.dT kvs)) (room : kvs.length < sizeLine)
    (eb : H b = some (.tup (k.map kV))) (rv : RelV v r) (h : ∀ s', Inv X pins σ (upd H D (.dT (putK kvs k v))) s' → Q () s') : wpAny (model X.prog X.w) X.A (dictSet D (.ref b) r) Q E s := by
  obtain ⟨small, ns, xs, rel, dd⟩ := dt_of I.hok there
  have e1 := Paired.length rel
  have e2 := length_putK kvs k v
  refine wpAny_dictSet_heap (hsz := by omega) (show X.A.units < cLine by omega) (key_of I.hok eb) dd ?_
  rintro h' ⟨o, es, ep, g1, g2, g3, g4, _, g5⟩ only
  refine h _ (d_write I (by rw [there]; exact True.intro) only ⟨o, g1⟩ ⟨by omega, ns, _, (rel.put k eb rv).keeps ?_, o, es, ep, g1, g2, g3, g4, g5⟩)
  intro c ys ec
  rw [upd_ne (ne_of ec there (fun z => nomatch z))]
  exact ec
/-- D the new dict -/
def tDcT (wi : TI) (g : TG) (tk tv : TE) (vs : List Nat) : TE := fun σ H Q => wi σ H fun J H1 => ∀ D, H1 D = none → ∃ W : Nat → Nat → Hp → Prop, (∃ m, W 0 m (upd H1 D (.dT []))) ∧ ∀ i m H, W i m H →
  (J.stop i H ∧ Q (.ref D) H) ∨ (J.go i H ∧ ∃ Nx : Hp → Prop, (∀ H', Nx H' → ∃ m', m' < m ∧ W (i + 1) m' H') ∧ ∀ x H', J.yld i H x H' → g x (wipe σ vs) H' fun σ2 H2 => wipe σ2 vs = wipe σ vs ∧
    tk σ2 H2 fun y H4 => tv σ2 H4 fun z H5 => ∃ kvs k b, y = .ref b ∧ H5 b = some (.tup (k.map kV)) ∧ H5 D = some (.dT kvs) ∧ kvs.length < sizeLine ∧ Nx (upd H5 D (.dT (putK kvs k z))))
section
variable {X : Cx}
theorem pe_dcT {kx vx tg iter : Expr} {scope : Scope} {own : List (Str × Nat)} {pos : Pos} {wi : TI} {g : TG} {tk tv : TE} (hu : X.A.units + 1 < cLine) (calm : X.calm = true) (nd : X.N.Nodup) (hi : PI X tg iter wi) (ok : BlkOk X.N X.env.scope scope own)
    (hg : ∀ (s : Shared) (H : Hp) (C : Addr) (cl : List (Str × Addr)) (fp : List Addr), PG (X.blk s H scope (compEnvC scope cl C X.env) fp) tg g)
    (hk : ∀ (s : Shared) (H : Hp) (C : Addr) (cl : List (Str × Addr)) (fp : List Addr), PE (X.blk s H scope (compEnvC scope cl C X.env) fp) kx tk)
    (hv : ∀ (s : Shared) (H : Hp) (C : Addr) (cl : List (Str × Addr)) (fp : List Addr), PE (X.blk s H scope (compEnvC scope cl C X.env) fp) vx tv) (hs : ∀ x, foldedSetIterable iter X.env x = pure x := by intro _; rfl) :
    PE X (.DictComp kx vx [⟨tg, iter, [], 0⟩] scope pos) (tDcT wi g tk tv (own.map (·.2))) := by
  constructor
  intro pins s0 σ H Q I0 reading
  rw [arm_eval_DictComp]
  have closes : ∀ y ∈ scope.names, y.2 = .free → ∃ c, X.env.cells.lookup y.1 = some c := by
    intro y hy hf
    rcases ok.free y hy hf with z | z
    · exact I0.ok.has _ (.inl z)
    · exact I0.ok.has _ (.inr z)
  refine wpAny_comprehension_free rfl hs (closure_ok closes) ok.kind (fun y hy e => (ok.uniq y hy).trans (congrArg some e)) ?_
  refine thn (hi.run pins s0 σ H _ I0 reading) fun _ s1 walked => thn walked fun _ s2 ⟨z, fp, stage, J, H2, ez, I2, turns, at2, free2, q⟩ => ?_
  subst ez
  refine wpAny_newObj_type (newEnv_comp ?_)
  obtain ⟨D, eD⟩ : ∃ D, D = s2.heap.objs.size := ⟨_, rfl⟩
  obtain ⟨W, ⟨m0, w0⟩, walk⟩ := q D (I2.hok.fresh (by rw [eD]; exact Nat.le_refl _))
  obtain ⟨s3, es3⟩ : ∃ s3 : Shared, s3 = { s2 with heap := s2.heap.push { cls := .type "dict", data := .dict #[] } } := ⟨_, rfl⟩
  have eh3 : s3.heap = s2.heap.push { cls := .type "dict", data := .dict #[] } := by rw [es3]
  have I3 : Inv X pins σ (upd H2 D (.dT [])) s3 := by
    rw [es3, eD]
    exact I2.laid (t' := s2.toks) (fun b o e => Heap.get?_push_of_some _ e) (Nat.le_refl _) (dt_empty s2.heap I2.big)
  have low : ∀ b ∈ fp, b < s2.heap.objs.size := by
    intro b hb
    obtain ⟨ob, there, _⟩ := turns.obj _ _ at2 b hb
    exact Heap.lt_size there
  have free3 : ∀ b ∈ fp, FpOk X pins (upd H2 D (.dT [])) b ∧ b < s3.heap.objs.size := by
    intro b hb
    have lb := low b hb
    refine ⟨⟨?_, (free2 b hb).2⟩, ?_⟩
    · rw [upd_ne (by rw [eD]; exact Nat.ne_of_lt lb)]
      exact (free2 b hb).1
    · rw [eh3, Heap.size_push]
      exact Nat.lt_succ_of_lt lb
  have at3 : stage 0 s3.heap := turns.keep _ _ _ at2 fun b _ o e => by
    rw [eh3]
    exact Heap.get?_push_of_some _ e
  have I4 := block_start I3 ok nd free3
  generalize eH3 : upd H2 D (.dT []) = H3 at *
  obtain ⟨ce, ece⟩ : ∃ ce, ce = compEnvC scope (cellsFrom (s3.heap.objs.size + 1) scope.names (cloFrom X.env.cells scope.names [])) s3.heap.objs.size X.env := ⟨_, rfl⟩
  have g0 := hg s3 H3 s3.heap.objs.size (cellsFrom (s3.heap.objs.size + 1) scope.names (cloFrom X.env.cells scope.names [])) fp
  have k0 := hk s3 H3 s3.heap.objs.size (cellsFrom (s3.heap.objs.size + 1) scope.names (cloFrom X.env.cells scope.names [])) fp
  have v0 := hv s3 H3 s3.heap.objs.size (cellsFrom (s3.heap.objs.size + 1) scope.names (cloFrom X.env.cells scope.names [])) fp
  rw [← ece] at g0 k0 v0 I4
  have eL : ce.locals = s3.heap.objs.size := by rw [ece]; rfl
  suffices goal : codeAny (model X.prog X.w) X.A (.compStart (.DictComp kx vx [⟨tg, iter, [], 0⟩] scope pos) 0 (.ref z) (.ref D) ce) (compPost (model X.prog X.w) X.A X.xe none (EP X pins σ Q) (.ref D) s3.heap.objs.size) { s3 with heap := pushCells (s3.heap.push { cls := .type "dict", data := .dict #[] }) scope.names } by
    rw [ece, es3, eD] at goal
    exact goal
  obtain ⟨s4, es4⟩ : ∃ s4 : Shared, s4 = { s3 with heap := pushCells (s3.heap.push { cls := .type "dict", data := .dict #[] }) scope.names } := ⟨_, rfl⟩
  rw [← es4] at I4 ⊢
  have at4 : stage 0 s4.heap := turns.keep _ _ _ at3 fun b _ o e => by
    rw [es4]
    exact pushCells_keeps _ _ _ _ (Heap.get?_push_of_some _ e)
  have gone : ∀ b ∈ fp, H3 b = none := fun b hb => (free3 b hb).1.1
  -- the footprint within the block
  have inner : ∀ {σ' : L2.St} {H' : Hp} {s' : Shared}, Inv (X.blk s3 H3 scope ce fp) [] σ' H' s' → (∀ b ∈ fp, H' b = none) → ∀ b ∈ fp, FpOk (X.blk s3 H3 scope ce fp) [] H' b := by
    intro σ' H' s' J' none' b hb
    obtain ⟨x1, x2⟩ := J'.ok.exf b hb
    refine ⟨none' b hb, x1, J'.ok.exfs b hb, .inl hb, fun x c e => x2 x c e, fun p hp => ?_⟩
    simp at hp
  have loop : codeAny (model X.prog X.w) X.A (.compLoop (.DictComp kx vx [⟨tg, iter, [], 0⟩] scope pos) 0 (.ref z) (.ref D) ce) (compPost (model X.prog X.w) X.A X.xe none (EP X pins σ Q) (.ref D) s3.heap.objs.size) s4 := by
    refine compLoop_anyD (fun n s' => ∃ i H', Inv (X.blk s3 H3 scope ce fp) [] (wipe σ (own.map (·.2))) H' s' ∧ stage i s'.heap ∧ (∀ b ∈ fp, H' b = none) ∧ W i n H') ?_ m0 ⟨0, H3, I4, at4, gone, w0⟩
    rintro n s5 ⟨i, H5, I5, at5, gone5, w5⟩
    rcases walk i n H5 w5 with ⟨stop, fin⟩ | ⟨go, Nx, less, step⟩
    · -- at the end
      have last := turns.done (X.blk s3 H3 scope ce fp) rfl rfl rfl calm i [] s5 _ H5 (fun _ _ => False) I5 (inner I5 gone5) at5 stop
      refine thnF last ?_
      rintro r s6 ⟨rfl, I6⟩
      have back : Inv X pins σ H5 s6 := by
        refine I3.call' (ch := fp) I6.os I6.base I6.hok I6.bare fun b hb => ?_
        obtain ⟨⟨_, x1, x2, x3, x4, x5⟩, _⟩ := free3 b hb
        exact ⟨x3, x1, x4, x5⟩
      obtain ⟨m, names, _⟩ := I6.loc
      have names : s6.heap.Ns ce.locals m := names
      have unset : H5 ce.locals = none := I6.free
      rw [eL] at names unset
      refine ⟨m, names, fun h'' only => ?_⟩
      obtain ⟨x0, x1, x2, x3, x4, x5⟩ := I3.fpOk (Nat.le_refl _) unset
      exact ⟨.ref D, H5, back.turned (t' := s6.toks) (fun b o hb e => (only.2 b hb).trans e) x0 x1 x3 x4 x5, rfl, fin⟩
    · -- one more
      have more := turns.item (X.blk s3 H3 scope ce fp) rfl rfl rfl calm i [] s5 _ H5 (fun _ _ => False) I5 (inner I5 gone5) at5 go
      refine thnF more ?_
      rintro r s6 ⟨u, rfl, got⟩
      refine thnF got fun _ s7 ⟨x, H7, I7, r7, y7, at7, gone7⟩ => ?_
      have held := I7.pinned (inner I7 gone7) (turns.obj _ _ at7)
      refine thnF (g0.run _ s7 _ H7 x u _ held r7 (step x H7 y7)) fun _ s8 ⟨σ8, H8, I8, ew, q8⟩ => ?_
      refine wpAny_pure ?_
      show wpAny _ _ (eval kx ce) _ _ s8
      refine thnF (k0.run _ s8 σ8 H8 _ I8 q8) fun k s9 ⟨yk, H9, I9, r9, q9⟩ => ?_
      refine thnF (v0.run _ s9 σ8 H9 _ I9 q9) fun v s10 ⟨yv, H10, I10, r10, kvs, ky, b, ek, eb, hD, small, nx⟩ => ?_
      subst ek
      obtain rfl : k = Value.ref b := r9
      refine dictSet_tup (X := X.blk s3 H3 scope ce fp) hu I10 hD small eb r10 fun s11 I11 => ?_
      obtain ⟨m', lt, w'⟩ := less _ nx
      have kept : ∀ c ∈ fp, ∀ o, s7.heap.get? c = some o → s11.heap.get? c = some o ∧ (upd H10 D (.dT (putK kvs ky yv))) c = none := by
        intro c hc o e
        obtain ⟨x1, x2, _⟩ := I11.pin (c, o) (List.mem_append_right _ (List.mem_append_right _ (mem_pinsAt hc e)))
        exact ⟨x1, x2⟩
      refine ⟨m', lt, i + 1, _, (I11.unpinned (pins := [])).weak ?_ ?_, turns.keep _ _ _ at7 fun c hc o e => (kept c hc o e).1, fun c hc => ?_, w'⟩
      · rw [← ew, wipe_length]
      · intro j w e
        rw [← ew] at e
        exact (wipe_some e).1
      · obtain ⟨o, e, _⟩ := turns.obj _ _ at7 c hc
        exact (kept c hc o e).2
  exact codeAny_compStart_dict loop (turns.self X.A 0 _ _ _ at4 loop)
end
/-- over a walk: Pv by the turn and the heap -/
theorem dcT_it {J : It} {n : Nat} {G : Hp → Prop} {Y : Nat → Hp → V → Hp → Prop} (w : Walk J n G Y) {g : TG} {tk tv : TE} {vs : List Nat} {σ : L2.St} {H1 : Hp} {D : Addr} {Qd : Hp → Prop} (Pv : Nat → Hp → Prop) (h0 : Pv 0 (upd H1 D (.dT []))) (hG : ∀ i H, i ≤ n → Pv i H → G H)
    (hs : ∀ i x H H', i < n → Pv i H → Y i H x H' → g x (wipe σ vs) H' fun σ2 H2 => wipe σ2 vs = wipe σ vs ∧ tk σ2 H2 fun y H4 => tv σ2 H4 fun z H5 => ∃ kvs k b, y = .ref b ∧ H5 b = some (.tup (k.map kV)) ∧ H5 D = some (.dT kvs) ∧ kvs.length < sizeLine ∧ Pv (i + 1) (upd H5 D (.dT (putK kvs k z)))) (hd : ∀ H, Pv n H → Qd H) :
    ∃ W : Nat → Nat → Hp → Prop, (∃ m, W 0 m (upd H1 D (.dT []))) ∧ ∀ i m H, W i m H →
      (J.stop i H ∧ Qd H) ∨ (J.go i H ∧ ∃ Nx : Hp → Prop, (∀ H', Nx H' → ∃ m', m' < m ∧ W (i + 1) m' H') ∧ ∀ x H', J.yld i H x H' → g x (wipe σ vs) H' fun σ2 H2 => wipe σ2 vs = wipe σ vs ∧
        tk σ2 H2 fun y H4 => tv σ2 H4 fun z H5 => ∃ kvs k b, y = .ref b ∧ H5 b = some (.tup (k.map kV)) ∧ H5 D = some (.dT kvs) ∧ kvs.length < sizeLine ∧ Nx (upd H5 D (.dT (putK kvs k z)))) := by
  refine ⟨fun i m H => (m = n - i ∧ i ≤ n) ∧ Pv i H, ⟨n, ⟨(Nat.sub_zero n).symm, Nat.zero_le n⟩, h0⟩, ?_⟩
  intro i m H ⟨⟨em, le⟩, p⟩
  have here := hG i H le p
  rcases Nat.lt_or_ge i n with lt | ge
  · refine .inr ⟨w.goes i H lt here, Pv (i + 1), fun H' p' => ⟨n - (i + 1), by omega, ⟨rfl, lt⟩, p'⟩, ?_⟩
    intro x H' y
    exact hs i x H H' lt p (w.yields i H x H' lt here y)
  · obtain rfl : i = n := Nat.le_antisymm le ge
    exact .inl ⟨w.stops H here, hd H p⟩
end Cc
/-! XNum: kept rows, what rows cost, the numbers that show the least cost. -/
namespace Cc
open PySem PySem.Spec PyProof.Rows L2
structure KOk (n : Nat) (ps : List (Int × Int)) : Prop where
  r : ∀ p ∈ ps, 0 ≤ p.1 ∧ 1 ≤ p.2 ∧ p.1 + p.2 ≤ n
  u : ps.Nodup
  l : ps.length ≤ 60
/-- what a row costs -/
def cst (ps : List (Int × Int)) (b e : Int) : Int := if (b, e - b) ∈ ps then 0 else 1
theorem cst_01 (ps : List (Int × Int)) (b e : Int) : 0 ≤ cst ps b e ∧ cst ps b e ≤ 1 := by
  unfold cst
  split <;> omega
section
variable {K : PySem.W.Frag} {H H' : Hp}
theorem inD_any {L : Addr} {ps : List (Int × Int)} {t : Addr} {a b : Int} {Q : VK} (h : SpD K H L ps) (hp : SqT K H t [.int a, .int b]) (q : Q (.bl (decide ((a, b) ∈ ps))) H) : rInD K (.ref t) (.ref L) H Q := by
  obtain ⟨us, h1, h2⟩ := h
  refine ⟨ppD (a, b), ps.map ppD, .tup hp (.cons (.int _) (.cons (.int _) .nil)), .lst h1 (ppAll h2), ppD_sh (a, b), ppD_shaped ps, ?_⟩
  have e : (ps.map ppD).any (fun z => PyData.eqv z (ppD (a, b))) = decide ((a, b) ∈ ps) := by
    rw [Bool.eq_iff_iff, List.any_eq_true, decide_eq_true_iff]
    constructor
    · rintro ⟨z, hz, e⟩
      obtain ⟨⟨x, y⟩, hp, rfl⟩ := List.mem_map.mp hz
      simp [ppD, PyData.eqv, PyData.eqvAll] at e
      rw [← e.1, ← e.2]
      exact hp
    · intro hm
      exact ⟨ppD (a, b), List.mem_map.mpr ⟨_, hm, rfl⟩, by simp [ppD, PyData.eqv, PyData.eqvAll]⟩
  rw [e]
  exact q
theorem notInD_any {L : Addr} {ps : List (Int × Int)} {t : Addr} {a b : Int} {Q : VK} (h : SpD K H L ps) (hp : SqT K H t [.int a, .int b]) (q : Q (.bl (!decide ((a, b) ∈ ps))) H) : rNotInD K (.ref t) (.ref L) H Q := by
  obtain ⟨d, ds, h1, h2, h3, h4, h5⟩ := inD_any (Q := fun v H' => ∃ k, v = .bl k ∧ Q (.bl (!k)) H') h hp ⟨_, rfl, q⟩
  obtain ⟨k, e, h6⟩ := h5
  injection e with e
  exact ⟨d, ds, h1, h2, h3, h4, by rw [e]; exact h6⟩
/-- a pair that lies on the heap -/
def PiH (H : Hp) (v : V) (p : Int × Int) : Prop := ∃ t, v = .ref t ∧ H t = some (.tup [.int p.1, .int p.2])
theorem PiH.same {v : V} {p : Int × Int} (h : PiH H v p) (e : Same H H') : PiH H' v p := by
  obtain ⟨t, h1, h2⟩ := h
  exact ⟨t, h1, e _ _ h2⟩
theorem PiH.kp {c : Addr} {ys : List V} {v : V} {p : Int × Int} (h : PiH H v p) (e : Kp c H H') (hc : H c = some (.lst ys)) : PiH H' v p := by
  obtain ⟨t, h1, h2⟩ := h
  exact ⟨t, h1, kp_lst (xs := []) e hc h2 (fun z => nomatch z)⟩
/-- a list of such pairs -/
def SpH (K : PySem.W.Frag) (H : Hp) (L : Addr) (ps : List (Int × Int)) : Prop := ∃ us, SqL K H L us ∧ Al (PiH H) us ps
theorem SpH.same {L : Addr} {ps : List (Int × Int)} (h : SpH K H L ps) (e : Same H H') : SpH K H' L ps := by
  obtain ⟨us, h1, h2⟩ := h
  exact ⟨us, seqL_same e h1, h2.mono fun v x h => h.same e⟩
theorem SpH.spD {L : Addr} {ps : List (Int × Int)} (h : SpH K H L ps) : SpD K H L ps := by
  obtain ⟨us, h1, h2⟩ := h
  exact ⟨us, h1, h2.mono fun v x ⟨t, a, b⟩ => ⟨t, a, SqT.of b⟩⟩
theorem SpD.kpD {F L : Addr} {kvs : List (List Key × V)} {ps : List (Int × Int)} (h : SpD K H L ps) (e : Kp F H H') (hF : H F = some (.dT kvs)) : SpD K H' L ps := by
  obtain ⟨us, h1, h2⟩ := h
  refine ⟨us, ?_, h2.mono fun v x ⟨t, a, b⟩ => ⟨t, a, seqT_kpD e hF b⟩⟩
  have go : ∀ {o : HO}, H L = some o → o ≠ .dT kvs → H' L = some o := fun g n => e _ _ g fun z => by
    rw [z, hF] at g
    exact n (Option.some.inj g).symm
  rcases h1 with (h | ⟨o, h⟩) | h
  · exact .inl (.inl (go h (fun z => nomatch z)))
  · exact .inl (.inr ⟨o, go h (fun z => nomatch z)⟩)
  · exact .inr h
/-- costs by pairs, of the rows within M -/
def DCo (n : Nat) (f : Nat → Nat → Rat) (M : Rat) (ps : List (Int × Int)) (H : Hp) (D : Addr) : Prop := ∃ kvs : List (List Key × V), H D = some (.dT kvs) ∧ kvs.length ≤ 200 ∧ (∀ kv ∈ kvs, ∃ i j, kv.1 = ky i j ∧ AllR n i j) ∧ ∀ i j, AllR n i j → valV kvs (ky i j) = if M < f i j then none else some (.int (cst ps i j))
theorem DCo.same {n : Nat} {f : Nat → Nat → Rat} {M : Rat} {ps : List (Int × Int)} {D : Addr} (h : DCo n f M ps H D) (e : Same H H') : DCo n f M ps H' D := by
  obtain ⟨kvs, h1, h2, h3, h4⟩ := h
  exact ⟨kvs, e _ _ h1, h2, h3, h4⟩
end
theorem all_repl (n : Nat) : (List.replicate n true).all id = true := List.all_eq_true.mpr fun _ h => List.eq_of_mem_replicate h
/-! ### the numbers -/
def oV : Option Int → V
  | none => .non
  | some k => .int k
def minO : List Int → Option Int
  | [] => none
  | x :: r => some (r.foldl min x)
theorem minO_eq {ns : List Int} {m : Int} (h1 : m ∈ ns) (h2 : ∀ y ∈ ns, m ≤ y) : minO ns = some m := by
  cases ns with
  | nil => cases h1
  | cons a r =>
    have e1 := foldl_min_le r a
    have e2 := foldl_min_mem r a
    show some (r.foldl min a) = some m
    congr 1
    have e3 : m ≤ r.foldl min a := by
      rcases e2 with z | z
      · rw [z]
        exact h2 a List.mem_cons_self
      · exact h2 _ (List.mem_cons_of_mem _ z)
    have e4 : r.foldl min a ≤ m := by
      rcases List.mem_cons.mp h1 with rfl | z
      · exact e1.1
      · exact e1.2 m z
    omega
section
variable (f : Nat → Nat → Rat) (M : Rat) (ps : List (Int × Int))
def lead (L : List (Option Int)) (e b : Nat) : Bool := (L.getD b none).isSome && !decide (M < f b e)
def valN (L : List (Option Int)) (e b : Nat) : Int := (L.getD b none).getD 0 + cst ps b e
def leads (L : List (Option Int)) (e k : Nat) : List Nat := (List.range k).filter (lead f M L e)
def valsN (L : List (Option Int)) (e k : Nat) : List Int := (leads f M L e k).map (valN ps L e)
/-- the numbers for all places to k -/
def numL : Nat → List (Option Int)
  | 0 => [some 0]
  | k + 1 => numL k ++ [minO (valsN f M ps (numL k) (k + 1) (k + 1))]
end
section
variable {f : Nat → Nat → Rat} {M : Rat} {ps : List (Int × Int)}
theorem numL_len : ∀ k, (numL f M ps k).length = k + 1
  | 0 => rfl
  | k + 1 => by rw [numL, List.length_append, numL_len k]; rfl
theorem leads_succ (L : List (Option Int)) (e k : Nat) : leads f M L e (k + 1) = leads f M L e k ++ (if lead f M L e k = true then [k] else []) := by
  unfold leads
  rw [List.range_succ, List.filter_append]
  congr 1
  cases h : lead f M L e k <;> simp [h]
theorem leads_len (L : List (Option Int)) (e k : Nat) : (leads f M L e k).length ≤ k := by
  unfold leads
  refine Nat.le_trans (List.length_filter_le _ _) ?_
  rw [List.length_range]
  exact Nat.le_refl _
theorem leads_mem {L : List (Option Int)} {e k b : Nat} (h : b ∈ leads f M L e k) : b < k ∧ lead f M L e b = true := by
  unfold leads at h
  obtain ⟨h1, h2⟩ := List.mem_filter.mp h
  exact ⟨List.mem_range.mp h1, h2⟩
end
/-! ### promises -/
@[irreducible] def spIsRow (K : PySem.W.Frag) : Sp := fun vs H Q _ => ∃ (t : Addr) (n : Nat) (a b : Int), vs = [.ref t, .int n] ∧ SqT K H t [.int a, .int b] ∧ 0 ≤ a ∧ 1 ≤ b ∧ a + b ≤ n ∧ ∀ H', Same H H' → Q (.bl true) H'
@[irreducible] def spRowCost (K : PySem.W.Frag) : Sp := fun vs H Q _ => ∃ (b e : Int) (L : Addr) (ps : List (Int × Int)), vs = [.int b, .int e, .ref L] ∧ SpD K H L ps ∧ ∀ H', Same H H' → Q (.int (cst ps b e)) H'
@[irreducible] def spCheckCalm (K : PySem.W.Frag) : Sp := fun vs H Q _ => ∃ (v u : V) (a L : Addr) (b : Bx) (ws : List Int) (M : Rat) (ps : List (Int × Int)) (d : Bool), vs = [v, .ref a, u, .ref L, .str (sd d)] ∧ BxV K H v b ∧ b.Ok 450 ∧ IntsV K H a ws ∧ WOk ws ∧ PtV K H u M ∧ Sz 3900 M ∧ ¬ M < 1 ∧ SpH K H L ps ∧ KOk ws.length ps ∧ ∀ H', Same H H' → Q .non H'
@[irreducible] def spRowCosts (K : PySem.W.Frag) : Sp := fun vs H Q _ => ∃ (v u : V) (a L : Addr) (b : Bx) (ws : List Int) (M : Rat) (ps : List (Int × Int)) (d : Bool), vs = [v, .ref a, u, .ref L, .str (sd d)] ∧ BxV K H v b ∧ b.Ok 450 ∧ IntsV K H a ws ∧ WOk ws ∧ PtV K H u M ∧ Sz 3900 M ∧ SpD K H L ps ∧ ∀ D H', H D = none → Same H H' → DCo ws.length (fSh b ws d) M ps H' D → Q (.ref D) H'
@[irreducible] def spNumbers (K : PySem.W.Frag) : Sp := fun vs H Q _ => ∃ (v u : V) (a L : Addr) (b : Bx) (ws : List Int) (M : Rat) (ps : List (Int × Int)) (d : Bool), vs = [v, .ref a, u, .ref L, .str (sd d)] ∧ BxV K H v b ∧ b.Ok 450 ∧ IntsV K H a ws ∧ WOk ws ∧ PtV K H u M ∧ Sz 3900 M ∧ ¬ M < 1 ∧ SpH K H L ps ∧ KOk ws.length ps ∧ ∀ N H', H N = none → Same H H' → H' N = some (.lst ((numL (fSh b ws d) M ps ws.length).map oV)) → Q (.ref N) H'
@[irreducible] def spSpotsH (K : PySem.W.Frag) : Sp := fun vs H Q _ => ∃ (a : Addr) (ss : List Int) (n : Nat), vs = [.ref a] ∧ SqT K H a (ss.map V.int) ∧ SOk ss n ∧ n ≤ 12 ∧ ∀ L us H', H L = none → Same H H' → H' L = some (.lst us) → Al (PiH H') us (spotsM ss) → Q (.ref L) H'
@[irreducible] def spLKept (K : PySem.W.Frag) : Sp := fun vs H Q _ => ∃ (c : Addr) (n : Nat), vs = [.ref c, .int n] ∧ Bag H c ∧ 1 ≤ n ∧ n ≤ 12 ∧ ∀ L us ps H', H L = none → H' L = some (.lst us) → Al (PiH H') us ps → KOk n ps → Bag H' c → Kp c H H' → Q (.ref L) H'
@[irreducible] def spLCosts (K : PySem.W.Frag) : Sp := fun vs H Q _ => ∃ (D L : Addr) (n m : Nat) (u : V) (M : Rat) (f : Nat → Nat → Rat) (ps : List (Int × Int)), vs = [.ref D, .int n, u, .ref L] ∧ DSh K n (AllR n) f m H D ∧ n ≤ 12 ∧ (∀ i j, AllR n i j → Sz 3900 (f i j)) ∧ PtV K H u M ∧ Sz 3900 M ∧ SpD K H L ps ∧ ∀ N H', H N = none → Same H H' → H' N = some (.lst ((numL f M ps n).map oV)) → Q (.ref N) H'
section
variable {K : PySem.W.Frag} {H : Hp} {Q : VK} {E : XK} {vs : List V} {n m : Nat} {M : Rat} {ps : List (Int × Int)} {u v : V} {D L a t : Addr} {f : Nat → Nat → Rat} {ws : List Int} {b : Bx} {d : Bool} {i j k : Nat}
theorem isrow_step {x y : Int} (h : SqT K H t [.int x, .int y]) (h0 : 0 ≤ x) (h1 : 1 ≤ y) (h2 : x + y ≤ n) (q : ∀ H', Same H H' → Q (.bl true) H') (hvs : vs = [.ref t, .int n] := by rfl) : spIsRow K vs H Q E := by
  unfold spIsRow
  exact ⟨t, n, x, y, hvs, h, h0, h1, h2, q⟩
theorem rowcost_step {x y : Int} (h : SpD K H L ps) (q : ∀ H', Same H H' → Q (.int (cst ps x y)) H') (hvs : vs = [.int x, .int y, .ref L] := by rfl) : spRowCost K vs H Q E := by
  unfold spRowCost
  exact ⟨x, y, L, ps, hvs, h, q⟩
theorem checkcalm_step (hv : BxV K H v b) (hb : b.Ok i) (hi : i ≤ 450) (h : IntsV K H a ws) (hw : WOk ws) (hu : PtV K H u M) (hz : Sz j M) (hj : j ≤ 3900) (h1 : ¬ M < 1) (hL : SpH K H L ps) (hk : KOk ws.length ps) (q : ∀ H', Same H H' → Q .non H') (hvs : vs = [v, .ref a, u, .ref L, .str (sd d)] := by rfl) : spCheckCalm K vs H Q E := by
  unfold spCheckCalm
  exact ⟨v, u, a, L, b, ws, M, ps, d, hvs, hv, hb.mono hi, h, hw, hu, hz.mono hj, h1, hL, hk, q⟩
theorem rowcosts_step (hv : BxV K H v b) (hb : b.Ok i) (hi : i ≤ 450) (h : IntsV K H a ws) (hw : WOk ws) (hu : PtV K H u M) (hz : Sz j M) (hj : j ≤ 3900) (hL : SpD K H L ps) (q : ∀ D H', H D = none → Same H H' → DCo ws.length (fSh b ws d) M ps H' D → Q (.ref D) H') (hvs : vs = [v, .ref a, u, .ref L, .str (sd d)] := by rfl) : spRowCosts K vs H Q E := by
  unfold spRowCosts
  exact ⟨v, u, a, L, b, ws, M, ps, d, hvs, hv, hb.mono hi, h, hw, hu, hz.mono hj, hL, q⟩
theorem numbers_step (hv : BxV K H v b) (hb : b.Ok i) (hi : i ≤ 450) (h : IntsV K H a ws) (hw : WOk ws) (hu : PtV K H u M) (hz : Sz j M) (hj : j ≤ 3900) (h1 : ¬ M < 1) (hL : SpH K H L ps) (hk : KOk ws.length ps) (q : ∀ N H', H N = none → Same H H' → H' N = some (.lst ((numL (fSh b ws d) M ps ws.length).map oV)) → Q (.ref N) H') (hvs : vs = [v, .ref a, u, .ref L, .str (sd d)] := by rfl) : spNumbers K vs H Q E := by
  unfold spNumbers
  exact ⟨v, u, a, L, b, ws, M, ps, d, hvs, hv, hb.mono hi, h, hw, hu, hz.mono hj, h1, hL, hk, q⟩
theorem spotsH_step {ss : List Int} (h : SqT K H a (ss.map V.int)) (hs : SOk ss n) (hn : n ≤ 12) (q : ∀ L us H', H L = none → Same H H' → H' L = some (.lst us) → Al (PiH H') us (spotsM ss) → Q (.ref L) H') (hvs : vs = [.ref a] := by rfl) : spSpotsH K vs H Q E := by
  unfold spSpotsH
  exact ⟨a, ss, n, hvs, h, hs, hn, q⟩
theorem lkept_step {c : Addr} (hb : Bag H c) (h0 : 1 ≤ n) (h1 : n ≤ 12) (q : ∀ L us ps H', H L = none → H' L = some (.lst us) → Al (PiH H') us ps → KOk n ps → Bag H' c → Kp c H H' → Q (.ref L) H') (hvs : vs = [.ref c, .int n] := by rfl) : spLKept K vs H Q E := by
  unfold spLKept
  exact ⟨c, n, hvs, hb, h0, h1, q⟩
theorem lcosts_step (h : DSh K n (AllR n) f m H D) (hn : n ≤ 12) (hz : ∀ i j, AllR n i j → Sz 3900 (f i j)) (hu : PtV K H u M) (hM : Sz j M) (hj : j ≤ 3900) (hL : SpD K H L ps) (q : ∀ N H', H N = none → Same H H' → H' N = some (.lst ((numL f M ps n).map oV)) → Q (.ref N) H') (hvs : vs = [.ref D, .int n, u, .ref L] := by rfl) : spLCosts K vs H Q E := by
  unfold spLCosts
  exact ⟨D, L, n, m, u, M, f, ps, hvs, h, hn, hz, hu, hM.mono hj, hL, q⟩
end
theorem KOk.sub {n : Nat} {ps qs : List (Int × Int)} (h : KOk n qs) (s : List.Sublist ps qs) : KOk n ps :=
  ⟨fun p hp => h.r p (s.subset hp), h.u.sublist s, Nat.le_trans s.length_le h.l⟩
theorem take_mono {ss : List Int} {n : Nat} (h : SOk ss n) (i : Nat) : ∀ m, (ss.take i).sum ≤ (ss.take (i + m)).sum
  | 0 => Int.le_refl _
  | m + 1 => by
    have ih := take_mono h i m
    by_cases c : i + m < ss.length
    · have := h.getD c
      rw [show i + (m + 1) = i + m + 1 by omega, take_sum c]
      omega
    · rw [List.take_of_length_le (show ss.length ≤ i + (m + 1) by omega)]
      rw [List.take_of_length_le (show ss.length ≤ i + m by omega)] at ih
      exact ih
theorem spots_kok {ss : List Int} {n : Nat} (h : SOk ss n) (hn : n ≤ 12) : KOk n (spotsM ss) := by
  have hl := h.len
  refine ⟨fun p hp => ?_, ?_, by rw [spots_len]; omega⟩
  · obtain ⟨i, hi⟩ := List.getElem?_of_mem hp
    obtain ⟨lt, rfl⟩ := spots_get hi
    have h1 := h.take i
    have h2 := h.getD lt
    have h3 := h.take (i + 1)
    rw [take_sum lt] at h3
    exact ⟨h1.1, h2, h3.2⟩
  · unfold spotsM
    refine List.pairwise_map.mpr ?_
    refine List.Pairwise.imp_of_mem ?_ List.pairwise_lt_range
    intro i j hi hj lt e
    have hi := List.mem_range.mp hi
    have hj := List.mem_range.mp hj
    have e1 : (ss.take i).sum = (ss.take j).sum := congrArg Prod.fst e
    have g := h.getD hi
    have up := take_mono h (i + 1) (j - (i + 1))
    rw [show i + 1 + (j - (i + 1)) = j by omega] at up
    rw [take_sum hi] at up
    omega
theorem eqv_nilN : ∀ xs : List Int, PyData.eqv (.list (xs.map PyData.int)) (.list (([] : List Int).map PyData.int)) = xs.isEmpty
  | [] => rfl
  | _ :: _ => rfl
theorem valsN_succ {f : Nat → Nat → Rat} {M : Rat} {ps : List (Int × Int)} (L : List (Option Int)) (e k : Nat) : valsN f M ps L e (k + 1) = valsN f M ps L e k ++ (if lead f M L e k = true then [valN ps L e k] else []) := by
  unfold valsN
  rw [leads_succ, List.map_append]
  split <;> rfl
theorem valsN_len {f : Nat → Nat → Rat} {M : Rat} {ps : List (Int × Int)} (L : List (Option Int)) (e k : Nat) : (valsN f M ps L e k).length ≤ k := by
  unfold valsN
  rw [List.length_map]
  exact leads_len L e k
def oD : Option Int → PyData
  | none => .none
  | some k => .int k
theorem dp_oV (K : PySem.W.Frag) (H : Hp) : ∀ xs : List (Option Int), DpAll K H (xs.map oV) (xs.map oD)
  | [] => .nil
  | none :: r => .cons .non (dp_oV K H r)
  | some k :: r => .cons (.int _) (dp_oV K H r)
theorem dle_oV {xs : List (Option Int)} (h : xs.length ≤ 1000) : dle 6 (.list (xs.map oD)) = true := by
  simp only [dle, Bool.and_eq_true, decide_eq_true_eq, List.all_eq_true, List.length_map]
  refine ⟨h, fun x hx => ?_⟩
  obtain ⟨y, _, rfl⟩ := List.mem_map.mp hx
  cases y <;> rfl
/-- kept rows at L -/
def KpL (H : Hp) (L : Addr) (us : List V) (ps : List (Int × Int)) : Prop := H L = some (.lst us) ∧ Al (PiH H) us ps
theorem KpL.same {H H' : Hp} {L : Addr} {us : List V} {ps : List (Int × Int)} (h : KpL H L us ps) (e : Same H H') : KpL H' L us ps := ⟨e _ _ h.1, h.2.mono fun v x h => h.same e⟩
theorem KpL.bag {H H' : Hp} {L b : Addr} {us : List V} {ps : List (Int × Int)} (h : KpL H L us ps) (n : L ≠ b) (e : Kp b H H') (hB : Bag H b) : KpL H' L us ps := by
  obtain ⟨ys, hy⟩ := hB.lst
  exact ⟨e _ _ h.1 n, h.2.mono fun v x h => h.kp e hy⟩
theorem KpL.sp {K : PySem.W.Frag} {H : Hp} {L : Addr} {us : List V} {ps : List (Int × Int)} (h : KpL H L us ps) : SpH K H L ps := ⟨us, SqL.of h.1, h.2⟩
end Cc
/-! XKal: the least cost from each place on, calm sizes. -/
namespace Cc
open PySem PySem.Spec PyProof.Rows L2
/-- B: the least cost of rows within M from a place on -/
structure Bco (f : Nat → Nat → Rat) (M : Rat) (ps : List (Int × Int)) (n i : Nat) (B : Nat → Option Int) : Prop where
  e : B n = some 0
  hit : ∀ b, i ≤ b → b < n → ∀ k, B b = some k → ∃ e k', b < e ∧ e ≤ n ∧ ¬ M < f b e ∧ B e = some k' ∧ k = cst ps b e + k'
  le : ∀ b, i ≤ b → b < n → ∀ e k', b < e → e ≤ n → ¬ M < f b e → B e = some k' → ∃ k, B b = some k ∧ k ≤ cst ps b e + k'
section
variable {f : Nat → Nat → Rat} {M : Rat} {ps : List (Int × Int)} {n : Nat} {B : Nat → Option Int}
/-- a row from b to e can be one of those that cost the least -/
def cheap (f : Nat → Nat → Rat) (M : Rat) (ps : List (Int × Int)) (B : Nat → Option Int) (b e : Nat) : Bool := (B e).isSome && !decide (M < f b e) && decide (B b = some (cst ps b e + (B e).getD 0))
theorem Bco.cheap (h : Bco f M ps n 0 B) {b : Nat} (hb : b < n) {k : Int} (hk : B b = some k) : ∃ e, b + 1 ≤ e ∧ e ≤ n ∧ cheap f M ps B b e = true := by
  obtain ⟨e, k', h1, h2, h3, h4, h5⟩ := h.hit b (Nat.zero_le _) hb k hk
  refine ⟨e, h1, h2, ?_⟩
  unfold Cc.cheap
  rw [h4, hk, decide_eq_false h3, h5]
  simp
theorem cheap_some {b e : Nat} (h : cheap f M ps B b e = true) : ∃ k', B e = some k' ∧ ¬ M < f b e ∧ B b = some (cst ps b e + k') := by
  unfold cheap at h
  rw [Bool.and_eq_true, Bool.and_eq_true] at h
  obtain ⟨⟨h1, h2⟩, h3⟩ := h
  cases hB : B e with
  | none =>
    rw [hB] at h1
    cases h1
  | some k' =>
    refine ⟨k', rfl, fun z => ?_, ?_⟩
    · rw [decide_eq_true z] at h2
      cases h2
    · have := of_decide_eq_true h3
      rw [hB] at this
      exact this
theorem cheap_val {b e : Nat} {k w : Int} (h1 : B e = some w) (h2 : B b = some k) (h3 : ¬ M < f b e) : cheap f M ps B b e = decide (V.int (cst ps b e + w) = V.int k) := by
  rw [Bool.eq_iff_iff, decide_eq_true_iff]
  constructor
  · intro h
    obtain ⟨k', e1, _, e3⟩ := cheap_some h
    rw [h1] at e1
    cases e1
    rw [h2] at e3
    rw [Option.some.inj e3]
  · intro h
    injection h with h
    unfold cheap
    simp [h1, h2, h, decide_eq_false h3]
/-- the first end from e on that is so -/
def cEnd (f : Nat → Nat → Rat) (M : Rat) (ps : List (Int × Int)) (B : Nat → Option Int) (n b e : Nat) : Nat := if e < n ∧ cheap f M ps B b e = false then cEnd f M ps B n b (e + 1) else e
termination_by n - e
theorem cEnd_go {b e : Nat} (h : e < n ∧ cheap f M ps B b e = false) : cEnd f M ps B n b e = cEnd f M ps B n b (e + 1) := by rw [cEnd, if_pos h]
theorem cEnd_stop {b e : Nat} (h : ¬ (e < n ∧ cheap f M ps B b e = false)) : cEnd f M ps B n b e = e := by rw [cEnd, if_neg h]
theorem cEnd_ge {b : Nat} : ∀ k e, n - e ≤ k → e ≤ cEnd f M ps B n b e
  | 0, e, h => by
    rw [cEnd_stop (by omega)]
    exact Nat.le_refl _
  | k + 1, e, h => by
    by_cases c : e < n ∧ cheap f M ps B b e = false
    · rw [cEnd_go c]
      have := cEnd_ge (b := b) k (e + 1) (by omega)
      omega
    · rw [cEnd_stop c]
      exact Nat.le_refl _
theorem cEnd_le {b : Nat} : ∀ k e, n - e ≤ k → e ≤ n → cEnd f M ps B n b e ≤ n
  | 0, e, h, h2 => by
    rw [cEnd_stop (by omega)]
    exact h2
  | k + 1, e, h, h2 => by
    by_cases c : e < n ∧ cheap f M ps B b e = false
    · rw [cEnd_go c]
      exact cEnd_le k (e + 1) (by omega) (by omega)
    · rw [cEnd_stop c]
      exact h2
theorem cEnd_hit {b : Nat} : ∀ k e, n - e ≤ k → e ≤ n → (∃ e', e ≤ e' ∧ e' ≤ n ∧ cheap f M ps B b e' = true) → cheap f M ps B b (cEnd f M ps B n b e) = true
  | 0, e, h, h2, ⟨e', h3, h4, h5⟩ => by
    rw [cEnd_stop (by omega), show e = e' by omega]
    exact h5
  | k + 1, e, h, h2, ⟨e', h3, h4, h5⟩ => by
    by_cases c : e < n ∧ cheap f M ps B b e = false
    · rw [cEnd_go c]
      refine cEnd_hit k (e + 1) (by omega) (by omega) ⟨e', ?_, h4, h5⟩
      by_cases z : e' = e
      · rw [z, c.2] at h5
        cases h5
      · omega
    · rw [cEnd_stop c]
      by_cases z : e < n
      · cases hc : cheap f M ps B b e with
        | true => rfl
        | false => exact absurd ⟨z, hc⟩ c
      · rw [show e = e' by omega]
        exact h5
/-- the calm sizes from b on -/
def calmL (f : Nat → Nat → Rat) (M : Rat) (ps : List (Int × Int)) (B : Nat → Option Int) (n b : Nat) : List Int := if b < n then ((cEnd f M ps B n b (b + 1) - b : Nat) : Int) :: calmL f M ps B n (cEnd f M ps B n b (b + 1)) else []
termination_by n - b
decreasing_by
  have := cEnd_ge (f := f) (M := M) (ps := ps) (B := B) (n := n) (b := b) (n - (b + 1)) (b + 1) (Nat.le_refl _)
  omega
theorem calmL_go {b : Nat} (h : b < n) : calmL f M ps B n b = ((cEnd f M ps B n b (b + 1) - b : Nat) : Int) :: calmL f M ps B n (cEnd f M ps B n b (b + 1)) := by rw [calmL, if_pos h]
theorem calmL_stop {b : Nat} (h : ¬ b < n) : calmL f M ps B n b = [] := by rw [calmL, if_neg h]
theorem calmL_ok : ∀ k b, n - b ≤ k → b ≤ n → (∀ x ∈ calmL f M ps B n b, 1 ≤ x) ∧ (calmL f M ps B n b).sum = (n : Int) - b
  | 0, b, h, hb => by
    rw [calmL_stop (by omega)]
    refine ⟨by simp, ?_⟩
    rw [List.sum_nil]
    omega
  | k + 1, b, h, hb => by
    by_cases c : b < n
    · have g1 := cEnd_ge (f := f) (M := M) (ps := ps) (B := B) (n := n) (b := b) (n - (b + 1)) (b + 1) (Nat.le_refl _)
      have g2 := cEnd_le (f := f) (M := M) (ps := ps) (B := B) (n := n) (b := b) (n - (b + 1)) (b + 1) (Nat.le_refl _) (by omega)
      obtain ⟨h1, h2⟩ := calmL_ok k (cEnd f M ps B n b (b + 1)) (by omega) g2
      rw [calmL_go c]
      refine ⟨fun x hx => ?_, ?_⟩
      · rcases List.mem_cons.mp hx with rfl | hx
        · omega
        · exact h1 x hx
      · rw [List.sum_cons, h2]
        omega
    · rw [calmL_stop c]
      refine ⟨by simp, ?_⟩
      rw [List.sum_nil]
      omega
theorem calm_sok : SOk (calmL f M ps B n 0) n := by
  obtain ⟨h1, h2⟩ := calmL_ok (f := f) (M := M) (ps := ps) (B := B) (n := n) n 0 (by omega) (by omega)
  exact ⟨h1, by rw [h2]; omega⟩
end
theorem getD_set {us : List (Option Int)} {b e : Nat} {x : Option Int} (hb : b < us.length) : (us.set b x).getD e none = if e = b then x else us.getD e none := by
  rw [List.getD_eq_getElem?_getD, List.getD_eq_getElem?_getD]
  by_cases z : e = b
  · rw [if_pos z, z, List.getElem?_set_self hb]
    rfl
  · rw [if_neg z, List.getElem?_set_ne (Ne.symm z)]
theorem Bco.step {f : Nat → Nat → Rat} {M : Rat} {ps : List (Int × Int)} {n b : Nat} {us : List (Option Int)} {x : Option Int} (hb : b < n) (hl : us.length = n + 1) (h : Bco f M ps n (b + 1) (fun e => us.getD e none))
    (h1 : ∀ k, x = some k → ∃ e k', b < e ∧ e ≤ n ∧ ¬ M < f b e ∧ us.getD e none = some k' ∧ k = cst ps b e + k') (h2 : ∀ e k', b < e → e ≤ n → ¬ M < f b e → us.getD e none = some k' → ∃ k, x = some k ∧ k ≤ cst ps b e + k') :
    Bco f M ps n b (fun e => (us.set b x).getD e none) := by
  have g : ∀ e, (us.set b x).getD e none = if e = b then x else us.getD e none := fun e => getD_set (by omega)
  refine ⟨?_, fun b' hi lt k hk => ?_, fun b' hi lt e k' q1 q2 q3 q4 => ?_⟩
  · try dsimp only
    rw [g, if_neg (by omega)]
    exact h.e
  · try dsimp only at hk
    rw [g] at hk
    by_cases z : b' = b
    · rw [if_pos z] at hk
      obtain ⟨e, k', r1, r2, r3, r4, r5⟩ := h1 k hk
      rw [z]
      refine ⟨e, k', r1, r2, r3, ?_, r5⟩
      try dsimp only
      rw [g, if_neg (by omega)]
      exact r4
    · rw [if_neg z] at hk
      obtain ⟨e, k', r1, r2, r3, r4, r5⟩ := h.hit b' (by omega) lt k hk
      refine ⟨e, k', r1, r2, r3, ?_, r5⟩
      try dsimp only
      rw [g, if_neg (by omega)]
      exact r4
  · try dsimp only at q4 ⊢
    rw [g, if_neg (by omega)] at q4
    rw [g]
    by_cases z : b' = b
    · rw [if_pos z]
      subst z
      exact h2 e k' q1 q2 q3 q4
    · rw [if_neg z]
      exact h.le b' (by omega) lt e k' q1 q2 q3 q4
section
variable (f : Nat → Nat → Rat) (M : Rat) (ps : List (Int × Int))
def leadE (L : List (Option Int)) (b e : Nat) : Bool := (L.getD e none).isSome && !decide (M < f b e)
def valE (L : List (Option Int)) (b e : Nat) : Int := cst ps b e + (L.getD e none).getD 0
def leadsE (L : List (Option Int)) (b k : Nat) : List Nat := ((List.range k).map fun j => b + 1 + j).filter (leadE f M L b)
end
theorem leadsE_succ {f : Nat → Nat → Rat} {M : Rat} (L : List (Option Int)) (b k : Nat) : leadsE f M L b (k + 1) = leadsE f M L b k ++ (if leadE f M L b (b + 1 + k) = true then [b + 1 + k] else []) := by
  unfold leadsE
  rw [List.range_succ, List.map_append, List.filter_append]
  congr 1
  cases h : leadE f M L b (b + 1 + k) <;> simp [h]
theorem leadsE_len {f : Nat → Nat → Rat} {M : Rat} (L : List (Option Int)) (b k : Nat) : (leadsE f M L b k).length ≤ k := by
  unfold leadsE
  refine Nat.le_trans (List.length_filter_le _ _) ?_
  rw [List.length_map, List.length_range]
  exact Nat.le_refl _
theorem leadsE_mem {f : Nat → Nat → Rat} {M : Rat} {L : List (Option Int)} {b k e : Nat} : e ∈ leadsE f M L b k ↔ (b + 1 ≤ e ∧ e < b + 1 + k) ∧ leadE f M L b e = true := by
  unfold leadsE
  rw [List.mem_filter, List.mem_map]
  constructor
  · rintro ⟨⟨j, hj, rfl⟩, h⟩
    have := List.mem_range.mp hj
    exact ⟨⟨by omega, by omega⟩, h⟩
  · rintro ⟨⟨h1, h2⟩, h⟩
    exact ⟨⟨e - (b + 1), List.mem_range.mpr (by omega), by omega⟩, h⟩
theorem leadE_iff {f : Nat → Nat → Rat} {M : Rat} {L : List (Option Int)} {b e : Nat} : leadE f M L b e = true ↔ ∃ w, L.getD e none = some w ∧ ¬ M < f b e := by
  unfold leadE
  rw [Bool.and_eq_true, Option.isSome_iff_exists]
  constructor
  · rintro ⟨⟨w, h1⟩, h2⟩
    refine ⟨w, h1, fun z => ?_⟩
    rw [decide_eq_true z] at h2
    cases h2
  · rintro ⟨w, h1, h2⟩
    exact ⟨⟨w, h1⟩, by rw [decide_eq_false h2]; rfl⟩
/-! ### promises -/
@[irreducible] def spBehind (K : PySem.W.Frag) : Sp := fun vs H Q _ => ∃ (D : Addr) (n : Nat) (f : Nat → Nat → Rat) (M : Rat) (ps : List (Int × Int)), vs = [.ref D, .int n] ∧ DCo n f M ps H D ∧ n ≤ 12 ∧ ∀ F (us : List (Option Int)) H', H F = none → Same H H' → H' F = some (.lst (us.map oV)) → us.length = n + 1 → Bco f M ps n 0 (fun e => us.getD e none) → Q (.ref F) H'
@[irreducible] def spCheap (K : PySem.W.Frag) : Sp := fun vs H Q _ => ∃ (D F : Addr) (n b e : Nat) (k : Int) (f : Nat → Nat → Rat) (M : Rat) (ps : List (Int × Int)) (us : List (Option Int)), vs = [.ref D, .ref F, .int b, .int e] ∧ DCo n f M ps H D ∧ H F = some (.lst (us.map oV)) ∧ us.length = n + 1 ∧ b < e ∧ e ≤ n ∧ us.getD b none = some k ∧ ∀ H', Same H H' → Q (.bl (cheap f M ps (fun e => us.getD e none) b e)) H'
@[irreducible] def spCalm (K : PySem.W.Frag) : Sp := fun vs H Q _ => ∃ (v u : V) (a L : Addr) (b : Bx) (ws : List Int) (M : Rat) (ps : List (Int × Int)) (d : Bool), vs = [v, .ref a, u, .ref L, .str (sd d)] ∧ BxV K H v b ∧ b.Ok 450 ∧ IntsV K H a ws ∧ WOk ws ∧ PtV K H u M ∧ Sz 3900 M ∧ ¬ M < 1 ∧ SpH K H L ps ∧ KOk ws.length ps ∧ ∀ B : Nat → Option Int, Bco (fSh b ws d) M ps ws.length 0 B → (B 0 = none → ∀ H', Same H H' → Q .non H') ∧ ∀ k, B 0 = some k → ∀ t s H', Same H H' → H' t = some (.tup [.ref s, .int k]) → H' s = some (.tup ((calmL (fSh b ws d) M ps B ws.length 0).map V.int)) → Q (.ref t) H'
section
variable {K : PySem.W.Frag} {H : Hp} {Q : VK} {E : XK} {vs : List V} {n i j : Nat} {M : Rat} {ps : List (Int × Int)} {u v : V} {D F L a : Addr} {f : Nat → Nat → Rat} {ws : List Int} {b : Bx} {d : Bool}
theorem behind_step (h : DCo n f M ps H D) (hn : n ≤ 12) (q : ∀ F (us : List (Option Int)) H', H F = none → Same H H' → H' F = some (.lst (us.map oV)) → us.length = n + 1 → Bco f M ps n 0 (fun e => us.getD e none) → Q (.ref F) H') (hvs : vs = [.ref D, .int n] := by rfl) : spBehind K vs H Q E := by
  unfold spBehind
  exact ⟨D, n, f, M, ps, hvs, h, hn, q⟩
theorem cheap_step {x y : Nat} {k : Int} {us : List (Option Int)} (h : DCo n f M ps H D) (hF : H F = some (.lst (us.map oV))) (hl : us.length = n + 1) (h1 : x < y) (h2 : y ≤ n) (hk : us.getD x none = some k) (q : ∀ H', Same H H' → Q (.bl (cheap f M ps (fun e => us.getD e none) x y)) H') (hvs : vs = [.ref D, .ref F, .int x, .int y] := by rfl) : spCheap K vs H Q E := by
  unfold spCheap
  exact ⟨D, F, n, x, y, k, f, M, ps, us, hvs, h, hF, hl, h1, h2, hk, q⟩
theorem calm_step (hv : BxV K H v b) (hb : b.Ok i) (hi : i ≤ 450) (h : IntsV K H a ws) (hw : WOk ws) (hu : PtV K H u M) (hz : Sz j M) (hj : j ≤ 3900) (h1 : ¬ M < 1) (hL : SpH K H L ps) (hk : KOk ws.length ps) (q : ∀ B : Nat → Option Int, Bco (fSh b ws d) M ps ws.length 0 B → (B 0 = none → ∀ H', Same H H' → Q .non H') ∧ ∀ k, B 0 = some k → ∀ t s H', Same H H' → H' t = some (.tup [.ref s, .int k]) → H' s = some (.tup ((calmL (fSh b ws d) M ps B ws.length 0).map V.int)) → Q (.ref t) H') (hvs : vs = [v, .ref a, u, .ref L, .str (sd d)] := by rfl) : spCalm K vs H Q E := by
  unfold spCalm
  exact ⟨v, u, a, L, b, ws, M, ps, d, hvs, hv, hb.mono hi, h, hw, hu, hz.mono hj, h1, hL, hk, q⟩
end
@[irreducible] def spLCost (K : PySem.W.Frag) : Sp := fun vs H Q _ => ∃ (v : V) (o : Option Int), vs = [v] ∧ (∀ k, o = some k → ∃ t x, v = .ref t ∧ SqT K H t [x, .int k]) ∧ (o = none → v = .non) ∧ Q (.int (o.getD 99)) H
theorem lcost_step {K : PySem.W.Frag} {H : Hp} {Q : VK} {E : XK} {vs : List V} {v : V} (o : Option Int) (h1 : ∀ k, o = some k → ∃ t x, v = .ref t ∧ SqT K H t [x, .int k]) (h2 : o = none → v = .non) (q : Q (.int (o.getD 99)) H) (hvs : vs = [v] := by rfl) : spLCost K vs H Q E := by
  unfold spLCost
  exact ⟨v, o, hvs, h1, h2, q⟩
/-! ### costs against one another -/
section
variable {f : Nat → Nat → Rat} {M M' : Rat} {ps ps' : List (Int × Int)} {n : Nat} {B B' : Nat → Option Int} {g : Nat → Rat}
/-- a cost is no less than nought, no more than the things -/
theorem Bco.range (h : Bco f M ps n 0 B) : ∀ k b, n - b ≤ k → b ≤ n → ∀ c, B b = some c → 0 ≤ c ∧ c ≤ (n : Int) - b
  | 0, b, hk, hb, c, hc => by
    rw [show b = n by omega, h.e] at hc
    cases hc
    omega
  | k + 1, b, hk, hb, c, hc => by
    by_cases z : b = n
    · rw [z, h.e] at hc
      cases hc
      omega
    · obtain ⟨e, c', h1, h2, _, h4, h5⟩ := h.hit b (Nat.zero_le _) (by omega) c hc
      have h6 := Bco.range h k e (by omega) h2 c' h4
      have h7 := cst_01 ps b e
      omega
/-- there are rows within M from b on where the least worst shape is not above it -/
theorem Bco.some_iff (h : Bco f M ps n 0 B) (hG : Bst f n 0 g) (hM : 1 ≤ M) : ∀ k b, n - b ≤ k → b ≤ n → ((∃ c, B b = some c) ↔ g b ≤ M)
  | 0, b, hk, hb => by
    rw [show b = n by omega, h.e, hG.e]
    exact ⟨fun _ => hM, fun _ => ⟨0, rfl⟩⟩
  | k + 1, b, hk, hb => by
    by_cases z : b = n
    · rw [z, h.e, hG.e]
      exact ⟨fun _ => hM, fun _ => ⟨0, rfl⟩⟩
    · constructor
      · rintro ⟨c, hc⟩
        obtain ⟨e, c', h1, h2, h3, h4, h5⟩ := h.hit b (Nat.zero_le _) (by omega) c hc
        have h6 := (Bco.some_iff h hG hM k e (by omega) h2).mp ⟨c', h4⟩
        have h7 := hG.le b (Nat.zero_le _) (by omega) e h1 h2
        have h8 := gr_le' h6 h3
        grind
      · intro hb'
        obtain ⟨e, h1, h2, h3⟩ := hG.on (by omega) hb'
        have h4 := gr_le h3
        obtain ⟨c', h5⟩ := (Bco.some_iff h hG hM k e (by omega) h2).mpr h4.2
        obtain ⟨c, h6, _⟩ := h.le b (Nat.zero_le _) (by omega) e c' (by omega) h2 (Rat.not_lt.mpr h4.1) h5
        exact ⟨c, h6⟩
/-- a greater bound, rows that cost no more: no dearer, but by r -/
theorem Bco.cmp (r : Nat → Int) (h : Bco f M ps n 0 B) (h' : Bco f M' ps' n 0 B') (hr : 0 ≤ r n) (hM : ∀ b e, b < e → e ≤ n → ¬ M < f b e → ¬ M' < f b e ∧ cst ps' b e + r e ≤ cst ps b e + r b) : ∀ k b, n - b ≤ k → b ≤ n → ∀ c, B b = some c → ∃ c', B' b = some c' ∧ c' ≤ c + r b
  | 0, b, hk, hb, c, hc => by
    rw [show b = n by omega, h.e] at hc
    cases hc
    rw [show b = n by omega, h'.e]
    exact ⟨0, rfl, by omega⟩
  | k + 1, b, hk, hb, c, hc => by
    by_cases z : b = n
    · rw [z, h.e] at hc
      cases hc
      rw [z, h'.e]
      exact ⟨0, rfl, by omega⟩
    · obtain ⟨e, c1, h1, h2, h3, h4, h5⟩ := h.hit b (Nat.zero_le _) (by omega) c hc
      obtain ⟨c2, h6, h7⟩ := Bco.cmp r h h' hr hM k e (by omega) h2 c1 h4
      obtain ⟨h8, h9⟩ := hM b e h1 h2 h3
      obtain ⟨c3, h10, h11⟩ := h'.le b (Nat.zero_le _) (by omega) e c2 h1 h2 h8 h6
      exact ⟨c3, h10, by omega⟩
/-- how many pairs of l with q begin at b or behind -/
def cntQ (q : Int × Int → Bool) (b : Nat) (l : List (Int × Int)) : Nat := l.countP fun p => decide ((b : Int) ≤ p.1) && q p
theorem cntQ_step {q : Int × Int → Bool} {b e : Nat} (h : b < e) : ∀ l : List (Int × Int), cntQ q e l + (if ((b : Int), (e : Int) - b) ∈ l ∧ q ((b : Int), (e : Int) - b) = true then 1 else 0) ≤ cntQ q b l
  | [] => by simp [cntQ]
  | x :: l => by
    have ih := cntQ_step (q := q) h l
    unfold cntQ at ih ⊢
    rw [List.countP_cons, List.countP_cons]
    by_cases c : x = ((b : Int), (e : Int) - b)
    · subst c
      have e1 : decide ((e : Int) ≤ (b : Int)) = false := decide_eq_false (by omega)
      have e2 : decide ((b : Int) ≤ (b : Int)) = true := decide_eq_true (Int.le_refl _)
      simp only [e1, e2, Bool.false_and, Bool.true_and, Bool.false_eq_true, if_false, List.mem_cons, true_or, true_and]
      split at ih <;> split <;> omega
    · have c2 : ¬ ((b : Int), (e : Int) - b) = x := fun z => c z.symm
      simp only [List.mem_cons, c2, false_or]
      by_cases d : (e : Int) ≤ x.1
      · have e1 : decide ((e : Int) ≤ x.1) = true := decide_eq_true d
        have e2 : decide ((b : Int) ≤ x.1) = true := decide_eq_true (by omega)
        rw [e1, e2]
        omega
      · have e1 : decide ((e : Int) ≤ x.1) = false := decide_eq_false d
        rw [e1, Bool.false_and, if_neg Bool.false_ne_true]
        omega
theorem cst_few {b e : Nat} (h : b < e) (hs : ∀ p ∈ ps', p ∈ ps) : cst ps' b e + (cntQ (fun p => !decide (p ∈ ps')) e ps : Int) ≤ cst ps b e + (cntQ (fun p => !decide (p ∈ ps')) b ps : Int) := by
  have h1 := cntQ_step (q := fun p => !decide (p ∈ ps')) h ps
  unfold cst
  by_cases c : ((b : Int), (e : Int) - b) ∈ ps
  · rw [if_pos c]
    by_cases c' : ((b : Int), (e : Int) - b) ∈ ps'
    · rw [if_pos c']
      split at h1 <;> omega
    · rw [if_neg c']
      rw [if_pos ⟨c, by rw [decide_eq_false c']; rfl⟩] at h1
      omega
  · rw [if_neg c, if_neg (fun z => c (hs _ z))]
    split at h1 <;> omega
theorem cnt_few (s : List.Sublist ps' ps) : cntQ (fun p => !decide (p ∈ ps')) 0 ps + ps'.length ≤ ps.length := by
  have h1 : cntQ (fun p => !decide (p ∈ ps')) 0 ps ≤ ps.countP fun p => !decide (p ∈ ps') := by
    unfold cntQ
    refine List.countP_mono_left fun x _ hx => ?_
    rw [Bool.and_eq_true] at hx
    exact hx.2
  have h2 : ps'.length ≤ ps.countP fun p => decide (p ∈ ps') := by
    have e : ps'.countP (fun p => decide (p ∈ ps')) = ps'.length := List.countP_eq_length.mpr fun a ha => decide_eq_true ha
    rw [← e]
    exact s.countP_le
  have h3 := List.length_eq_countP_add_countP (fun p => decide (p ∈ ps')) (l := ps)
  have h4 : (ps.countP fun p => !decide (p ∈ ps')) = ps.countP fun p => decide ¬(decide (p ∈ ps') = true) := by
    congr 1
    funext p
    simp
  omega
end
/-! ### sizes whose rows are all kept -/
/-- each row of ss is within M -/
def InM (f : Nat → Nat → Rat) (M : Rat) (ss : List Int) : Prop := ∀ j, j < ss.length → ¬ M < f (off ss j) (off ss (j + 1))
section
variable {f : Nat → Nat → Rat} {M : Rat} {ps : List (Int × Int)} {n : Nat} {B : Nat → Option Int} {ss : List Int}
theorem off_zero (ss : List Int) : off ss 0 = 0 := by simp [off]
theorem spot_mem (h : SOk ss n) {j : Nat} (hj : j < ss.length) : (((off ss j : Nat) : Int), ((off ss (j + 1) : Nat) : Int) - ((off ss j : Nat) : Int)) ∈ spotsM ss := by
  have e1 := h.off_int j
  have e2 := h.off_int (j + 1)
  rw [take_sum hj] at e2
  unfold spotsM
  refine List.mem_map.mpr ⟨j, List.mem_range.mpr hj, ?_⟩
  rw [e1, e2]
  refine Prod.ext rfl ?_
  show ss.getD j 0 = (ss.take j).sum + ss.getD j 0 - (ss.take j).sum
  omega
theorem own_zero (h : Bco f M ps n 0 B) (hS : SOk ss n) (hM : InM f M ss) (hp : ∀ p ∈ spotsM ss, p ∈ ps) : ∀ k, k ≤ ss.length → B (off ss (ss.length - k)) = some 0
  | 0, _ => by
    rw [Nat.sub_zero, hS.off_len]
    exact h.e
  | k + 1, hk => by
    have ih := own_zero h hS hM hp k (by omega)
    have hj : ss.length - (k + 1) < ss.length := by omega
    have e : ss.length - k = ss.length - (k + 1) + 1 := by omega
    have h1 := hS.off_succ hj
    have h2 := hS.getD hj
    have h3 := hS.off_le (ss.length - (k + 1) + 1)
    rw [e] at ih
    obtain ⟨c, h4, h5⟩ := h.le (off ss (ss.length - (k + 1))) (Nat.zero_le _) (by omega) (off ss (ss.length - (k + 1) + 1)) 0 (by omega) h3 (hM _ hj) ih
    have h6 := h.range n (off ss (ss.length - (k + 1))) (by omega) (by omega) c h4
    have h7 : cst ps (off ss (ss.length - (k + 1))) (off ss (ss.length - (k + 1) + 1)) = 0 := by
      unfold cst
      rw [if_pos (hp _ (spot_mem hS hj))]
    rw [h4]
    congr 1
    omega
/-- a kept row from a place of ss's own is ss's own -/
theorem spot_own (h : SOk ss n) {j : Nat} {e : Int} (hj : j < ss.length) (hm : (((off ss j : Nat) : Int), e - ((off ss j : Nat) : Int)) ∈ spotsM ss) : e = ((off ss (j + 1) : Nat) : Int) := by
  obtain ⟨i, hi⟩ := List.getElem?_of_mem hm
  obtain ⟨lt, eq⟩ := spots_get hi
  have e1 : ((off ss j : Nat) : Int) = (ss.take i).sum := congrArg Prod.fst eq
  have e2 : e - ((off ss j : Nat) : Int) = ss.getD i 0 := congrArg Prod.snd eq
  have q1 := h.off_int j
  have q2 := h.off_int (j + 1)
  rw [take_sum hj] at q2
  have ij : i = j := by
    rcases Nat.lt_trichotomy i j with z | z | z
    · have := take_mono h (i + 1) (j - (i + 1))
      rw [show i + 1 + (j - (i + 1)) = j by omega, take_sum lt] at this
      have := h.getD lt
      omega
    · exact z
    · have := take_mono h (j + 1) (i - (j + 1))
      rw [show j + 1 + (i - (j + 1)) = i by omega, take_sum hj] at this
      have := h.getD hj
      omega
  subst ij
  omega
theorem calm_own (h : Bco f M ps n 0 B) (hS : SOk ss n) (hM : InM f M ss) (hp : ∀ p, p ∈ ps ↔ p ∈ spotsM ss) : ∀ k, k ≤ ss.length → calmL f M ps B n (off ss (ss.length - k)) = ss.drop (ss.length - k)
  | 0, _ => by
    rw [Nat.sub_zero, hS.off_len, calmL_stop (by omega), List.drop_length]
  | k + 1, hk => by
    have ih := calm_own h hS hM hp k (by omega)
    have hj : ss.length - (k + 1) < ss.length := by omega
    have e : ss.length - k = ss.length - (k + 1) + 1 := by omega
    have h1 := hS.off_succ hj
    have h2 := hS.getD hj
    have h3 := hS.off_le (ss.length - (k + 1) + 1)
    have z0 := own_zero h hS hM (fun p hp' => (hp p).mpr hp') (k + 1) hk
    have z1 := own_zero h hS hM (fun p hp' => (hp p).mpr hp') k (by omega)
    rw [e] at ih z1
    generalize ss.length - (k + 1) = j at *
    have hhit := cEnd_hit (f := f) (M := M) (ps := ps) (B := B) (n := n) (b := off ss j) (n - (off ss j + 1)) (off ss j + 1) (Nat.le_refl _) (by omega) (h.cheap (by omega) z0)
    obtain ⟨k', q1, q2, q3⟩ := cheap_some hhit
    have hle := cEnd_le (f := f) (M := M) (ps := ps) (B := B) (n := n) (b := off ss j) (n - (off ss j + 1)) (off ss j + 1) (Nat.le_refl _) (by omega)
    have h6 := h.range n _ (by omega) hle k' q1
    have h7 := cst_01 ps (off ss j) (cEnd f M ps B n (off ss j) (off ss j + 1))
    rw [z0] at q3
    have q3 := Option.some.inj q3
    have h8 : cst ps (off ss j) (cEnd f M ps B n (off ss j) (off ss j + 1)) = 0 := by omega
    have h9 : (((off ss j : Nat) : Int), ((cEnd f M ps B n (off ss j) (off ss j + 1) : Nat) : Int) - ((off ss j : Nat) : Int)) ∈ ps := by
      unfold cst at h8
      split at h8
      · assumption
      · omega
    have h10 := spot_own hS hj ((hp _).mp h9)
    have h11 : cEnd f M ps B n (off ss j) (off ss j + 1) = off ss (j + 1) := by omega
    rw [calmL_go (by omega), h11, ih, List.drop_eq_getElem_cons hj]
    congr 1
    have h12 : ss.getD j 0 = ss[j] := by rw [List.getD_eq_getElem?_getD, List.getElem?_eq_getElem hj]; rfl
    rw [← h12]
    omega
theorem calm_own0 (h : Bco f M ps n 0 B) (hS : SOk ss n) (hM : InM f M ss) (hp : ∀ p, p ∈ ps ↔ p ∈ spotsM ss) : B 0 = some 0 ∧ calmL f M ps B n 0 = ss := by
  have h1 := own_zero h hS hM (fun p hp' => (hp p).mpr hp') ss.length (Nat.le_refl _)
  have h2 := calm_own h hS hM hp ss.length (Nat.le_refl _)
  rw [Nat.sub_self, off_zero] at h1 h2
  exact ⟨h1, h2⟩
end
theorem Al.erase {α : Type} {R : V → α → Prop} : ∀ {vs : List V} {xs : List α} (k : Nat), Al R vs xs → Al R (vs.eraseIdx k) (xs.eraseIdx k)
  | _, _, _, .nil => .nil
  | _, _, 0, .cons _ r => r
  | _, _, k + 1, .cons a r => .cons a (Al.erase k r)
theorem erase_perm {α : Type} : ∀ (l : List α) (k : Nat) (x : α), l[k]? = some x → (x :: l.eraseIdx k).Perm l
  | [], k, x, h => by simp at h
  | y :: r, 0, x, h => by
    simp only [List.getElem?_cons_zero, Option.some.injEq] at h
    rw [h]
    exact List.Perm.refl _
  | y :: r, k + 1, x, h => by
    rw [List.getElem?_cons_succ] at h
    exact (List.Perm.swap y x _).trans ((erase_perm r k x h).cons y)
theorem KOk.perm {n : Nat} {ps qs : List (Int × Int)} (h : KOk n qs) (p : ps.Perm qs) : KOk n ps :=
  ⟨fun x hx => h.r x (p.mem_iff.mp hx), p.symm.nodup h.u, by rw [p.length_eq]; exact h.l⟩
theorem KOk.nil {n : Nat} : KOk n [] := ⟨(fun x h => nomatch h), List.nodup_nil, Nat.zero_le _⟩
@[irreducible] def spMixedP (K : PySem.W.Frag) : Sp := fun vs H Q _ => ∃ (c a : Addr) (us : List V) (ps : List (Int × Int)), vs = [.ref c, .ref a] ∧ Bag H c ∧ H a = some (.lst us) ∧ a ≠ c ∧ us.length ≤ 60 ∧ Al (PiH H) us ps ∧ ∀ L ys qs H', H L = none → H' L = some (.lst ys) → Al (PiH H') ys qs → qs.Perm ps → Bag H' c → Kp c H H' → Q (.ref L) H'
theorem mixedP_step {K : PySem.W.Frag} {H : Hp} {Q : VK} {E : XK} {vs : List V} {c a : Addr} {us : List V} {ps : List (Int × Int)} (hb : Bag H c) (h : H a = some (.lst us)) (hne : a ≠ c) (hl : us.length ≤ 60) (hA : Al (PiH H) us ps) (q : ∀ L ys qs H', H L = none → H' L = some (.lst ys) → Al (PiH H') ys qs → qs.Perm ps → Bag H' c → Kp c H H' → Q (.ref L) H') (hvs : vs = [.ref c, .ref a] := by rfl) : spMixedP K vs H Q E := by
  unfold spMixedP
  exact ⟨c, a, us, ps, hvs, hb, h, hne, hl, hA, q⟩
theorem calmL_in {f : Nat → Nat → Rat} {M : Rat} {ps : List (Int × Int)} {n : Nat} {B : Nat → Option Int} (h : Bco f M ps n 0 B) : ∀ k b, n - b ≤ k → b ≤ n → (∃ c, B b = some c) → ∀ j, j < (calmL f M ps B n b).length → ∃ o e : Nat, (o : Int) = b + ((calmL f M ps B n b).take j).sum ∧ o < e ∧ e ≤ n ∧ (calmL f M ps B n b).getD j 0 = ((e - o : Nat) : Int) ∧ ¬ M < f o e
  | 0, b, hk, hb, _, j, hj => by
    rw [calmL_stop (by omega)] at hj
    exact absurd hj (by simp)
  | k + 1, b, hk, hb, ⟨c, hc⟩, j, hj => by
    by_cases z : b < n
    · have g1 := cEnd_ge (f := f) (M := M) (ps := ps) (B := B) (n := n) (b := b) (n - (b + 1)) (b + 1) (Nat.le_refl _)
      have g2 := cEnd_le (f := f) (M := M) (ps := ps) (B := B) (n := n) (b := b) (n - (b + 1)) (b + 1) (Nat.le_refl _) (by omega)
      obtain ⟨k', q1, q2, q3⟩ := cheap_some (cEnd_hit (f := f) (M := M) (ps := ps) (B := B) (n := n) (b := b) (n - (b + 1)) (b + 1) (Nat.le_refl _) (by omega) (h.cheap z hc))
      rw [calmL_go z] at hj ⊢
      rcases j with _ | j
      · exact ⟨b, cEnd f M ps B n b (b + 1), by simp, by omega, g2, by simp, q2⟩
      · obtain ⟨o, e, h1, h2, h3, h4, h5⟩ := calmL_in h k (cEnd f M ps B n b (b + 1)) (by omega) g2 ⟨k', q1⟩ j (by simpa using hj)
        refine ⟨o, e, ?_, h2, h3, by simpa using h4, h5⟩
        rw [h1, List.take_succ_cons, List.sum_cons]
        omega
    · rw [calmL_stop z] at hj
      exact absurd hj (by simp)
/-- the calm sizes are within the bound -/
theorem calm_inM {f : Nat → Nat → Rat} {M : Rat} {ps : List (Int × Int)} {n : Nat} {B : Nat → Option Int} (h : Bco f M ps n 0 B) {c : Int} (hc : B 0 = some c) : InM f M (calmL f M ps B n 0) := by
  intro j hj
  obtain ⟨o, e, h1, h2, h3, h4, h5⟩ := calmL_in h n 0 (by omega) (by omega) ⟨c, hc⟩ j hj
  have hS := calm_sok (f := f) (M := M) (ps := ps) (B := B) (n := n)
  have e1 : off (calmL f M ps B n 0) j = o := by
    unfold off
    omega
  have e2 : off (calmL f M ps B n 0) (j + 1) = e := by
    rw [hS.off_succ hj, e1, h4]
    omega
  rw [e1, e2]
  exact h5
/-- sizes are within each bound from their worst shape on -/
theorem worst_inM {bx : Bx} {ws ss : List Int} {d : Bool} {M : Rat} (hS : SOk ss ws.length) (hM : worstM bx ws ss d ≤ M) : InM (fSh bx ws d) M ss := by
  intro j hj
  have h1 : rowShape bx ws (off ss j) (ss.getD j 0).toNat d ≤ worstM bx ws ss d := by
    unfold worstM shapesM
    exact mostL_ge (List.mem_map.mpr ⟨j, List.mem_range.mpr hj, rfl⟩)
  unfold fSh
  rw [hS.off_succ hj, Nat.add_sub_cancel_left]
  exact Rat.not_lt.mpr (Rat.le_trans h1 hM)
end Cc
/-! XAll: sorted of a list of tuples of ints, all sizes, a worst shape by told shapes. -/
namespace Cc
open PySem PySem.Spec PyProof.Rows L2
/-- a tuple of ints -/
def TsV (K : PySem.W.Frag) (H : Hp) (v : V) (s : List Int) : Prop := ∃ t, v = .ref t ∧ SqT K H t (s.map V.int)
section
variable {K : PySem.W.Frag} {H H' : Hp} {v : V} {s : List Int}
theorem TsV.same (h : TsV K H v s) (e : Same H H') : TsV K H' v s := by
  obtain ⟨t, h0, h1⟩ := h
  exact ⟨t, h0, seqT_same e h1⟩
theorem TsV.kp {b : Addr} {ys : List V} (h : TsV K H v s) (e : Kp b H H') (hb : H b = some (.lst ys)) : TsV K H' v s := by
  obtain ⟨t, h0, h1⟩ := h
  exact ⟨t, h0, seqT_kp e hb h1⟩
def szD (s : List Int) : PyData := .tuple (s.map .int)
theorem dpIs : ∀ {ss : List Int}, DpAll K H (ss.map V.int) (ss.map .int)
  | [] => .nil
  | _ :: _ => .cons (.int _) dpIs
theorem TsV.dp (h : TsV K H v s) : Dp K H v (szD s) := by
  obtain ⟨t, rfl, h1⟩ := h
  exact .tup h1 dpIs
theorem tsAll : ∀ {us : List V} {ss : List (List Int)}, Al (TsV K H) us ss → DpAll K H us (ss.map szD)
  | _, _, .nil => .nil
  | _, _, .cons a r => .cons a.dp (tsAll r)
end
theorem szD_lay (s : List Int) : (szD s).canLay0 = true ∧ (szD s).depth ≤ 2 := by
  have h1 : ∀ ss : List Int, PyData.canLayAll0 (ss.map .int) = true := fun ss => by
    induction ss with
    | nil => simp [PyData.canLayAll0]
    | cons x r ih =>
      rw [List.map_cons, PyData.canLayAll0, ih]
      simp [PyData.canLay0]
  have h2 := PySem.W.depth_ints s
  constructor
  · simp only [szD, PyData.canLay0]
    exact h1 s
  · simp only [szD, PyData.depth, h2]
    omega
theorem szDs_lay : ∀ ss : List (List Int), PyData.canLayAll0 (ss.map szD) = true ∧ PyData.depthAll (ss.map szD) ≤ 2
  | [] => by simp [PyData.canLayAll0, PyData.depthAll]
  | z :: zs => by
    have h := szDs_lay zs
    have h2 := szD_lay z
    refine ⟨by simp [PyData.canLayAll0, h2.1, h.1], ?_⟩
    simp only [List.map_cons, PyData.depthAll]
    have := h.2
    have := h2.2
    omega
theorem szDs_shaped (ss : List (List Int)) : SeqAt.shaped (.list (ss.map szD)) = true := by
  have h := szDs_lay ss
  show (PyData.canLay0 (.list (ss.map szD)) && decide (PyData.depth (.list (ss.map szD)) ≤ 64)) = true
  rw [Bool.and_eq_true]
  exact ⟨by simp only [PyData.canLay0]; exact h.1, decide_eq_true (by simp only [PyData.depth]; omega)⟩
theorem nil_shapedS : SeqAt.shaped (.list (([] : List (List Int)).map szD)) = true := szDs_shaped []
theorem eqv_nilS : ∀ ss : List (List Int), PyData.eqv (.list (ss.map szD)) (.list (([] : List (List Int)).map szD)) = ss.isEmpty
  | [] => rfl
  | _ :: _ => rfl
/-! ### sorted -/
section
variable {X : Cx} {pins : List (Addr × Obj)} {σ : L2.St} {H : Hp} {s : Shared}
theorem zip_each {K : PySem.W.Frag} : ∀ {us : List V} {ss : List (List Int)} {its : List Value}, Al (TsV K H) us ss → Vals us its → PySem.W.EachIs (fun v (b : V × List Int) => RelV b.1 v) its (us.zip ss)
  | _, _, _, .nil, .nil => .nil
  | _, _, _, .cons a r, .cons c t => .cons c (zip_each r t)
theorem zip_reads (I : Inv X pins σ H s) : ∀ {us : List V} {ss : List (List Int)} {its : List Value}, Al (TsV X.K H) us ss → Vals us its → PySem.W.EachIs (fun v (b : V × List Int) => ∃ as, Reads s.heap v (szD b.2) as) its (us.zip ss)
  | _, _, _, .nil, .nil => .nil
  | _, _, _, .cons a r, .cons c t => .cons (Dp.reads I _ _ _ a.dp c) (zip_reads I r t)
theorem al_zip {α : Type} {R : V → α → Prop} : ∀ {us : List V} {ss : List α}, Al R us ss → ∀ p ∈ us.zip ss, R p.1 p.2
  | _, _, .nil, p, h => by cases h
  | _, _, .cons a r, p, h => by
    rw [List.zip_cons_cons] at h
    rcases List.mem_cons.mp h with h | h
    · rw [h]
      exact a
    · exact al_zip r p h
theorem al_of {α : Type} {R : V → α → Prop} : ∀ {zs : List (V × α)}, (∀ p ∈ zs, R p.1 p.2) → Al R (zs.map (·.1)) (zs.map (·.2))
  | [], _ => .nil
  | z :: zs, h => .cons (h z List.mem_cons_self) (al_of fun p hp => h p (List.mem_cons_of_mem _ hp))
theorem vals_each {α : Type} : ∀ {out : List Value} {zs : List (V × α)}, PySem.W.EachIs (fun v (b : V × α) => RelV b.1 v) out zs → Vals (zs.map (·.1)) out
  | _, _, .nil => .nil
  | _, _, .cons a r => .cons a (vals_each r)
theorem lt_of_cons {x y : Int} {xs ys : List Int} : (x :: xs) < (y :: ys) ↔ x < y ∨ (x = y ∧ xs < ys) := List.cons_lt_cons_iff
theorem lex_total : ∀ a b : List Int, ¬ b < a ∨ ¬ a < b
  | [], _ => .inl (List.not_lt_nil _)
  | _ :: _, [] => .inr (List.not_lt_nil _)
  | x :: xs, y :: ys => by
    rw [lt_of_cons, lt_of_cons]
    rcases lex_total xs ys with h | h
    · by_cases c : y < x
      · exact .inr (by rintro (z | ⟨z, _⟩) <;> omega)
      · exact .inl fun z => z.elim c fun w => h w.2
    · by_cases c : x < y
      · exact .inl (by rintro (z | ⟨z, _⟩) <;> omega)
      · exact .inr fun z => z.elim c fun w => h w.2
theorem lex_trans : ∀ a b c : List Int, ¬ b < a → ¬ c < b → ¬ c < a
  | [], _, c, _, _ => List.not_lt_nil _
  | x :: xs, [], c, h, _ => fun _ => h (List.nil_lt_cons _ _)
  | x :: xs, y :: ys, [], _, h => fun _ => h (List.nil_lt_cons _ _)
  | x :: xs, y :: ys, z :: zs, h1, h2 => by
    rw [lt_of_cons] at h1 h2 ⊢
    have h3 : ¬ y < x := fun q => h1 (.inl q)
    have h4 : ¬ z < y := fun q => h2 (.inl q)
    rintro (q | ⟨q, r⟩)
    · omega
    · exact lex_trans xs ys zs (fun q2 => h1 (.inr ⟨by omega, q2⟩)) (fun q2 => h2 (.inr ⟨by omega, q2⟩)) r
theorem lex_antisymm : ∀ a b : List Int, ¬ b < a → ¬ a < b → a = b
  | [], [], _, _ => rfl
  | [], _ :: _, _, h => absurd (List.nil_lt_cons _ _) h
  | _ :: _, [], h, _ => absurd (List.nil_lt_cons _ _) h
  | x :: xs, y :: ys, h1, h2 => by
    rw [lt_of_cons] at h1 h2
    have h3 : ¬ y < x := fun q => h1 (.inl q)
    have h4 : ¬ x < y := fun q => h2 (.inl q)
    obtain rfl : x = y := by omega
    rw [lex_antisymm xs ys (fun q => h1 (.inr ⟨rfl, q⟩)) (fun q => h2 (.inr ⟨rfl, q⟩))]
theorem dataLe_sz : PySem.W.dataLe false (fun b : V × List Int => szD b.2) = fun p q => !decide (q.2 < p.2) := by
  funext p q
  rw [PySem.W.dataLe_eq]
  show (!PySem.W.dataLt (szD q.2) (szD p.2)) = _
  unfold szD
  rw [PySem.W.dataLt_tuple]
  have h := PySem.W.dataLt_ints q.2 p.2
  unfold PySem.W.rowLt at h
  rw [h]
def rSortedT (K : PySem.W.Frag) : List V → Hp → VK → Prop := fun vs H Q => ∃ (l : Addr) (us : List V) (ss : List (List Int)), vs = [V.ref l] ∧ SqL K H l us ∧ Al (TsV K H) us ss ∧ (∀ s ∈ ss, s ≠ []) ∧ ∀ (zs : List V) (ts : List (List Int)) (p : Addr), Al (TsV K H) zs ts → ts.Perm ss → ts.Pairwise (fun a b => ¬ b < a) → H p = none → Q (.ref p) (upd H p (.lst zs))
theorem cr_sortedT (hu : X.A.units + 64 < cLine) : CallR X (.builtin "sorted") (rSortedT X.K) := by
  intro pins s σ H vs us' Q I r h
  obtain ⟨l, us, ss, rfl, hs, hA, hne, q⟩ := h
  obtain ⟨its, rv, hl, hz⟩ := I.list hs
  rw [Vals.ref1 r]
  have hul := hA.len
  have hvl := rv.length
  have hzl : (us.zip ss).length = us.length := by rw [List.length_zip]; omega
  have hmem : ∀ d ∈ (us.zip ss).map (fun b : V × List Int => szD b.2), ∃ s ∈ ss, d = szD s := fun d hd => by
    obtain ⟨b, hb, rfl⟩ := List.mem_map.mp hd
    exact ⟨b.2, (List.of_mem_zip hb).2, rfl⟩
  refine PySem.W.sorted_data (enc := fun b : V × List Int => szD b.2) (bs := us.zip ss) hl.isList (zip_each hA rv) (zip_reads I hA rv) ?_ ?_ (by rw [hzl]; exact hz) (fun b _ => by have := (szD_lay b.2).2; omega) fun out hol ho => ?_
  · intro d hd d' hd'
    obtain ⟨s1, _, rfl⟩ := hmem d hd
    obtain ⟨s2, _, rfl⟩ := hmem d' hd'
    simp only [szD, PySem.W.alike]
    exact PySem.W.alike_ints s1 s2
  · refine .inl fun d hd => ?_
    obtain ⟨s1, h1, rfl⟩ := hmem d hd
    cases s1 with
    | nil => exact absurd rfl (hne _ h1)
    | cons x r => exact ⟨_, _, rfl⟩
  · obtain ⟨ep, he'⟩ := PyProof.Rows.sortedAll_at s.heap its out.toArray
    rw [dataLe_sz] at ho
    obtain ⟨zs, hzs⟩ : ∃ zs, zs = (us.zip ss).mergeSort (fun p q => !decide (q.2 < p.2)) := ⟨_, rfl⟩
    rw [← hzs] at ho
    have hpm : zs.Perm (us.zip ss) := by
      rw [hzs]
      exact List.mergeSort_perm _ _
    have hpw : zs.Pairwise (fun p q => (!decide (q.2 < p.2)) = true) := by
      rw [hzs]
      refine List.pairwise_mergeSort (fun a b c h1 h2 => ?_) (fun a b => ?_) _
      · simp only [Bool.not_eq_true', decide_eq_false_iff_not] at h1 h2 ⊢
        exact lex_trans _ _ _ h1 h2
      · have h := lex_total a.2 b.2
        simpa only [Bool.or_eq_true, Bool.not_eq_true', decide_eq_false_iff_not] using h
    have hA2 : Al (TsV X.K H) (zs.map (·.1)) (zs.map (·.2)) := al_of fun p hp => al_zip hA p (hpm.mem_iff.mp hp)
    have hp2 : (zs.map (·.2)).Perm ss := by
      have h := hpm.map (·.2)
      rw [List.map_snd_zip (by omega)] at h
      exact h
    have hw2 : (zs.map (·.2)).Pairwise (fun a b => ¬ b < a) := by
      refine List.Pairwise.map _ (fun x y h => ?_) hpw
      simpa only [Bool.not_eq_true', decide_eq_false_iff_not] using h
    have hlen : (zs.map (·.1)).length ≤ sizeLine := by
      rw [List.length_map, hpm.length_eq, hzl]
      exact hz
    exact ⟨.ref _, upd H (s.heap.objs.size + 1) (.lst (zs.map (·.1))), I.laid (t' := s.toks) (fun _ _ => PyProof.Rows.sortedAll_old) (Nat.le_succ _) ⟨hlen, out, ep, vals_each ho, he'⟩, rfl, q _ _ _ hA2 hp2 hw2 (I.hok.fresh (Nat.le_succ _))⟩
end
theorem Al.app {α : Type} {R : V → α → Prop} : ∀ {us vs : List V} {xs ys : List α}, Al R us xs → Al R vs ys → Al R (us ++ vs) (xs ++ ys)
  | _, _, _, _, .nil, h => h
  | _, _, _, _, .cons a r, h => .cons a (Al.app r h)
/-! ### all sizes, by how many rows -/
def ext1 (n : Nat) (s : List Int) : List (List Int) := (List.range ((n : Int) - s.sum).toNat).map fun i : Nat => s ++ [(1 : Int) + (i : Int)]
def lvl (n : Nat) : Nat → List (List Int)
  | 0 => [[]]
  | k + 1 => (lvl n k).flatMap (ext1 n)
def dnS (n : Nat) (ls : List (List Int)) : List (List Int) := ls.filter fun s => decide ((n : Int) - s.sum = 0)
def dones (n : Nat) : Nat → List (List Int)
  | 0 => []
  | k + 1 => dones n k ++ dnS n (lvl n k)
theorem lvl_ok {n : Nat} : ∀ {k : Nat} {s : List Int}, s ∈ lvl n k → s.length = k ∧ (∀ x ∈ s, 1 ≤ x) ∧ s.sum ≤ (n : Int)
  | 0, s, h => by
    rw [lvl] at h
    rw [List.mem_singleton.mp h]
    exact ⟨rfl, by simp, by simp⟩
  | k + 1, s, h => by
    rw [lvl] at h
    obtain ⟨t, h1, h2⟩ := List.mem_flatMap.mp h
    unfold ext1 at h2
    obtain ⟨i, h3, rfl⟩ := List.mem_map.mp h2
    have h3 := List.mem_range.mp h3
    obtain ⟨g1, g2, g3⟩ := lvl_ok h1
    refine ⟨by rw [List.length_append, g1]; rfl, fun x hx => ?_, ?_⟩
    · rcases List.mem_append.mp hx with hx | hx
      · exact g2 x hx
      · rw [List.mem_singleton.mp hx]
        omega
    · rw [List.sum_append, List.sum_cons, List.sum_nil]
      omega
theorem lvl_le {n k : Nat} (h : lvl n k ≠ []) : k ≤ n := by
  obtain ⟨s, hs⟩ := List.exists_mem_of_ne_nil _ h
  obtain ⟨g1, g2, g3⟩ := lvl_ok hs
  have := sum_nn g2
  omega
theorem lvl_mem {n : Nat} {s : List Int} (h : SOk s n) : ∀ k, k ≤ s.length → s.take k ∈ lvl n k
  | 0, _ => by
    rw [List.take_zero, lvl]
    exact List.mem_singleton.mpr rfl
  | k + 1, hk => by
    rw [lvl]
    refine List.mem_flatMap.mpr ⟨s.take k, lvl_mem h k (by omega), ?_⟩
    unfold ext1
    have h1 := h.off_int k
    have h2 := h.off_int (k + 1)
    have h3 := h.off_le (k + 1)
    have h4 : (s.take (k + 1)).sum = (s.take k).sum + s.getD k 0 := take_sum (by omega)
    have h5 := h.w (s.getD k 0) (by rw [List.getD_eq_getElem?_getD, List.getElem?_eq_getElem (show k < s.length by omega)]; exact List.getElem_mem _)
    refine List.mem_map.mpr ⟨(s.getD k 0 - 1).toNat, List.mem_range.mpr (by omega), ?_⟩
    rw [List.take_add_one, List.getElem?_eq_getElem (show k < s.length by omega)]
    have h6 : s.getD k 0 = s[k]'(by omega) := by rw [List.getD_eq_getElem?_getD, List.getElem?_eq_getElem (show k < s.length by omega)]; rfl
    rw [show (1 : Int) + ((s.getD k 0 - 1).toNat : Nat) = s.getD k 0 by omega, h6]
    rfl
theorem dones_mem {n : Nat} {s : List Int} : ∀ {k : Nat}, s ∈ dones n k ↔ ∃ j, j < k ∧ s ∈ lvl n j ∧ s.sum = (n : Int)
  | 0 => by
    rw [dones]
    constructor
    · intro h
      cases h
    · rintro ⟨j, h, _⟩
      omega
  | k + 1 => by
    rw [dones, List.mem_append, dones_mem (k := k)]
    unfold dnS
    rw [List.mem_filter, decide_eq_true_iff]
    constructor
    · rintro (⟨j, h1, h2, h3⟩ | ⟨h1, h2⟩)
      · exact ⟨j, by omega, h2, h3⟩
      · exact ⟨k, by omega, h1, by omega⟩
    · rintro ⟨j, h1, h2, h3⟩
      by_cases z : j = k
      · subst z
        exact .inr ⟨h2, by omega⟩
      · exact .inl ⟨j, by omega, h2, h3⟩
theorem all_mem {n k : Nat} {s : List Int} (h : lvl n k = []) : s ∈ dones n k ↔ SOk s n := by
  rw [dones_mem]
  constructor
  · rintro ⟨j, h1, h2, h3⟩
    exact ⟨(lvl_ok h2).2.1, h3⟩
  · intro hs
    have hlt : s.length < k := by
      rcases Nat.lt_or_ge s.length k with z | z
      · exact z
      · have := lvl_mem hs k z
        rw [h] at this
        cases this
    have := lvl_mem hs s.length (Nat.le_refl _)
    rw [List.take_length] at this
    exact ⟨_, hlt, this, hs.s⟩
theorem ext1_len {n : Nat} {s : List Int} (h : ∀ x ∈ s, 1 ≤ x) (hn : n ≤ 7) : (ext1 n s).length ≤ 7 := by
  unfold ext1
  rw [List.length_map, List.length_range]
  have := sum_nn h
  omega
theorem flat_len {n : Nat} (hn : n ≤ 7) : ∀ {ls : List (List Int)}, (∀ s ∈ ls, ∀ x ∈ s, 1 ≤ x) → (ls.flatMap (ext1 n)).length ≤ 7 * ls.length
  | [], _ => by simp
  | s :: r, h => by
    rw [List.flatMap_cons, List.length_append, List.length_cons]
    have h1 := ext1_len (h s List.mem_cons_self) hn
    have h2 := flat_len hn (ls := r) fun s hs => h s (List.mem_cons_of_mem _ hs)
    omega
theorem lvl_len {n : Nat} (hn : n ≤ 7) : ∀ k, (lvl n k).length ≤ 7 ^ k
  | 0 => by simp [lvl]
  | k + 1 => by
    rw [lvl, Nat.pow_succ]
    have h1 := flat_len hn (ls := lvl n k) fun s hs => (lvl_ok hs).2.1
    have h2 := lvl_len hn k
    omega
theorem dones_len {n : Nat} (hn : n ≤ 7) : ∀ k, (dones n k).length ≤ 7 ^ k
  | 0 => by simp [dones]
  | k + 1 => by
    rw [dones, List.length_append, Nat.pow_succ]
    have h1 : (dnS n (lvl n k)).length ≤ (lvl n k).length := List.length_filter_le _ _
    have h2 := lvl_len hn k
    have h3 := dones_len hn k
    omega
theorem big {n : Nat} (h : n ≤ 10000000) : n < sizeLine := by
  rw [sizeLine_eq]
  omega
/-- the worst shape of sizes by told shapes -/
def wOf (f : Nat → Nat → Rat) (ss : List Int) : Rat := mostL ((List.range ss.length).map fun j => f (off ss j) (off ss (j + 1)))
@[irreducible] def spAllSizes (K : PySem.W.Frag) : Sp := fun vs H Q _ => ∃ n : Nat, vs = [.int n] ∧ 1 ≤ n ∧ n ≤ 7 ∧ ∀ p zs ts H', H p = none → Same H H' → H' p = some (.lst zs) → Al (TsV K H') zs ts → (∀ s, s ∈ ts ↔ SOk s n) → ts.Pairwise (fun a b => ¬ b < a) → Q (.ref p) H'
@[irreducible] def spByShapes (K : PySem.W.Frag) : Sp := fun vs H Q _ => ∃ (D t : Addr) (n m : Nat) (f : Nat → Nat → Rat) (ss : List Int), vs = [.ref D, .ref t] ∧ DSh K n (AllR n) f m H D ∧ SqT K H t (ss.map V.int) ∧ SOk ss n ∧ 1 ≤ n ∧ n ≤ 12 ∧ (∀ i j, AllR n i j → Sz 3900 (f i j)) ∧ ∀ v H', Same H H' → PtV K H' v (wOf f ss) → Q v H'
section
variable {K : PySem.W.Frag} {H : Hp} {Q : VK} {E : XK} {vs : List V} {n m : Nat} {f : Nat → Nat → Rat} {ss : List Int} {D t : Addr}
theorem allSizes_step (h0 : 1 ≤ n) (hn : n ≤ 7) (q : ∀ p zs ts H', H p = none → Same H H' → H' p = some (.lst zs) → Al (TsV K H') zs ts → (∀ s, s ∈ ts ↔ SOk s n) → ts.Pairwise (fun a b => ¬ b < a) → Q (.ref p) H') (hvs : vs = [.int n] := by rfl) : spAllSizes K vs H Q E := by
  unfold spAllSizes
  exact ⟨n, hvs, h0, hn, q⟩
theorem byShapes_step (h : DSh K n (AllR n) f m H D) (ht : SqT K H t (ss.map V.int)) (hS : SOk ss n) (h0 : 1 ≤ n) (hn : n ≤ 12) (hz : ∀ i j, AllR n i j → Sz 3900 (f i j)) (q : ∀ v H', Same H H' → PtV K H' v (wOf f ss) → Q v H') (hvs : vs = [.ref D, .ref t] := by rfl) : spByShapes K vs H Q E := by
  unfold spByShapes
  exact ⟨D, t, n, m, f, ss, hvs, h, ht, hS, h0, hn, hz, q⟩
theorem wOf_at (hS : SOk ss n) (h0 : 1 ≤ n) : ∃ j, j < ss.length ∧ wOf f ss = f (off ss j) (off ss (j + 1)) := by
  have hm : wOf f ss ∈ (List.range ss.length).map fun j => f (off ss j) (off ss (j + 1)) := mostL_mem (fun z => by
    have := congrArg List.length z
    rw [List.length_map, List.length_range, List.length_nil] at this
    have := hS.ne h0
    omega)
  obtain ⟨j, hj, e⟩ := List.mem_map.mp hm
  exact ⟨j, List.mem_range.mp hj, e.symm⟩
theorem off_AllR (hS : SOk ss n) {j : Nat} (hj : j < ss.length) : AllR n (off ss j) (off ss (j + 1)) := by
  have h1 := hS.off_succ hj
  have h2 := hS.off_le (j + 1)
  have h3 := hS.w (ss.getD j 0) (by rw [List.getD_eq_getElem?_getD, List.getElem?_eq_getElem hj]; exact List.getElem_mem hj)
  exact ⟨by omega, h2⟩
theorem wOf_sz (hS : SOk ss n) (h0 : 1 ≤ n) {m : Nat} (hz : ∀ i j, AllR n i j → Sz m (f i j)) : Sz m (wOf f ss) := by
  obtain ⟨j, hj, e⟩ := wOf_at (f := f) hS h0
  rw [e]
  exact hz _ _ (off_AllR hS hj)
theorem wOf_ge {j : Nat} (hj : j < ss.length) : f (off ss j) (off ss (j + 1)) ≤ wOf f ss := mostL_ge (List.mem_map.mpr ⟨j, List.mem_range.mpr hj, rfl⟩)
end
@[irreducible] def spWeightsM (K : PySem.W.Frag) : Sp := fun vs H Q _ => ∃ (c : Addr) (m : Int), vs = [.ref c, .int m] ∧ Bag H c ∧ 1 ≤ m ∧ m ≤ 12 ∧ ∀ L ws H', H L = none → H' L = some (.lst (ws.map V.int)) → WOk ws → (ws.length : Int) ≤ m → Bag H' c → Kp c H H' → Q (.ref L) H'
theorem weightsM_step {K : PySem.W.Frag} {H : Hp} {Q : VK} {E : XK} {vs : List V} {c : Addr} {m : Int} (hb : Bag H c) (h0 : 1 ≤ m) (h1 : m ≤ 12) (q : ∀ L ws H', H L = none → H' L = some (.lst (ws.map V.int)) → WOk ws → (ws.length : Int) ≤ m → Bag H' c → Kp c H H' → Q (.ref L) H') (hvs : vs = [.ref c, .int m] := by rfl) : spWeightsM K vs H Q E := by
  unfold spWeightsM
  exact ⟨c, m, hvs, hb, h0, h1, q⟩
end Cc
/-! XSho: numbers that are shown. -/
namespace Cc
open PySem PySem.Spec PyProof.Rows L2
/-- what a row leads to is as little as asked -/
def ledB : Option Int → Int → Option Int → Bool
  | none, _, _ => true
  | some _, _, none => false
  | some k, c, some k' => decide (k' ≤ k + c)
/-- L shows that no sizes cost less than its last one -/
def ShP (f : Nat → Nat → Rat) (M : Rat) (ps : List (Int × Int)) (n : Nat) (L : List (Option Int)) : Prop := L.length = n + 1 ∧ L.getD 0 none = some 0 ∧ ∀ i j, AllR n i j → ¬ M < f i j → ledB (L.getD i none) (cst ps i j) (L.getD j none) = true
@[irreducible] def spLed : Sp := fun vs H Q _ => ∃ (x y : Option Int) (c : Int), vs = [oV x, .int c, oV y] ∧ Q (.bl (ledB x c y)) H
@[irreducible] def spShown (K : PySem.W.Frag) : Sp := fun vs H Q _ => ∃ (v u : V) (a L T : Addr) (b : Bx) (ws : List Int) (M : Rat) (ps : List (Int × Int)) (xs : List (Option Int)) (d : Bool), vs = [v, .ref a, u, .ref L, .ref T, .str (sd d)] ∧ BxV K H v b ∧ b.Ok 450 ∧ IntsV K H a ws ∧ WOk ws ∧ PtV K H u M ∧ Sz 3900 M ∧ ¬ M < 1 ∧ SpH K H L ps ∧ KOk ws.length ps ∧ H T = some (.lst (xs.map oV)) ∧ xs.length ≤ 60 ∧ ∀ (k : Bool) H', Same H H' → (k = true ↔ ShP (fSh b ws d) M ps ws.length xs) → Q (.bl k) H'
@[irreducible] def spLShown (K : PySem.W.Frag) : Sp := fun vs H Q _ => ∃ (D L T : Addr) (n m : Nat) (u : V) (M : Rat) (f : Nat → Nat → Rat) (ps : List (Int × Int)) (xs : List (Option Int)), vs = [.ref D, .int n, u, .ref L, .ref T] ∧ DSh K n (AllR n) f m H D ∧ 1 ≤ n ∧ n ≤ 12 ∧ (∀ i j, AllR n i j → Sz 3900 (f i j)) ∧ PtV K H u M ∧ Sz 3900 M ∧ SpD K H L ps ∧ H T = some (.lst (xs.map oV)) ∧ ∀ (k : Bool) H', Same H H' → (k = true ↔ ShP f M ps n xs) → Q (.bl k) H'
section
variable {K : PySem.W.Frag} {H : Hp} {Q : VK} {E : XK} {vs : List V} {n m i j : Nat} {M : Rat} {ps : List (Int × Int)} {u v : V} {D T L a : Addr} {f : Nat → Nat → Rat} {ws : List Int} {b : Bx} {d : Bool} {xs : List (Option Int)}
theorem led_step (x y : Option Int) {c : Int} (q : Q (.bl (ledB x c y)) H) (hvs : vs = [oV x, .int c, oV y] := by rfl) : spLed vs H Q E := by
  unfold spLed
  exact ⟨x, y, c, hvs, q⟩
theorem shown_step (hv : BxV K H v b) (hb : b.Ok i) (hi : i ≤ 450) (h : IntsV K H a ws) (hw : WOk ws) (hu : PtV K H u M) (hz : Sz j M) (hj : j ≤ 3900) (h1 : ¬ M < 1) (hL : SpH K H L ps) (hk : KOk ws.length ps) (hT : H T = some (.lst (xs.map oV))) (hx : xs.length ≤ 60) (q : ∀ (k : Bool) H', Same H H' → (k = true ↔ ShP (fSh b ws d) M ps ws.length xs) → Q (.bl k) H') (hvs : vs = [v, .ref a, u, .ref L, .ref T, .str (sd d)] := by rfl) : spShown K vs H Q E := by
  unfold spShown
  exact ⟨v, u, a, L, T, b, ws, M, ps, xs, d, hvs, hv, hb.mono hi, h, hw, hu, hz.mono hj, h1, hL, hk, hT, hx, q⟩
theorem lshown_step (h : DSh K n (AllR n) f m H D) (h0 : 1 ≤ n) (hn : n ≤ 12) (hz : ∀ i j, AllR n i j → Sz 3900 (f i j)) (hu : PtV K H u M) (hM : Sz j M) (hj : j ≤ 3900) (hL : SpD K H L ps) (hT : H T = some (.lst (xs.map oV))) (q : ∀ (k : Bool) H', Same H H' → (k = true ↔ ShP f M ps n xs) → Q (.bl k) H') (hvs : vs = [.ref D, .int n, u, .ref L, .ref T] := by rfl) : spLShown K vs H Q E := by
  unfold spLShown
  exact ⟨D, L, T, n, m, u, M, f, ps, xs, hvs, h, h0, hn, hz, hu, hM.mono hj, hL, hT, q⟩
end
/-- what is asked of a row by its key -/
def ledK (xs : List (Option Int)) (ps : List (Int × Int)) : List Key → Bool
  | [.inl i, .inl j] => ledB (xs.getD i.toNat none) (cst ps i j) (xs.getD j.toNat none)
  | _ => true
theorem ledK_ky (xs : List (Option Int)) (ps : List (Int × Int)) (i j : Nat) : ledK xs ps (ky i j) = ledB (xs.getD i none) (cst ps i j) (xs.getD j none) := rfl
theorem valV_has {kvs : List (List Key × V)} {k : List Key} (h : valV kvs k = none) : ∀ kv ∈ kvs, kv.1 ≠ k := fun kv hm e => by
  have h1 := valV_any k kvs
  rw [h] at h1
  have h2 : (kvs.any fun kv => decide (kv.1 = k)) = true := List.any_eq_true.mpr ⟨kv, hm, decide_eq_true e⟩
  rw [h2] at h1
  cases h1
theorem all_ledK {n : Nat} {f : Nat → Nat → Rat} {M : Rat} {ps : List (Int × Int)} {xs : List (Option Int)} {kvs : List (List Key × V)} (h3 : ∀ kv ∈ kvs, ∃ i j, kv.1 = ky i j ∧ AllR n i j) (h4 : ∀ i j, AllR n i j → valV kvs (ky i j) = if M < f i j then none else some (.int (cst ps i j))) : (kvs.map fun kv => ledK xs ps kv.1).all id = true ↔ ∀ i j, AllR n i j → ¬ M < f i j → ledB (xs.getD i none) (cst ps i j) (xs.getD j none) = true := by
  rw [List.all_eq_true]
  constructor
  · intro h i j hij hM
    have h5 := h4 i j hij
    rw [if_neg hM] at h5
    obtain ⟨kv, h6, h7⟩ := valV_mem h5
    have h8 := h _ (List.mem_map.mpr ⟨kv, h6, rfl⟩)
    rw [h7, ledK_ky] at h8
    exact h8
  · intro h x hx
    obtain ⟨kv, h6, rfl⟩ := List.mem_map.mp hx
    obtain ⟨i, j, h7, h8⟩ := h3 kv h6
    show ledK xs ps kv.1 = true
    rw [h7, ledK_ky]
    refine h i j h8 fun hM => ?_
    have h5 := h4 i j h8
    rw [if_pos hM] at h5
    exact valV_has h5 kv h6 h7
@[irreducible] def spPickG : Sp := fun vs H Q _ => ∃ (c L : Addr) (xs : List V), vs = [.ref c, .ref L] ∧ Bag H c ∧ H L = some (.lst xs) ∧ L ≠ c ∧ 0 < xs.length ∧ xs.length ≤ 1000 ∧ ∀ v H', v ∈ xs → Bag H' c → KpG c H H' → Q v H'
theorem pickG_step {H : Hp} {Q : VK} {vs : List V} {E : XK} {c L : Addr} {xs : List V} (hb : Bag H c) (hL : H L = some (.lst xs)) (hne : L ≠ c) (h0 : 0 < xs.length) (h1 : xs.length ≤ 1000) (h : ∀ v H', v ∈ xs → Bag H' c → KpG c H H' → Q v H') (hvs : vs = [.ref c, .ref L] := by rfl) : spPickG vs H Q E := by
  unfold spPickG
  exact ⟨c, L, xs, hvs, hb, hL, hne, h0, h1, h⟩
theorem oD_lay : ∀ xs : List (Option Int), PyData.canLayAll0 (xs.map oD) = true ∧ PyData.depthAll (xs.map oD) = 0
  | [] => by simp [PyData.canLayAll0, PyData.depthAll]
  | none :: r => by simp [oD, PyData.canLayAll0, PyData.canLay0, PyData.depthAll, PyData.depth, oD_lay r]
  | some k :: r => by simp [oD, PyData.canLayAll0, PyData.canLay0, PyData.depthAll, PyData.depth, oD_lay r]
theorem oD_shaped (xs : List (Option Int)) : SeqAt.shaped (.list (xs.map oD)) = true := by
  have h := oD_lay xs
  show (PyData.canLay0 (.list (xs.map oD)) && decide (PyData.depth (.list (xs.map oD)) ≤ 64)) = true
  rw [Bool.and_eq_true]
  exact ⟨by simp only [PyData.canLay0]; exact h.1, decide_eq_true (by simp only [PyData.depth]; omega)⟩
theorem eqv_oD (xs : List (Option Int)) : PyData.eqv (.list (xs.map oD)) (.list (xs.map oD)) = true :=
  PySem.SeqAt.eqv_refl _ (by simp only [PyData.canLay0]; exact (oD_lay xs).1)
/-- a part of a list of numbers and Nones -/
theorem cutV_oV (xs : List (Option Int)) (lo hi : Option Int) : ∃ ys : List (Option Int), cutV (xs.map oV) lo hi = ys.map oV ∧ ys.length ≤ xs.length := by
  refine ⟨(xs.drop (HT.sIx (xs.map oV).length 0 lo)).take (HT.sIx (xs.map oV).length (xs.map oV).length hi - HT.sIx (xs.map oV).length 0 lo), ?_, ?_⟩
  · unfold cutV
    rw [List.map_take, List.map_drop]
  · rw [List.length_take, List.length_drop]
    omega
theorem oV_get {xs : List (Option Int)} {i : Nat} (h : i < xs.length) : (xs.map oV)[i]? = some (oV (xs.getD i none)) := by
  rw [List.getElem?_map, List.getD_eq_getElem?_getD, List.getElem?_eq_getElem h]
  rfl
theorem oV_inj {x y : Option Int} (h : oV x = oV y) : x = y := by
  cases x with
  | none => cases y with
    | none => rfl
    | some _ => cases h
  | some a => cases y with
    | none => cases h
    | some c =>
      injection h with h
      rw [h]
theorem oV_set (xs : List (Option Int)) (j : Nat) (y : Option Int) : (xs.map oV).set j (oV y) = (xs.set j y).map oV := by
  rw [List.map_set]
/-- the law's some: a list of numbers and Nones, the bag, and what is as it was -/
def SmK (m : Nat) (b : Addr) (G H : Hp) (S : Addr) : Prop := Bag H b ∧ Kp b G H ∧ S ≠ b ∧ ∃ xs : List (Option Int), xs.length ≤ m ∧ H S = some (.lst (xs.map oV))
/-- the least costs forwards: L for all places to n -/
structure Fco (f : Nat → Nat → Rat) (M : Rat) (ps : List (Int × Int)) (n : Nat) (L : List (Option Int)) : Prop where
  l : L.length = n + 1
  o : L.getD 0 none = some 0
  hit : ∀ e, 0 < e → e ≤ n → ∀ k, L.getD e none = some k → ∃ b k', b < e ∧ ¬ M < f b e ∧ L.getD b none = some k' ∧ k = k' + cst ps b e
  le : ∀ b e, b < e → e ≤ n → ¬ M < f b e → ∀ k', L.getD b none = some k' → ∃ k, L.getD e none = some k ∧ k ≤ k' + cst ps b e
section
variable {f : Nat → Nat → Rat} {M : Rat} {ps : List (Int × Int)} {n : Nat} {L : List (Option Int)}
theorem minO_mem : ∀ {ns : List Int} {m : Int}, minO ns = some m → m ∈ ns ∧ ∀ y ∈ ns, m ≤ y
  | [], m, h => nomatch h
  | a :: r, m, h => by
    have h : some (r.foldl min a) = some m := h
    injection h with h
    subst h
    have e1 := foldl_min_le r a
    have e2 := foldl_min_mem r a
    refine ⟨?_, fun y hy => ?_⟩
    · rcases e2 with z | z
      · rw [z]
        exact List.mem_cons_self
      · exact List.mem_cons_of_mem _ z
    · rcases List.mem_cons.mp hy with rfl | z
      · exact e1.1
      · exact e1.2 y z
theorem getD_app_l {α : Type} {L : List α} {x d : α} {i : Nat} (h : i < L.length) : (L ++ [x]).getD i d = L.getD i d := by
  rw [List.getD_eq_getElem?_getD, List.getD_eq_getElem?_getD, List.getElem?_append_left h]
theorem getD_app_r {α : Type} {L : List α} {x d : α} : (L ++ [x]).getD L.length d = x := by
  rw [List.getD_eq_getElem?_getD, List.getElem?_append_right (Nat.le_refl _), Nat.sub_self]
  rfl
theorem lead_mem {e k b : Nat} (h : b < k) (hl : lead f M L e b = true) : b ∈ leads f M L e k := by
  unfold leads
  exact List.mem_filter.mpr ⟨List.mem_range.mpr h, hl⟩
theorem numL_fco : ∀ n, Fco f M ps n (numL f M ps n)
  | 0 => ⟨rfl, rfl, fun e h1 h2 => absurd h1 (by omega), fun b e h1 h2 => absurd h1 (by omega)⟩
  | n + 1 => by
    have ih := numL_fco n
    obtain ⟨L, hL⟩ : ∃ L, L = numL f M ps n := ⟨_, rfl⟩
    have e : numL f M ps (n + 1) = L ++ [minO (valsN f M ps L (n + 1) (n + 1))] := by rw [hL]; rfl
    rw [e]
    rw [← hL] at ih
    have ll := ih.l
    have lft : ∀ i, i ≤ n → (L ++ [minO (valsN f M ps L (n + 1) (n + 1))]).getD i none = L.getD i none := fun i hi => getD_app_l (by omega)
    have rgt : (L ++ [minO (valsN f M ps L (n + 1) (n + 1))]).getD (n + 1) none = minO (valsN f M ps L (n + 1) (n + 1)) := by
      rw [← ll]
      exact getD_app_r
    refine ⟨by rw [List.length_append, ll]; rfl, by rw [lft 0 (by omega)]; exact ih.o, fun e h1 h2 k hk => ?_, fun b e h1 h2 hM k' hk' => ?_⟩
    · by_cases z : e = n + 1
      · subst z
        rw [rgt] at hk
        obtain ⟨h3, _⟩ := minO_mem hk
        unfold valsN at h3
        obtain ⟨b, h4, h5⟩ := List.mem_map.mp h3
        obtain ⟨h6, h7⟩ := leads_mem h4
        unfold lead at h7
        rw [Bool.and_eq_true] at h7
        cases hb : L.getD b none with
        | none =>
          rw [hb] at h7
          cases h7.1
        | some x =>
          refine ⟨b, x, h6, fun z => ?_, by rw [lft b (by omega)]; exact hb, ?_⟩
          · have := h7.2
            rw [decide_eq_true z] at this
            cases this
          · rw [← h5]
            unfold valN
            rw [hb]
            rfl
      · rw [lft e (by omega)] at hk
        obtain ⟨b, k', g1, g2, g3, g4⟩ := ih.hit e h1 (by omega) k hk
        exact ⟨b, k', g1, g2, by rw [lft b (by omega)]; exact g3, g4⟩
    · rw [lft b (by omega)] at hk'
      by_cases z : e = n + 1
      · subst z
        rw [rgt]
        have hl : lead f M L (n + 1) b = true := by
          unfold lead
          rw [hk', decide_eq_false hM]
          rfl
        have hm : valN ps L (n + 1) b ∈ valsN f M ps L (n + 1) (n + 1) := List.mem_map.mpr ⟨b, lead_mem h1 hl, rfl⟩
        have hv : valN ps L (n + 1) b = k' + cst ps b ((n + 1 : Nat) : Int) := by
          unfold valN
          rw [hk']
          rfl
        cases hmn : minO (valsN f M ps L (n + 1) (n + 1)) with
        | none =>
          cases hv2 : valsN f M ps L (n + 1) (n + 1) with
          | nil =>
            rw [hv2] at hm
            cases hm
          | cons a r =>
            rw [hv2] at hmn
            cases hmn
        | some x =>
          obtain ⟨_, h4⟩ := minO_mem hmn
          have h5 := h4 _ hm
          rw [hv] at h5
          exact ⟨x, rfl, h5⟩
      · obtain ⟨k, g1, g2⟩ := ih.le b e h1 (by omega) hM k' hk'
        exact ⟨k, by rw [lft e (by omega)]; exact g1, g2⟩
theorem Fco.led (h : Fco f M ps n L) {i j : Nat} (hij : AllR n i j) (hM : ¬ M < f i j) : ledB (L.getD i none) (cst ps i j) (L.getD j none) = true := by
  cases hk : L.getD i none with
  | none => rfl
  | some k' =>
    obtain ⟨k, g1, g2⟩ := h.le i j hij.1 hij.2 hM k' hk
    rw [g1]
    exact decide_eq_true g2
theorem Fco.shp (h : Fco f M ps n L) : ShP f M ps n L := ⟨h.l, h.o, fun i j hij hM => h.led hij hM⟩
end
theorem iteND {c A B : Prop} [Decidable c] (hc : ¬ c) (h : A) : if (!decide c) = true then A else B := by
  rw [decide_eq_false hc]
  exact iteT h
theorem isKeys_at {H : Hp} : ∀ {kvs : List (List Key × V)} {bs : List Addr} {i : Nat} {b : Addr}, IsKeys H kvs bs → bs[i]? = some b → ∃ kv, kvs[i]? = some kv ∧ H b = some (.tup (kv.1.map kV)) := by
  intro kvs bs i b hp
  unfold IsKeys at hp
  induction hp generalizing i with
  | nil => intro h; simp at h
  | cons h t ih =>
    cases i with
    | zero =>
      intro e
      simp only [List.getElem?_cons_zero, Option.some.injEq] at e
      subst e
      exact ⟨_, rfl, h⟩
    | succ i =>
      intro e
      rw [List.getElem?_cons_succ] at e ⊢
      exact ih e
end Cc
/-! XObe: numbers forwards and backwards; obeyed; calm by the law's own way, with any kept rows. -/
namespace Cc
open PySem PySem.Spec PyProof.Rows L2
section
variable {f : Nat → Nat → Rat} {M : Rat} {ps : List (Int × Int)} {n : Nat} {L : List (Option Int)} {B : Nat → Option Int}
theorem Fco.to (hF : Fco f M ps n L) (hB : Bco f M ps n 0 B) : ∀ k b, n - b ≤ k → b ≤ n → ∀ x y, L.getD b none = some x → B b = some y → ∃ z, L.getD n none = some z ∧ z ≤ x + y := by
  intro k
  induction k with
  | zero =>
    intro b hk hb x y h1 h2
    obtain rfl : b = n := by omega
    rw [hB.e] at h2
    injection h2 with h2
    exact ⟨x, h1, by omega⟩
  | succ k ih =>
    intro b hk hb x y h1 h2
    by_cases z : b = n
    · subst z
      rw [hB.e] at h2
      injection h2 with h2
      exact ⟨x, h1, by omega⟩
    · obtain ⟨e, k', g1, g2, g3, g4, g5⟩ := hB.hit b (Nat.zero_le _) (by omega) y h2
      obtain ⟨w, g6, g7⟩ := hF.le b e g1 g2 g3 x h1
      obtain ⟨u, g8, g9⟩ := ih e (by omega) g2 w k' g6 g4
      exact ⟨u, g8, by omega⟩
theorem Fco.back (hF : Fco f M ps n L) (hB : Bco f M ps n 0 B) : ∀ k b, b ≤ k → b ≤ n → ∀ x y, L.getD b none = some x → B b = some y → ∃ w, B 0 = some w ∧ w ≤ x + y := by
  intro k
  induction k with
  | zero =>
    intro b hk hb x y h1 h2
    obtain rfl : b = 0 := by omega
    rw [hF.o] at h1
    injection h1 with h1
    exact ⟨y, h2, by omega⟩
  | succ k ih =>
    intro b hk hb x y h1 h2
    by_cases z : b = 0
    · subst z
      rw [hF.o] at h1
      injection h1 with h1
      exact ⟨y, h2, by omega⟩
    · obtain ⟨b', k', g1, g2, g3, g4⟩ := hF.hit b (by omega) hb x h1
      obtain ⟨w, g6, g7⟩ := hB.le b' (Nat.zero_le _) (by omega) b y g1 hb g2 h2
      obtain ⟨u, g8, g9⟩ := ih b' (by omega) (by omega) k' w g3 g6
      exact ⟨u, g8, by omega⟩
/-- the last number is what calm sizes cost -/
theorem Fco.last (hF : Fco f M ps n L) (hB : Bco f M ps n 0 B) : L.getD n none = B 0 := by
  cases h0 : B 0 with
  | some k =>
    obtain ⟨z, h1, h2⟩ := hF.to hB n 0 (by omega) (by omega) 0 k hF.o h0
    obtain ⟨w, h3, h4⟩ := hF.back hB n n (by omega) (by omega) z 0 h1 hB.e
    rw [h0] at h3
    injection h3 with h3
    rw [h1]
    congr 1
    omega
  | none =>
    cases hn : L.getD n none with
    | none => rfl
    | some z =>
      obtain ⟨w, h3, h4⟩ := hF.back hB n n (by omega) (by omega) z 0 hn hB.e
      rw [h0] at h3
      cases h3
/-! ### how many rows of sizes are none of the kept ones -/
def outs (ps : List (Int × Int)) (ss : List Int) : List (Int × Int) := (spotsM ss).filter fun p => !decide (p ∈ ps)
theorem spots_cons_from (ss : List Int) : spotsM ss = (List.range ss.length).map fun j => (((ss.take j).sum), ss.getD j 0) := rfl
/-- what sizes cost from their row j on -/
def costFrom (ps : List (Int × Int)) (ss : List Int) : Nat → Nat → Int
  | 0, _ => 0
  | k + 1, j => cst ps (off ss j : Nat) (off ss (j + 1) : Nat) + costFrom ps ss k (j + 1)
theorem off_cast {ss : List Int} {n j : Nat} (h : SOk ss n) (hj : j < ss.length) : ((off ss j : Nat) : Int) = (ss.take j).sum ∧ ((off ss (j + 1) : Nat) : Int) - (off ss j : Nat) = ss.getD j 0 := by
  have h1 := h.off_int j
  have h2 := h.off_int (j + 1)
  have h4 : (ss.take (j + 1)).sum = (ss.take j).sum + ss.getD j 0 := take_sum hj
  exact ⟨h1, by omega⟩
theorem outs_cost {ss : List Int} {n : Nat} (h : SOk ss n) : ∀ k, k ≤ ss.length → (((spotsM ss).drop (ss.length - k)).filter fun p => !decide (p ∈ ps)).length = costFrom ps ss k (ss.length - k) := by
  intro k
  induction k with
  | zero =>
    intro hk
    have : (spotsM ss).drop (ss.length - 0) = [] := List.drop_of_length_le (by rw [spots_len]; omega)
    rw [this]
    rfl
  | succ k ih =>
    intro hk
    have hlt : ss.length - (k + 1) < ss.length := by omega
    have e1 : ss.length - (k + 1) + 1 = ss.length - k := by omega
    have hg : (spotsM ss)[ss.length - (k + 1)]? = some ((ss.take (ss.length - (k + 1))).sum, ss.getD (ss.length - (k + 1)) 0) := by
      unfold spotsM
      rw [List.getElem?_map, List.getElem?_range hlt]
      rfl
    obtain ⟨o1, o2⟩ := off_cast h hlt
    have hd : (spotsM ss).drop (ss.length - (k + 1)) = ((ss.take (ss.length - (k + 1))).sum, ss.getD (ss.length - (k + 1)) 0) :: (spotsM ss).drop (ss.length - k) := by
      have hl : ss.length - (k + 1) < (spotsM ss).length := by rw [spots_len]; exact hlt
      rw [List.drop_eq_getElem_cons hl, e1]
      congr 1
      have := List.getElem?_eq_some_iff.mp hg
      exact this.2
    rw [hd, List.filter_cons]
    have ih := ih (by omega)
    show _ = cst ps _ _ + costFrom ps ss k _
    rw [e1, ← ih]
    have ec : cst ps ((off ss (ss.length - (k + 1)) : Nat) : Int) ((off ss (ss.length - k) : Nat) : Int) = if ((ss.take (ss.length - (k + 1))).sum, ss.getD (ss.length - (k + 1)) 0) ∈ ps then 0 else 1 := by
      rw [e1] at o2
      unfold cst
      rw [o2, o1]
    rw [ec]
    by_cases c : ((ss.take (ss.length - (k + 1))).sum, ss.getD (ss.length - (k + 1)) 0) ∈ ps
    · rw [if_pos c, decide_eq_true c]
      simp
    · rw [if_neg c, decide_eq_false c]
      simp
      omega
theorem outs_all {ss : List Int} (h : SOk ss n) : ((outs ps ss).length : Int) = costFrom ps ss ss.length 0 := by
  have := outs_cost (ps := ps) h ss.length (Nat.le_refl _)
  rw [Nat.sub_self, List.drop_zero] at this
  exact this
/-- no sizes within M cost less -/
theorem Bco.low (hB : Bco f M ps n 0 B) {ss : List Int} (hS : SOk ss n) (hM : InM f M ss) : ∀ k, k ≤ ss.length → ∃ c, B (off ss (ss.length - k)) = some c ∧ c ≤ costFrom ps ss k (ss.length - k) := by
  intro k
  induction k with
  | zero =>
    intro hk
    exact ⟨0, by rw [Nat.sub_zero, hS.off_len]; exact hB.e, Int.le_refl _⟩
  | succ k ih =>
    intro hk
    obtain ⟨c, h1, h2⟩ := ih (by omega)
    have hlt : ss.length - (k + 1) < ss.length := by omega
    have e1 : ss.length - (k + 1) + 1 = ss.length - k := by omega
    have hm := hM _ hlt
    rw [e1] at hm
    have hle := hS.off_le (ss.length - k)
    have hlt2 : off ss (ss.length - (k + 1)) < off ss (ss.length - k) := by
      have g1 := hS.off_succ hlt
      rw [e1] at g1
      have g2 := hS.w (ss.getD (ss.length - (k + 1)) 0) (by rw [List.getD_eq_getElem?_getD, List.getElem?_eq_getElem hlt]; exact List.getElem_mem hlt)
      omega
    obtain ⟨c', h3, h4⟩ := hB.le _ (Nat.zero_le _) (by omega) _ c hlt2 hle hm h1
    refine ⟨c', h3, ?_⟩
    show c' ≤ cst ps _ _ + costFrom ps ss k _
    rw [e1]
    omega
theorem Bco.least (hB : Bco f M ps n 0 B) {ss : List Int} (hS : SOk ss n) (hM : InM f M ss) : ∃ c, B 0 = some c ∧ c ≤ ((outs ps ss).length : Int) := by
  obtain ⟨c, h1, h2⟩ := hB.low hS hM ss.length (Nat.le_refl _)
  rw [Nat.sub_self, off_zero] at h1
  rw [Nat.sub_self] at h2
  exact ⟨c, h1, by rw [outs_all hS]; exact h2⟩
def costAt (ps : List (Int × Int)) : Int → List Int → Int
  | _, [] => 0
  | b, x :: r => cst ps b (b + x) + costAt ps (b + x) r
def spotsFrom : Int → List Int → List (Int × Int)
  | _, [] => []
  | b, x :: r => (b, x) :: spotsFrom (b + x) r
theorem spots_from : ∀ (ss : List Int) (b : Int), ((List.range ss.length).map fun i => (b + (ss.take i).sum, ss.getD i 0)) = spotsFrom b ss
  | [], _ => rfl
  | x :: r, b => by
    rw [List.length_cons, List.range_succ_eq_map, List.map_cons, List.map_map, spotsFrom, ← spots_from r (b + x)]
    congr 1
    · simp
    · refine List.map_congr_left fun i _ => ?_
      show (b + ((x :: r).take (i + 1)).sum, (x :: r).getD (i + 1) 0) = _
      rw [List.take_succ_cons, List.sum_cons, List.getD_cons_succ, Int.add_assoc]
theorem outs_at (ps : List (Int × Int)) : ∀ (ss : List Int) (b : Int), (((spotsFrom b ss).filter fun p => !decide (p ∈ ps)).length : Int) = costAt ps b ss
  | [], _ => rfl
  | x :: r, b => by
    have ih := outs_at ps r (b + x)
    rw [spotsFrom, costAt, List.filter_cons, ← ih]
    unfold cst
    rw [show b + x - b = x by omega]
    by_cases c : (b, x) ∈ ps
    · rw [if_pos c, decide_eq_true c]
      simp
    · rw [if_neg c, decide_eq_false c]
      simp
      omega
theorem outs_len (ps : List (Int × Int)) (ss : List Int) : ((outs ps ss).length : Int) = costAt ps 0 ss := by
  have h := spots_from ss 0
  have h2 : spotsM ss = spotsFrom 0 ss := by
    rw [← h]
    unfold spotsM
    refine List.map_congr_left fun i _ => ?_
    rw [Int.zero_add]
  unfold outs
  rw [h2]
  exact outs_at ps ss 0
theorem calm_cost (hB : Bco f M ps n 0 B) : ∀ k b, n - b ≤ k → b ≤ n → ∀ c, B b = some c → costAt ps b (calmL f M ps B n b) = c := by
  intro k
  induction k with
  | zero =>
    intro b hk hb c hc
    obtain rfl : b = n := by omega
    rw [calmL_stop (by omega)]
    rw [hB.e] at hc
    injection hc with hc
  | succ k ih =>
    intro b hk hb c hc
    by_cases z : b = n
    · subst z
      rw [calmL_stop (by omega)]
      rw [hB.e] at hc
      injection hc with hc
    · have hlt : b < n := by omega
      obtain ⟨e, h1, h2, h3⟩ := hB.cheap hlt hc
      have h4 := cEnd_hit (f := f) (M := M) (ps := ps) (B := B) (n := n) (b := b) (n - (b + 1)) (b + 1) (Nat.le_refl _) (by omega) ⟨e, h1, h2, h3⟩
      have h5 := cEnd_ge (f := f) (M := M) (ps := ps) (B := B) (n := n) (b := b) (n - (b + 1)) (b + 1) (Nat.le_refl _)
      have h6 := cEnd_le (f := f) (M := M) (ps := ps) (B := B) (n := n) (b := b) (n - (b + 1)) (b + 1) (Nat.le_refl _) (by omega)
      rw [calmL_go hlt]
      generalize cEnd f M ps B n b (b + 1) = e' at *
      obtain ⟨k', g1, g2, g3⟩ := cheap_some h4
      rw [hc] at g3
      injection g3 with g3
      rw [costAt, show (b : Int) + ((e' - b : Nat) : Int) = (e' : Int) by omega, ih e' (by omega) h6 k' g1]
      omega
/-- the calm sizes' rows that are none of the kept ones -/
theorem calm_outs (hB : Bco f M ps n 0 B) {c : Int} (hc : B 0 = some c) : ((outs ps (calmL f M ps B n 0)).length : Int) = c := by
  rw [outs_len]
  exact calm_cost hB n 0 (by omega) (by omega) c hc
/-! ### what leads on, with any kept rows -/
theorem cEnd_min {b : Nat} : ∀ k e, n - e ≤ k → ∀ e', e ≤ e' → cheap f M ps B b e' = true → cEnd f M ps B n b e ≤ e' := by
  intro k
  induction k with
  | zero =>
    intro e hk e' h1 h2
    rw [cEnd_stop (by omega)]
    exact h1
  | succ k ih =>
    intro e hk e' h1 h2
    by_cases c : e < n ∧ cheap f M ps B b e = false
    · rw [cEnd_go c]
      refine ih (e + 1) (by omega) e' ?_ h2
      by_cases z : e' = e
      · rw [z, c.2] at h2
        cases h2
      · omega
    · rw [cEnd_stop c]
      exact h1
def onB (f : Nat → Nat → Rat) (M : Rat) (B : Nat → Option Int) (b k : Nat) : List Nat := ((List.range k).map fun i => b + 1 + i).filter fun e => (B e).isSome && !decide (M < f b e)
theorem onB_succ (b k : Nat) : onB f M B b (k + 1) = onB f M B b k ++ (if ((B (b + 1 + k)).isSome && !decide (M < f b (b + 1 + k))) = true then [b + 1 + k] else []) := by
  unfold onB
  rw [List.range_succ, List.map_append, List.filter_append]
  congr 1
  cases h : ((B (b + 1 + k)).isSome && !decide (M < f b (b + 1 + k))) <;> simp [h]
theorem onB_mem {b k e : Nat} : e ∈ onB f M B b k ↔ (b + 1 ≤ e ∧ e < b + 1 + k) ∧ ((B e).isSome && !decide (M < f b e)) = true := by
  unfold onB
  rw [List.mem_filter, List.mem_map]
  constructor
  · rintro ⟨⟨i, hi, rfl⟩, h⟩
    have := List.mem_range.mp hi
    exact ⟨⟨by omega, by omega⟩, h⟩
  · rintro ⟨⟨h1, h2⟩, h⟩
    exact ⟨⟨e - (b + 1), List.mem_range.mpr (by omega), by omega⟩, h⟩
theorem onB_len {b k : Nat} : (onB f M B b k).length ≤ k := by
  unfold onB
  refine Nat.le_trans (List.length_filter_le _ _) ?_
  rw [List.length_map, List.length_range]
  exact Nat.le_refl _
theorem lead_iff {b e : Nat} : ((B e).isSome && !decide (M < f b e)) = true ↔ ∃ w, B e = some w ∧ ¬ M < f b e := by
  rw [Bool.and_eq_true]
  constructor
  · rintro ⟨h1, h2⟩
    cases hB : B e with
    | none =>
      rw [hB] at h1
      cases h1
    | some w =>
      refine ⟨w, rfl, fun z => ?_⟩
      rw [decide_eq_true z] at h2
      cases h2
  · rintro ⟨w, h1, h2⟩
    rw [h1, decide_eq_false h2]
    exact ⟨rfl, rfl⟩
theorem onB_nil (hB : Bco f M ps n 0 B) {b : Nat} (hb : b < n) : onB f M B b (n - b) = [] ↔ B b = none := by
  constructor
  · intro h
    cases hc : B b with
    | none => rfl
    | some c =>
      obtain ⟨e, k', g1, g2, g3, g4, g5⟩ := hB.hit b (Nat.zero_le _) hb c hc
      have : e ∈ onB f M B b (n - b) := onB_mem.mpr ⟨⟨g1, by omega⟩, lead_iff.mpr ⟨k', g4, g3⟩⟩
      rw [h] at this
      cases this
  · intro h
    rcases he : onB f M B b (n - b) with _ | ⟨e, r⟩
    · rfl
    · obtain ⟨h1, h2⟩ := onB_mem.mp (show e ∈ onB f M B b (n - b) by rw [he]; exact List.mem_cons_self)
      obtain ⟨w, g1, g2⟩ := lead_iff.mp h2
      obtain ⟨k, g3, _⟩ := hB.le b (Nat.zero_le _) hb e w (by omega) (by omega) g2 g1
      rw [h] at g3
      cases g3
end
theorem sD_ltI {c c' : Int} {ss ts : List Int} (h : c ≠ c') : PySem.W.dataLt (sD c ss) (sD c' ts) = decide (c < c') := by
  unfold sD
  rw [PySem.W.dataLt_tuple, PySem.W.dataLt_all_no (by simp [PySem.W.alike]) (by simp [PyData.eqv]; omega), PySem.W.dataLt_int]
theorem sD_ltS {c : Int} {i j : Int} {ss ts : List Int} (h : i < j) : PySem.W.dataLt (sD c (i :: ss)) (sD c (j :: ts)) = true := by
  unfold sD
  rw [PySem.W.dataLt_tuple, PySem.W.dataLt_all_yes (by simp [PySem.W.alike]) (by simp [PyData.eqv]), PySem.W.dataLt_all_no (by simp only [PySem.W.alike]; exact alikeI) (by simp only [List.map_cons, PyData.eqv, PyData.eqvAll, Bool.and_eq_false_iff]; left; simp; omega), PySem.W.dataLt_tuple, List.map_cons, List.map_cons, PySem.W.dataLt_all_no (by simp [PySem.W.alike]) (by simp [PyData.eqv]; omega), PySem.W.dataLt_int]
  simp
  omega
theorem minD_least {x0 : PyData} : ∀ {xs : List PyData} {x : PyData}, x0 ∈ x :: xs → (∀ y ∈ x :: xs, y ≠ x0 → PySem.W.dataLt y x0 = false ∧ PySem.W.dataLt x0 y = true) → PySem.W.dataLt x0 x0 = false → PySem.W.minD x xs = x0 := by
  intro xs
  induction xs with
  | nil =>
    intro x h _ _
    rw [List.mem_singleton.mp h]
    rfl
  | cons y r ih =>
    intro x h hl hs
    show PySem.W.minD (if PySem.W.dataLt y x = true then y else x) r = x0
    have key : ∀ z, z = x ∨ z = y → x0 ∈ z :: r → PySem.W.minD z r = x0 := fun z hz hm => ih hm (fun w hw hne => hl w (by
      rcases List.mem_cons.mp hw with rfl | hw
      · rcases hz with rfl | rfl
        · exact List.mem_cons_self
        · exact List.mem_cons_of_mem _ List.mem_cons_self
      · exact List.mem_cons_of_mem _ (List.mem_cons_of_mem _ hw)) hne) hs
    by_cases hr : x0 ∈ r
    · by_cases c : PySem.W.dataLt y x = true
      · rw [if_pos c]
        exact key y (.inr rfl) (List.mem_cons_of_mem _ hr)
      · rw [if_neg c]
        exact key x (.inl rfl) (List.mem_cons_of_mem _ hr)
    · by_cases hx : x = x0
      · subst hx
        have c : ¬ PySem.W.dataLt y x = true := fun c => by
          by_cases e : y = x
          · rw [e, hs] at c
            cases c
          · rw [(hl y (List.mem_cons_of_mem _ List.mem_cons_self) e).1] at c
            cases c
        rw [if_neg c]
        exact key x (.inl rfl) List.mem_cons_self
      · have hy : y = x0 := by
          rcases List.mem_cons.mp h with h | h
          · exact absurd h.symm hx
          · rcases List.mem_cons.mp h with h | h
            · exact h.symm
            · exact absurd h hr
        subst hy
        rw [if_pos (hl x List.mem_cons_self hx).2]
        exact key y (.inr rfl) List.mem_cons_self
section
variable {K : PySem.W.Frag} {H : Hp} {C : Nat → Int} {F : Nat → List Int}
theorem cdAllC : ∀ {cs : List V} {es : List Nat}, Al (fun v e => CD K H v (C e) (F e)) cs es → DpAll K H cs (es.map fun e => sD (C e) (F e))
  | _, _, .nil => .nil
  | _, _, .cons a r => .cons a.dp (cdAllC r)
theorem sDsC_ok : ∀ es : List Nat, PyData.canLayAll0 (es.map fun e => sD (C e) (F e)) = true ∧ PyData.depthAll (es.map fun e => sD (C e) (F e)) ≤ 3
  | [] => by simp [PyData.canLayAll0, PyData.depthAll]
  | z :: zs => by
    have h := sDsC_ok zs
    have h2 := sD_depth (c := C z) (ss := F z)
    refine ⟨by simp [PyData.canLayAll0, sD_lay, h.1], ?_⟩
    simp only [List.map_cons, PyData.depthAll]
    have := h.2
    omega
theorem sDsC_shaped (es : List Nat) : SeqAt.shaped (.list (es.map fun e => sD (C e) (F e))) = true := by
  have h := sDsC_ok (C := C) (F := F) es
  show (PyData.canLay0 (.list (es.map fun e => sD (C e) (F e))) && decide (PyData.depth (.list (es.map fun e => sD (C e) (F e))) ≤ 64)) = true
  rw [Bool.and_eq_true]
  exact ⟨by simp only [PyData.canLay0]; exact h.1, decide_eq_true (by simp only [PyData.depth]; omega)⟩
theorem sDsC_alike (es : List Nat) : PySem.W.AlikeAll (es.map fun e => sD (C e) (F e)) := by
  refine ⟨fun x hx y hy => ?_, fun x hx => ?_⟩
  · obtain ⟨a, _, rfl⟩ := List.mem_map.mp hx
    obtain ⟨b, _, rfl⟩ := List.mem_map.mp hy
    exact sD_alike
  · obtain ⟨a, _, rfl⟩ := List.mem_map.mp hx
    simp [sD]
end
section
variable {f : Nat → Nat → Rat} {M : Rat} {ps : List (Int × Int)} {n : Nat} {B : Nat → Option Int}
/-- the least of what leads on from b -/
theorem onB_min (hB : Bco f M ps n 0 B) {b : Nat} (hb : b < n) {k : Int} (hk : B b = some k) {e0 : Nat} {r : List Nat} (he : onB f M B b (n - b) = e0 :: r) :
    PySem.W.minD (sD (cst ps b e0 + (B e0).getD 0) (((e0 - b : Nat) : Int) :: calmL f M ps B n e0)) (r.map fun e : Nat => sD (cst ps b e + (B e).getD 0) (((e - b : Nat) : Int) :: calmL f M ps B n e)) = sD k (calmL f M ps B n b) := by
  obtain ⟨e1, h1, h2, h3⟩ := hB.cheap hb hk
  have h4 := cEnd_hit (f := f) (M := M) (ps := ps) (B := B) (n := n) (b := b) (n - (b + 1)) (b + 1) (Nat.le_refl _) (by omega) ⟨e1, h1, h2, h3⟩
  have h5 := cEnd_ge (f := f) (M := M) (ps := ps) (B := B) (n := n) (b := b) (n - (b + 1)) (b + 1) (Nat.le_refl _)
  have h6 := cEnd_le (f := f) (M := M) (ps := ps) (B := B) (n := n) (b := b) (n - (b + 1)) (b + 1) (Nat.le_refl _) (by omega)
  have h7 := fun e' => cEnd_min (f := f) (M := M) (ps := ps) (B := B) (n := n) (b := b) (n - (b + 1)) (b + 1) (Nat.le_refl _) e'
  rw [calmL_go hb]
  generalize cEnd f M ps B n b (b + 1) = e at *
  obtain ⟨k', g1, g2, g3⟩ := cheap_some h4
  rw [hk] at g3
  injection g3 with g3
  have hv : k = cst ps b e + (B e).getD 0 := by rw [g1]; exact g3
  have hm : e ∈ e0 :: r := by
    rw [← he]
    exact onB_mem.mpr ⟨⟨h5, by omega⟩, lead_iff.mpr ⟨k', g1, g2⟩⟩
  refine minD_least (x0 := sD k (((e - b : Nat) : Int) :: calmL f M ps B n e)) ?_ ?_ ?_
  · rw [← List.map_cons (f := fun e : Nat => sD (cst ps b e + (B e).getD 0) (((e - b : Nat) : Int) :: calmL f M ps B n e))]
    refine List.mem_map.mpr ⟨e, hm, ?_⟩
    rw [hv]
  · rw [← List.map_cons (f := fun e : Nat => sD (cst ps b e + (B e).getD 0) (((e - b : Nat) : Int) :: calmL f M ps B n e))]
    intro y hy hne
    obtain ⟨e', hm', rfl⟩ := List.mem_map.mp hy
    rw [← he] at hm'
    obtain ⟨q1, q2⟩ := onB_mem.mp hm'
    obtain ⟨w, q3, q4⟩ := lead_iff.mp q2
    obtain ⟨kk, q5, q6⟩ := hB.le b (Nat.zero_le _) hb e' w (by omega) (by omega) q4 q3
    rw [hk] at q5
    injection q5 with q5
    subst q5
    have hw : cst ps b e' + (B e').getD 0 = cst ps b e' + w := by rw [q3]; rfl
    by_cases c : cst ps b e' + w = k
    · have ch : Cc.cheap f M ps B b e' = true := by
        unfold Cc.cheap
        rw [q3, hk, decide_eq_false q4, c.symm]
        simp
      have hle := h7 e' (by omega) ch
      have hlt : e < e' := by
        rcases Nat.lt_or_ge e e' with z | z
        · exact z
        · exfalso
          refine hne ?_
          rw [show e' = e by omega, hv]
      rw [hw, c]
      exact ⟨sD_lt (by omega), sD_ltS (by omega)⟩
    · rw [hw]
      constructor
      · rw [sD_ltI c]
        exact decide_eq_false (by omega)
      · rw [sD_ltI (fun z => c z.symm)]
        exact decide_eq_true (by omega)
  · exact PySem.W.dataLt_self _
end
/-! ### promises -/
@[irreducible] def spObeyed (K : PySem.W.Frag) : Sp := fun vs H Q _ => ∃ (D L T : Addr) (n m : Nat) (u : V) (M : Rat) (f : Nat → Nat → Rat) (ps : List (Int × Int)) (xs : List (Option Int)), vs = [.ref D, u, .ref L, .ref T] ∧ DSh K n (AllR n) f m H D ∧ (∀ i j, AllR n i j → Sz 3900 (f i j)) ∧ PtV K H u M ∧ Sz 3900 M ∧ SpD K H L ps ∧ H T = some (.lst (xs.map oV)) ∧ ShP f M ps n xs ∧ ∀ H', Same H H' → Q (.bl true) H'
@[irreducible] def spFCalmG (K : PySem.W.Frag) : Sp := fun vs H Q _ => ∃ (D L : Addr) (n m : Nat) (u : V) (M : Rat) (f : Nat → Nat → Rat) (ps : List (Int × Int)) (B : Nat → Option Int), vs = [.ref D, .int n, u, .ref L] ∧ DSh K n (AllR n) f m H D ∧ n ≤ 12 ∧ (∀ i j, AllR n i j → Sz 3900 (f i j)) ∧ PtV K H u M ∧ Sz 3900 M ∧ Bco f M ps n 0 B ∧ SpD K H L ps ∧ (B 0 = none → ∀ H', Same H H' → Q .non H') ∧ ∀ k, B 0 = some k → ∀ t s H', Same H H' → SqT K H' t [.ref s, .int k] → SqT K H' s ((calmL f M ps B n 0).map V.int) → Q (.ref t) H'
section
variable {K : PySem.W.Frag} {H : Hp} {Q : VK} {E : XK} {vs : List V} {n m j : Nat} {M : Rat} {ps : List (Int × Int)} {u : V} {D T L : Addr} {f : Nat → Nat → Rat} {xs : List (Option Int)} {B : Nat → Option Int}
theorem obeyed_step (h : DSh K n (AllR n) f m H D) (hz : ∀ i j, AllR n i j → Sz 3900 (f i j)) (hu : PtV K H u M) (hM : Sz j M) (hj : j ≤ 3900) (hL : SpD K H L ps) (hT : H T = some (.lst (xs.map oV))) (hS : ShP f M ps n xs) (q : ∀ H', Same H H' → Q (.bl true) H') (hvs : vs = [.ref D, u, .ref L, .ref T] := by rfl) : spObeyed K vs H Q E := by
  unfold spObeyed
  exact ⟨D, L, T, n, m, u, M, f, ps, xs, hvs, h, hz, hu, hM.mono hj, hL, hT, hS, q⟩
theorem fcalmG_step (h : DSh K n (AllR n) f m H D) (hn : n ≤ 12) (hz : ∀ i j, AllR n i j → Sz 3900 (f i j)) (hu : PtV K H u M) (hM : Sz j M) (hj : j ≤ 3900) (hB : Bco f M ps n 0 B) (hL : SpD K H L ps) (q : B 0 = none → ∀ H', Same H H' → Q .non H') (q2 : ∀ k, B 0 = some k → ∀ t s H', Same H H' → SqT K H' t [.ref s, .int k] → SqT K H' s ((calmL f M ps B n 0).map V.int) → Q (.ref t) H') (hvs : vs = [.ref D, .int n, u, .ref L] := by rfl) : spFCalmG K vs H Q E := by
  unfold spFCalmG
  exact ⟨D, L, n, m, u, M, f, ps, B, hvs, h, hn, hz, hu, hM.mono hj, hB, hL, q, q2⟩
end
theorem worst_at {b : Bx} {ws ss : List Int} {d : Bool} (hS : SOk ss ws.length) (h0 : 1 ≤ ws.length) : ∃ k, k < ss.length ∧ rowShape b ws (off ss k) (ss.getD k 0).toNat d = worstM b ws ss d := by
  have hm : worstM b ws ss d ∈ shapesM b ws ss d := mostL_mem (fun z => by
    have := congrArg List.length z
    unfold shapesM at this
    rw [List.length_map, List.length_range, List.length_nil] at this
    have := hS.ne h0
    omega)
  unfold shapesM at hm
  obtain ⟨k, hk, e⟩ := List.mem_map.mp hm
  exact ⟨k, List.mem_range.mp hk, e⟩
theorem worst_szS {b : Bx} {ws ss : List Int} {d : Bool} (hb : b.Ok 202) (hW : WOk ws) (hS : SOk ss ws.length) : Sz 670 (worstM b ws ss d) := by
  obtain ⟨k, hk, e⟩ := worst_at (b := b) (d := d) hS hW.l0
  have hl1 := hW.l1
  have hg := hS.getD hk
  rw [← e]
  exact (sz_rowShape hb hW (by omega) (hS.size_le hk) d).mono (by decide)
/-- sizes within M have no worse shape -/
theorem inM_worst {b : Bx} {ws ss : List Int} {d : Bool} {M : Rat} (hS : SOk ss ws.length) (h0 : 1 ≤ ws.length) (h : InM (fSh b ws d) M ss) : ¬ M < worstM b ws ss d := by
  obtain ⟨k, hk, e⟩ := worst_at (b := b) (d := d) hS h0
  have := h k hk
  unfold fSh at this
  rw [hS.off_succ hk, Nat.add_sub_cancel_left] at this
  rw [← e]
  exact this
theorem worst_inM' {b : Bx} {ws ss : List Int} {d : Bool} {M : Rat} (hS : SOk ss ws.length) (h : ¬ M < worstM b ws ss d) : InM (fSh b ws d) M ss := worst_inM hS (Rat.not_lt.mp h)
end Cc
/-! XCst: calm sizes by going through all sizes. -/
namespace Cc
open PySem PySem.Spec PyProof.Rows L2
section
variable {f : Nat → Nat → Rat} {M : Rat} {ps : List (Int × Int)} {n : Nat} {B : Nat → Option Int} {ss : List Int}
theorem wOf_in (hS : SOk ss n) (h0 : 1 ≤ n) : ¬ M < wOf f ss ↔ InM f M ss := by
  constructor
  · intro h j hj
    exact fun z => h (by have := wOf_ge (f := f) hj; grind)
  · intro h z
    obtain ⟨j, hj, e⟩ := wOf_at (f := f) hS h0
    rw [e] at z
    exact h j hj z
/-- rows from b on within M -/
def InF (f : Nat → Nat → Rat) (M : Rat) : Nat → List Int → Prop
  | _, [] => True
  | b, x :: r => ¬ M < f b (b + x.toNat) ∧ InF f M (b + x.toNat) r
theorem inF_of : ∀ (ss : List Int) (b : Nat), (∀ x ∈ ss, 1 ≤ x) → (∀ j, j < ss.length → ¬ M < f (b + off ss j) (b + off ss (j + 1))) → InF f M b ss
  | [], _, _, _ => trivial
  | x :: r, b, hw, h => by
    have hx := hw x List.mem_cons_self
    have hr : ∀ y ∈ r, 1 ≤ y := fun y hy => hw y (List.mem_cons_of_mem _ hy)
    have e : ∀ j, off (x :: r) (j + 1) = x.toNat + off r j := fun j => by
      unfold off
      rw [List.take_succ_cons, List.sum_cons]
      have : 0 ≤ (r.take j).sum := by
        have := sum_nn (ws := r.take j) fun y hy => hr y (List.mem_of_mem_take hy)
        omega
      omega
    refine ⟨?_, inF_of r (b + x.toNat) hr fun j hj => ?_⟩
    · have := h 0 (by simp)
      rw [e 0] at this
      simpa [off] using this
    · have := h (j + 1) (by simpa using hj)
      rw [e j, e (j + 1)] at this
      rw [Nat.add_assoc, Nat.add_assoc]
      exact this
theorem inM_F (hS : SOk ss n) (h : InM f M ss) : InF f M 0 ss := inF_of ss 0 hS.w fun j hj => by
  rw [Nat.zero_add, Nat.zero_add]
  exact h j hj
/-- calm sizes come ahead of all others that cost as little -/
theorem calm_lex (hB : Bco f M ps n 0 B) : ∀ (ss : List Int) (b : Nat), (∀ x ∈ ss, 1 ≤ x) → (b : Int) + ss.sum = n → InF f M b ss → ∃ c, B b = some c ∧ c ≤ costAt ps b ss ∧ (costAt ps b ss = c → ¬ ss < calmL f M ps B n b)
  | [], b, _, hs, _ => by
    rw [List.sum_nil] at hs
    obtain rfl : b = n := by omega
    refine ⟨0, hB.e, Int.le_refl _, fun _ => ?_⟩
    rw [calmL_stop (by omega)]
    exact List.not_lt_nil _
  | x :: r, b, hw, hs, hin => by
    rw [List.sum_cons] at hs
    have hx := hw x List.mem_cons_self
    have hr : ∀ y ∈ r, 1 ≤ y := fun y hy => hw y (List.mem_cons_of_mem _ hy)
    have hrs := sum_nn hr
    obtain ⟨h1, h2⟩ := hin
    obtain ⟨c', g1, g2, g3⟩ := calm_lex hB r (b + x.toNat) hr (by omega) h2
    obtain ⟨c, g4, g5⟩ := hB.le b (Nat.zero_le _) (by omega) (b + x.toNat) c' (by omega) (by omega) h1 g1
    have ec : costAt ps b (x :: r) = cst ps b ((b + x.toNat : Nat) : Int) + costAt ps ((b + x.toNat : Nat) : Int) r := by
      rw [costAt, show (b : Int) + x = ((b + x.toNat : Nat) : Int) by omega]
    obtain ⟨w0, hw0⟩ : ∃ w0, w0 = cst ps (b : Nat) ((b + x.toNat : Nat) : Int) := ⟨_, rfl⟩
    rw [← hw0] at ec g5
    refine ⟨c, g4, by rw [ec]; omega, fun e => ?_⟩
    rw [ec] at e
    have hlt : b < n := by omega
    have ch : Cc.cheap f M ps B b (b + x.toNat) = true := by
      unfold Cc.cheap
      rw [g1, g4, decide_eq_false h1, ← hw0, show c = w0 + c' by omega]
      simp
    have hmin := cEnd_min (f := f) (M := M) (ps := ps) (B := B) (n := n) (b := b) (n - (b + 1)) (b + 1) (Nat.le_refl _) (b + x.toNat) (by omega) ch
    have hge := cEnd_ge (f := f) (M := M) (ps := ps) (B := B) (n := n) (b := b) (n - (b + 1)) (b + 1) (Nat.le_refl _)
    rw [calmL_go hlt, lt_of_cons]
    rintro (z | ⟨z, w⟩)
    · omega
    · have ee : cEnd f M ps B n b (b + 1) = b + x.toNat := by omega
      rw [ee] at w
      exact g3 (by omega) w
theorem Bco.lex (hB : Bco f M ps n 0 B) (hS : SOk ss n) (h : InM f M ss) : ∃ c, B 0 = some c ∧ c ≤ ((outs ps ss).length : Int) ∧ (((outs ps ss).length : Int) = c → ¬ ss < calmL f M ps B n 0) := by
  obtain ⟨c, h1, h2, h3⟩ := calm_lex hB ss 0 hS.w (by rw [hS.s]; omega) (inM_F hS h)
  rw [outs_len]
  exact ⟨c, h1, h2, h3⟩
/-- what going through all sizes has come to -/
structure Chf (f : Nat → Nat → Rat) (M : Rat) (ps : List (Int × Int)) (ls : List (List Int)) (o : Option (List Int)) : Prop where
  no : o = none → ∀ s ∈ ls, ¬ InM f M s
  yes : ∀ s, o = some s → s ∈ ls ∧ InM f M s ∧ ∀ t ∈ ls, InM f M t → (outs ps s).length ≤ (outs ps t).length ∧ ((outs ps s).length = (outs ps t).length → ¬ t < s)
theorem Chf.nil : Chf f M ps [] none := ⟨(fun _ s h => nomatch h), (fun s h => nomatch h)⟩
theorem Chf.skip {ls : List (List Int)} {o : Option (List Int)} {s : List Int} (h : Chf f M ps ls o) (hs : ¬ InM f M s) : Chf f M ps (ls ++ [s]) o := by
  refine ⟨fun e t ht => ?_, fun u e => ?_⟩
  · rcases List.mem_append.mp ht with ht | ht
    · exact h.no e t ht
    · rw [List.mem_singleton.mp ht]
      exact hs
  · obtain ⟨h1, h2, h3⟩ := h.yes u e
    refine ⟨List.mem_append_left _ h1, h2, fun t ht hi => ?_⟩
    rcases List.mem_append.mp ht with ht | ht
    · exact h3 t ht hi
    · rw [List.mem_singleton.mp ht] at hi
      exact absurd hi hs
theorem Chf.keep {ls : List (List Int)} {u s : List Int} (h : Chf f M ps ls (some u)) (hw : (ls ++ [s]).Pairwise (fun a b => ¬ b < a)) (hc : (outs ps u).length ≤ (outs ps s).length) : Chf f M ps (ls ++ [s]) (some u) := by
  refine ⟨fun e => (nomatch e), fun u' e => ?_⟩
  injection e with e
  subst e
  obtain ⟨h1, h2, h3⟩ := h.yes _ rfl
  refine ⟨List.mem_append_left _ h1, h2, fun t ht hi => ?_⟩
  rcases List.mem_append.mp ht with ht | ht
  · exact h3 t ht hi
  · rw [List.mem_singleton.mp ht]
    exact ⟨hc, fun _ => (List.pairwise_append.mp hw).2.2 _ h1 _ (List.mem_singleton.mpr rfl)⟩
theorem Chf.take {ls : List (List Int)} {o : Option (List Int)} {s : List Int} (h : Chf f M ps ls o) (hi : InM f M s) (hc : ∀ u, o = some u → (outs ps s).length < (outs ps u).length) : Chf f M ps (ls ++ [s]) (some s) := by
  refine ⟨fun e => (nomatch e), fun u e => ?_⟩
  injection e with e
  subst e
  refine ⟨List.mem_append_right _ (List.mem_singleton.mpr rfl), hi, fun t ht ht2 => ?_⟩
  rcases List.mem_append.mp ht with ht | ht
  · cases o with
    | none => exact absurd ht2 (h.no rfl t ht)
    | some u =>
      have h1 := hc u rfl
      have h2 := ((h.yes u rfl).2.2 t ht ht2).1
      exact ⟨by omega, fun z => by omega⟩
  · rw [List.mem_singleton.mp ht]
    exact ⟨Nat.le_refl _, fun _ z => (lex_total s s).elim (fun q => q z) (fun q => q z)⟩
/-- and it is the calm ones -/
theorem Chf.calm {ls : List (List Int)} {o : Option (List Int)} (h : Chf f M ps ls o) (hB : Bco f M ps n 0 B) (hl : ∀ s, s ∈ ls ↔ SOk s n) : o = (B 0).map fun _ => calmL f M ps B n 0 := by
  have hcs := calm_sok (f := f) (M := M) (ps := ps) (B := B) (n := n)
  cases o with
  | none =>
    cases hb : B 0 with
    | none => rfl
    | some c => exact absurd (calm_inM hB hb) (h.no rfl _ ((hl _).mpr hcs))
  | some s =>
    obtain ⟨h1, h2, h3⟩ := h.yes s rfl
    have hs := (hl s).mp h1
    obtain ⟨c, g1, g2, g3⟩ := hB.lex hs h2
    have g4 := calm_outs hB g1
    obtain ⟨g5, g6⟩ := h3 _ ((hl _).mpr hcs) (calm_inM hB g1)
    have e1 : ((outs ps s).length : Int) = c := by omega
    rw [g1]
    show some s = some _
    rw [lex_antisymm s _ (g6 (by omega)) (g3 e1)]
end
@[irreducible] def spLCalm (K : PySem.W.Frag) : Sp := fun vs H Q _ => ∃ (v u : V) (a L : Addr) (b : Bx) (ws : List Int) (M : Rat) (ps : List (Int × Int)) (d : Bool) (B : Nat → Option Int), vs = [v, .ref a, .str (sd d), u, .ref L] ∧ BxV K H v b ∧ b.Ok 202 ∧ SqL K H a (ws.map V.int) ∧ WOk ws ∧ ws.length ≤ 7 ∧ PtV K H u M ∧ Sz 3900 M ∧ SpH K H L ps ∧ Bco (fSh b ws d) M ps ws.length 0 B ∧ (B 0 = none → ∀ H', Same H H' → Q .non H') ∧ ∀ k, B 0 = some k → ∀ t s H', Same H H' → SqT K H' t [.ref s, .int k] → SqT K H' s ((calmL (fSh b ws d) M ps B ws.length 0).map V.int) → Q (.ref t) H'
theorem lcalm_step {K : PySem.W.Frag} {H : Hp} {Q : VK} {E : XK} {vs : List V} {v u : V} {a L : Addr} {b : Bx} {ws : List Int} {M : Rat} {ps : List (Int × Int)} {d : Bool} {B : Nat → Option Int} {i j : Nat} (hv : BxV K H v b) (hb : b.Ok i) (hi : i ≤ 202) (h : SqL K H a (ws.map V.int)) (hw : WOk ws) (hn : ws.length ≤ 7) (hu : PtV K H u M) (hz : Sz j M) (hj : j ≤ 3900) (hL : SpH K H L ps) (hB : Bco (fSh b ws d) M ps ws.length 0 B) (q : B 0 = none → ∀ H', Same H H' → Q .non H') (q2 : ∀ k, B 0 = some k → ∀ t s H', Same H H' → SqT K H' t [.ref s, .int k] → SqT K H' s ((calmL (fSh b ws d) M ps B ws.length 0).map V.int) → Q (.ref t) H') (hvs : vs = [v, .ref a, .str (sd d), u, .ref L] := by rfl) : spLCalm K vs H Q E := by
  unfold spLCalm
  exact ⟨v, u, a, L, b, ws, M, ps, d, B, hvs, hv, hb.mono hi, h, hw, hn, hu, hz.mono hj, hL, hB, q, q2⟩
theorem Bco.exL (f : Nat → Nat → Rat) (M : Rat) (ps : List (Int × Int)) (n : Nat) : ∀ k, k ≤ n → ∃ us : List (Option Int), us.length = n + 1 ∧ Bco f M ps n (n - k) (fun e => us.getD e none) := by
  intro k
  induction k with
  | zero =>
    intro _
    refine ⟨List.replicate n none ++ [some 0], by simp, ?_, fun b h1 h2 => absurd h2 (by omega), fun b h1 h2 => absurd h2 (by omega)⟩
    have := getD_app_r (L := List.replicate n (none : Option Int)) (x := some 0) (d := none)
    rw [List.length_replicate] at this
    exact this
  | succ k ih =>
    intro hk
    obtain ⟨us, hl, h⟩ := ih (by omega)
    obtain ⟨b, hb⟩ : ∃ b, b = n - (k + 1) := ⟨_, rfl⟩
    rw [show n - k = b + 1 by omega] at h
    rw [← hb]
    obtain ⟨vals, hv⟩ : ∃ vals : List Int, ∀ y, y ∈ vals ↔ ∃ e k', b < e ∧ e ≤ n ∧ ¬ M < f b e ∧ us.getD e none = some k' ∧ y = cst ps b e + k' := by
      refine ⟨((List.range (n + 1)).filter fun e => decide (b < e) && !decide (M < f b e) && (us.getD e none).isSome).map fun e => cst ps b (e : Nat) + (us.getD e none).getD 0, fun y => ?_⟩
      rw [List.mem_map]
      constructor
      · rintro ⟨e, he, rfl⟩
        obtain ⟨g1, g2⟩ := List.mem_filter.mp he
        rw [Bool.and_eq_true, Bool.and_eq_true, decide_eq_true_iff] at g2
        obtain ⟨⟨g3, g4⟩, g5⟩ := g2
        obtain ⟨k', hk'⟩ := Option.isSome_iff_exists.mp g5
        refine ⟨e, k', g3, by have := List.mem_range.mp g1; omega, fun z => ?_, hk', by rw [hk']; rfl⟩
        rw [decide_eq_true z] at g4
        cases g4
      · rintro ⟨e, k', g1, g2, g3, g4, rfl⟩
        refine ⟨e, List.mem_filter.mpr ⟨List.mem_range.mpr (by omega), ?_⟩, by rw [g4]; rfl⟩
        rw [g4, decide_eq_true g1, decide_eq_false g3]
        rfl
    refine ⟨us.set b (minO vals), by rw [List.length_set]; exact hl, Bco.step (by omega) hl h (fun y hy => (hv y).mp (minO_mem hy).1) fun e k' g1 g2 g3 g4 => ?_⟩
    have hm := (hv (cst ps b e + k')).mpr ⟨e, k', g1, g2, g3, g4, rfl⟩
    cases hmn : minO vals with
    | none =>
      cases vals with
      | nil => cases hm
      | cons a r => cases hmn
    | some y => exact ⟨y, rfl, (minO_mem hmn).2 _ hm⟩
theorem Bco.exists_ (f : Nat → Nat → Rat) (M : Rat) (ps : List (Int × Int)) (n : Nat) : ∃ B, Bco f M ps n 0 B := by
  obtain ⟨us, _, h⟩ := Bco.exL f M ps n n (Nat.le_refl _)
  rw [Nat.sub_self] at h
  exact ⟨_, h⟩
/-- there is but one -/
theorem Bco.uniq {f : Nat → Nat → Rat} {M : Rat} {ps : List (Int × Int)} {n : Nat} {B B' : Nat → Option Int} (h : Bco f M ps n 0 B) (h' : Bco f M ps n 0 B') : ∀ k b, n - b ≤ k → b ≤ n → B b = B' b := by
  intro k b hk hb
  have low : ∀ {C C' : Nat → Option Int}, Bco f M ps n 0 C → Bco f M ps n 0 C' → ∀ c, C b = some c → ∃ c', C' b = some c' ∧ c' ≤ c := fun h1 h2 c hc => by
    obtain ⟨c', g1, g2⟩ := Bco.cmp (fun _ => 0) h1 h2 (by decide) (fun b e _ _ h3 => ⟨h3, by omega⟩) k b hk hb c hc
    exact ⟨c', g1, by omega⟩
  cases e1 : B b with
  | none =>
    cases e2 : B' b with
    | none => rfl
    | some c =>
      obtain ⟨c', g1, _⟩ := low h' h c e2
      rw [e1] at g1
      cases g1
  | some c =>
    obtain ⟨c', g1, g2⟩ := low h h' c e1
    obtain ⟨c2, g3, g4⟩ := low h' h c' g1
    rw [e1] at g3
    injection g3 with g3
    rw [g1]
    congr 1
    omega
theorem calmL_congr {f : Nat → Nat → Rat} {M : Rat} {ps : List (Int × Int)} {n : Nat} {B B' : Nat → Option Int} (h : ∀ b, b ≤ n → B b = B' b) : ∀ k b, n - b ≤ k → b ≤ n → calmL f M ps B n b = calmL f M ps B' n b := by
  intro k
  induction k with
  | zero =>
    intro b hk hb
    rw [calmL_stop (by omega), calmL_stop (by omega)]
  | succ k ih =>
    intro b hk hb
    by_cases z : b < n
    · have e : ∀ j e, n - e ≤ j → e ≤ n → cEnd f M ps B n b e = cEnd f M ps B' n b e := by
        intro j
        induction j with
        | zero =>
          intro e h1 h2
          rw [cEnd_stop (by omega), cEnd_stop (by omega)]
        | succ j ih2 =>
          intro e h1 h2
          have ec : cheap f M ps B b e = cheap f M ps B' b e := by
            unfold Cc.cheap
            rw [h e h2, h b hb]
          by_cases c : e < n ∧ cheap f M ps B b e = false
          · rw [cEnd_go (B := B) c, cEnd_go (B := B') (by rw [← ec]; exact c)]
            exact ih2 (e + 1) (by omega) (by omega)
          · rw [cEnd_stop (B := B) c, cEnd_stop (B := B') (by rw [← ec]; exact c)]
      have g1 := cEnd_ge (f := f) (M := M) (ps := ps) (B := B) (n := n) (b := b) (n - (b + 1)) (b + 1) (Nat.le_refl _)
      have g2 := cEnd_le (f := f) (M := M) (ps := ps) (B := B) (n := n) (b := b) (n - (b + 1)) (b + 1) (Nat.le_refl _) (by omega)
      rw [calmL_go z, calmL_go z, ← e (n - (b + 1)) (b + 1) (Nat.le_refl _) (by omega), ih _ (by omega) g2]
    · rw [calmL_stop z, calmL_stop z]
end Cc
/-! XInv: what does not hang on how a box is turned, how great it is, how great all weights are. -/
namespace Cc
open PySem PySem.Spec PyProof.Rows L2
/-! ### turned about -/
def tnB (b : Bx) : Bx := ⟨b.t, b.l, b.h, b.w⟩
theorem tnB_tnB (b : Bx) : tnB (tnB b) = b := rfl
theorem Bx.Ok.tn {b : Bx} {n : Nat} (h : b.Ok n) : (tnB b).Ok n := ⟨h.h0, h.w0, h.st, h.sl, h.sh, h.sw⟩
theorem fSh_turn (b : Bx) (ws : List Int) (d : Bool) : fSh (tnB b) ws (!d) = fSh b ws d := by cases d <;> rfl
theorem slab_turn (b : Bx) (x y : Rat) (d : Bool) : slab (tnB b) x y (!d) = tnB (slab b x y d) := by cases d <;> rfl
theorem cutM_tn (b : Bx) (ws : List Int) (d : Bool) : cutM (tnB b) ws (!d) = (cutM b ws d).map tnB := by
  unfold cutM
  rw [List.map_map]
  refine List.map_congr_left fun i _ => ?_
  exact slab_turn b _ _ d
theorem laidM_tn (b : Bx) (ws ss : List Int) (d : Bool) : laidM (tnB b) ws ss (!d) = (laidM b ws ss d).map tnB := by
  unfold laidM laidTo
  rw [List.map_flatten, List.map_map]
  congr 1
  refine List.map_congr_left fun i _ => ?_
  show cutM (cutAt (tnB b) (sumsM ws ss) (!d) i) (rowAt ws ss i) (!!d) = (cutM (cutAt b (sumsM ws ss) d i) (rowAt ws ss i) (!d)).map tnB
  rw [show cutAt (tnB b) (sumsM ws ss) (!d) i = tnB (cutAt b (sumsM ws ss) d i) from slab_turn b _ _ d]
  exact cutM_tn _ _ _
/-! ### made greater -/
theorem fSh_great {b c : Bx} {k : Rat} (hk : 0 < k) (hw : c.w = b.w * k) (hh : c.h = b.h * k) (b0 : 0 < b.w) (b1 : 0 < b.h) (ws : List Int) (d : Bool) : fSh c ws d = fSh b ws d := by
  have div : ∀ {x y : Rat}, 0 < y → x * k / (y * k) = x / y := fun {x y} hy => by
    have z : y * k ≠ 0 := by have := Rat.mul_pos hy hk; grind
    refine div_of ?_ z
    rw [← Rat.mul_assoc, Rat.div_def, Rat.mul_assoc x, Rat.inv_mul_cancel y (by grind), Rat.mul_one]
  funext i j
  have e : ∀ T row, gform c T row d = gform b T row d := fun T row => by
    unfold gform
    rw [hw, hh, div b1, div b0]
  unfold fSh rowShape
  rw [e]
/-! ### weights made greater -/
theorem sum_mul (k : Int) : ∀ ws : List Int, (ws.map (· * k)).sum = ws.sum * k
  | [] => by simp
  | x :: r => by
    rw [List.map_cons, List.sum_cons, List.sum_cons, sum_mul k r, Int.add_mul]
theorem rowM_mul (ws : List Int) (k : Int) (i n : Nat) : rowM (ws.map (· * k)) i n = (rowM ws i n).map (· * k) := by
  unfold rowM
  rw [List.map_take, List.map_drop]
theorem divInt_k {a b k : Int} (hk : k ≠ 0) : Rat.divInt (a * k) (b * k) = Rat.divInt a b := Rat.divInt_mul_right hk
theorem fSh_scale (b : Bx) (ws : List Int) (d : Bool) {k : Int} (hk : 0 < k) : fSh b (ws.map (· * k)) d = fSh b ws d := by
  have k0 : k ≠ 0 := by omega
  have kq : (k : Rat) ≠ 0 := by have := int_pos hk; grind
  funext i j
  unfold fSh rowShape
  rw [rowM_mul, List.map_map]
  congr 1
  refine List.map_congr_left fun x _ => ?_
  show shpX _ (x * k) = shpX _ x
  have e : gform b (ws.map (· * k)).sum ((rowM ws i (j - i)).map (· * k)) d * ((x * k : Int) : Rat) = gform b ws.sum (rowM ws i (j - i)) d * (x : Rat) := by
    unfold gform
    rw [sum_mul, sum_mul, show (rowM ws i (j - i)).sum * k * ((rowM ws i (j - i)).sum * k) = ((rowM ws i (j - i)).sum * (rowM ws i (j - i)).sum * k) * k by grind, divInt_k k0, Rat.intCast_mul, Rat.mul_assoc, Rat.mul_assoc]
    congr 1
    rw [Rat.mul_comm (x : Rat), ← Rat.mul_assoc]
    congr 1
    generalize (rowM ws i (j - i)).sum * (rowM ws i (j - i)).sum = s
    rw [Rat.divInt_eq_div, Rat.divInt_eq_div, Rat.intCast_mul]
    by_cases z : (s : Rat) = 0
    · rw [z]
      simp [Rat.div_def, Rat.zero_mul, Rat.inv_zero, Rat.mul_zero]
    · refine (div_of ?_ z).symm
      have z2 : (s : Rat) * (k : Rat) ≠ 0 := fun w => by
        rcases Rat.mul_eq_zero.mp w with w | w
        · exact z w
        · exact kq w
      rw [Rat.div_def, Rat.mul_assoc, Rat.mul_comm (k : Rat), Rat.mul_assoc, Rat.inv_mul_cancel _ z2, Rat.mul_one]
  unfold shpX
  rw [e]
theorem cutM_mul (b : Bx) (ws : List Int) (d : Bool) {k : Int} (hk : 0 < k) : cutM b (ws.map (· * k)) d = cutM b ws d := by
  have k0 : k ≠ 0 := by omega
  unfold cutM
  rw [List.length_map]
  refine List.map_congr_left fun i _ => ?_
  unfold cutAt
  rw [← List.map_take, sum_mul, sum_mul, divInt_k k0, show (ws.map (· * k)).getD i 0 = ws.getD i 0 * k by
    rw [List.getD_eq_getElem?_getD, List.getD_eq_getElem?_getD, List.getElem?_map]
    cases ws[i]? with
    | none => simp
    | some x => rfl, divInt_k k0]
theorem laidM_mul (b : Bx) (ws ss : List Int) (d : Bool) {k : Int} (hk : 0 < k) : laidM b (ws.map (· * k)) ss d = laidM b ws ss d := by
  have er : ∀ i, rowAt (ws.map (· * k)) ss i = (rowAt ws ss i).map (· * k) := fun i => by
    unfold rowAt
    rw [List.map_take, List.map_drop]
  have es : sumsM (ws.map (· * k)) ss = (sumsM ws ss).map (· * k) := by
    unfold sumsM rowsM
    rw [List.map_map, List.map_map, List.map_map]
    refine List.map_congr_left fun i _ => ?_
    show (rowAt (ws.map (· * k)) ss i).sum = (rowAt ws ss i).sum * k
    rw [er, sum_mul]
  have ec : ∀ (us : List Int) (i : Nat), cutAt b (us.map (· * k)) d i = cutAt b us d i := fun us i => by
    have k0 : k ≠ 0 := by omega
    unfold cutAt
    rw [← List.map_take, sum_mul, sum_mul, divInt_k k0, show (us.map (· * k)).getD i 0 = us.getD i 0 * k by
      rw [List.getD_eq_getElem?_getD, List.getD_eq_getElem?_getD, List.getElem?_map]
      cases us[i]? with
      | none => simp
      | some x => rfl, divInt_k k0]
  unfold laidM laidTo
  congr 1
  refine List.map_congr_left fun i _ => ?_
  unfold laidAt
  rw [es, ec, er, cutM_mul _ _ _ hk]
/-! ### all that _law_all gives -/
def clD (f : Nat → Nat → Rat) (M : Rat) (ps : List (Int × Int)) (n : Nat) (B : Nat → Option Int) : PyData :=
  match B 0 with
  | none => .none
  | some k => .tuple [.tuple ((calmL f M ps B n 0).map .int), .int k]
def allD (f : Nat → Nat → Rat) (M : Rat) (ps : List (Int × Int)) (n : Nat) (g : Nat → Rat) (B : Nat → Option Int) : PyData :=
  .list [.tuple ((bestL f g (g 0) n 0).map .int), .tuple ((greedyL f n 0).map .int), dPart (g 0), clD f M ps n B, .list ((begL f M n).map fun i : Nat => .int (i : Int))]
theorem allD_same {f : Nat → Nat → Rat} {M : Rat} {ps : List (Int × Int)} {n : Nat} {g g' : Nat → Rat} {B B' : Nat → Option Int} (h1 : Bst f n 0 g) (h2 : Bst f n 0 g') (h3 : Bco f M ps n 0 B) (h4 : Bco f M ps n 0 B') : allD f M ps n g B = allD f M ps n g' B' := by
  have e0 := Bst.uniq0 h1 h2
  have eg : ∀ e, e ≤ n → g e = g' e := fun e he => by
    have := Bst.uniq h1 h2 (n - e) (by omega)
    rw [show n - (n - e) = e by omega] at this
    exact this
  have eB : ∀ b, b ≤ n → B b = B' b := fun b hb => Bco.uniq h3 h4 n b (by omega) hb
  unfold allD clD
  rw [bestL_congr eg n 0 (by omega), e0, eB 0 (by omega), calmL_congr eB n 0 (by omega) (by omega)]
theorem ints_lay : ∀ xs : List Int, PyData.canLayAll0 (xs.map .int) = true ∧ PyData.depthAll (xs.map .int) ≤ 1
  | [] => ⟨rfl, by decide⟩
  | x :: r => by
    have h := ints_lay r
    simp only [List.map_cons, PyData.canLayAll0, PyData.canLay0, PyData.depthAll, PyData.depth, Bool.true_and]
    exact ⟨h.1, by omega⟩
theorem clD_lay (f : Nat → Nat → Rat) (M : Rat) (ps : List (Int × Int)) (n : Nat) (B : Nat → Option Int) : PyData.canLay0 (clD f M ps n B) = true ∧ PyData.depth (clD f M ps n B) ≤ 3 := by
  unfold clD
  cases B 0 with
  | none => exact ⟨rfl, (show PyData.depth PyData.none ≤ 3 by decide)⟩
  | some k =>
    have h := ints_lay (calmL f M ps B n 0)
    simp only [PyData.canLayAll0, PyData.canLay0, PyData.depthAll, PyData.depth, Bool.true_and, Bool.and_true]
    exact ⟨h.1, by omega⟩
theorem allD_lay (f : Nat → Nat → Rat) (M : Rat) (ps : List (Int × Int)) (n : Nat) (g : Nat → Rat) (B : Nat → Option Int) : PyData.canLay0 (allD f M ps n g B) = true ∧ PyData.depth (allD f M ps n g B) ≤ 5 := by
  have h1 := ints_lay (bestL f g (g 0) n 0)
  have h2 := ints_lay (greedyL f n 0)
  have h3 := clD_lay f M ps n B
  have h4 := ints_lay ((begL f M n).map fun i : Nat => (i : Int))
  rw [List.map_map] at h4
  unfold allD dPart
  simp only [PyData.canLayAll0, PyData.canLay0, PyData.depthAll, PyData.depth, Bool.true_and, Bool.and_true, Bool.and_eq_true]
  exact ⟨⟨h1.1, h2.1, h3.1, h4.1⟩, by
    have e4 : PyData.depthAll ((begL f M n).map fun i : Nat => PyData.int (i : Int)) ≤ 1 := h4.2
    omega⟩
theorem allD_shaped (f : Nat → Nat → Rat) (M : Rat) (ps : List (Int × Int)) (n : Nat) (g : Nat → Rat) (B : Nat → Option Int) : SeqAt.shaped (allD f M ps n g B) = true := by
  have h := allD_lay f M ps n g B
  show (PyData.canLay0 _ && decide (PyData.depth _ ≤ 64)) = true
  rw [Bool.and_eq_true]
  exact ⟨h.1, decide_eq_true (by omega)⟩
theorem allD_eqv (f : Nat → Nat → Rat) (M : Rat) (ps : List (Int × Int)) (n : Nat) (g : Nat → Rat) (B : Nat → Option Int) : PyData.eqv (allD f M ps n g B) (allD f M ps n g B) = true :=
  PySem.SeqAt.eqv_refl _ (allD_lay f M ps n g B).1
theorem boxes_lay : ∀ bs : List Bx, PyData.canLayAll0 (bs.map dBox) = true ∧ PyData.depthAll (bs.map dBox) ≤ 3
  | [] => ⟨rfl, by decide⟩
  | x :: r => by
    have h := boxes_lay r
    simp only [List.map_cons, dBox, dPart, PyData.canLayAll0, PyData.canLay0, PyData.depthAll, PyData.depth, Bool.true_and, Bool.and_true]
    exact ⟨h.1, by omega⟩
theorem boxes_shaped (bs : List Bx) : SeqAt.shaped (.list (bs.map dBox)) = true := by
  have h := boxes_lay bs
  show (PyData.canLay0 (.list (bs.map dBox)) && decide (PyData.depth (.list (bs.map dBox)) ≤ 64)) = true
  rw [Bool.and_eq_true]
  exact ⟨by simp only [PyData.canLay0]; exact h.1, decide_eq_true (by simp only [PyData.depth]; omega)⟩
theorem boxes_eqv (bs : List Bx) : PyData.eqv (.list (bs.map dBox)) (.list (bs.map dBox)) = true :=
  PySem.SeqAt.eqv_refl _ (by simp only [PyData.canLay0]; exact (boxes_lay bs).1)
theorem Bxs.bag {K : PySem.W.Frag} {H H' : Hp} {c : Addr} (e : Kp c H H') (hb : Bag H c) : ∀ {vs : List V} {bs : List Bx}, Bxs K H vs bs → Bxs K H' vs bs
  | _, _, .nil => .nil
  | _, _, .cons h r => .cons (h.bag e hb) (r.bag e hb)
theorem Bxs.get {K : PySem.W.Frag} {H : Hp} : ∀ {vs : List V} {bs : List Bx}, Bxs K H vs bs → ∀ {i : Nat} {v : V}, vs[i]? = some v → ∃ b, bs[i]? = some b ∧ BxV K H v b
  | _, _, .nil, i, v, e => by simp at e
  | _, _, .cons (b := b) h r, 0, v, e => by
    cases e
    exact ⟨b, rfl, h⟩
  | _, _, .cons h r, i + 1, v, e => by
    rw [List.getElem?_cons_succ] at e
    obtain ⟨b, h1, h2⟩ := r.get e
    exact ⟨b, by rw [List.getElem?_cons_succ]; exact h1, h2⟩
section
variable {K : PySem.W.Frag} {H H' : Hp}
/-- what calm gives, as it stands -/
def ClV (K : PySem.W.Frag) (H : Hp) (v : V) (f : Nat → Nat → Rat) (M : Rat) (ps : List (Int × Int)) (n : Nat) (B : Nat → Option Int) : Prop :=
  (B 0 = none ∧ v = .non) ∨ ∃ k t s, B 0 = some k ∧ v = .ref t ∧ SqT K H t [.ref s, .int k] ∧ SqT K H s ((calmL f M ps B n 0).map V.int)
theorem ClV.same {v : V} {f : Nat → Nat → Rat} {M : Rat} {ps : List (Int × Int)} {n : Nat} {B : Nat → Option Int} (h : ClV K H v f M ps n B) (e : Same H H') : ClV K H' v f M ps n B := by
  rcases h with h | ⟨k, t, s, h1, h2, h3, h4⟩
  · exact .inl h
  · exact .inr ⟨k, t, s, h1, h2, seqT_same e h3, seqT_same e h4⟩
theorem ClV.bag {v : V} {f : Nat → Nat → Rat} {M : Rat} {ps : List (Int × Int)} {n : Nat} {B : Nat → Option Int} {b : Addr} (h : ClV K H v f M ps n B) (e : Kp b H H') (hb : Bag H b) : ClV K H' v f M ps n B := by
  rcases h with h | ⟨k, t, s, h1, h2, h3, h4⟩
  · exact .inl h
  · obtain ⟨ys, hy⟩ := hb.lst
    exact .inr ⟨k, t, s, h1, h2, seqT_kp e hy h3, seqT_kp e hy h4⟩
theorem ClV.dp {v : V} {f : Nat → Nat → Rat} {M : Rat} {ps : List (Int × Int)} {n : Nat} {B : Nat → Option Int} (h : ClV K H v f M ps n B) : Dp K H v (clD f M ps n B) := by
  unfold clD
  rcases h with ⟨h, rfl⟩ | ⟨k, t, s, h1, rfl, h3, h4⟩
  · rw [h]
    exact .non
  · rw [h1]
    exact .tup h3 (.cons (.tup h4 dpI) (.cons (.int _) .nil))
/-- what _law_all gives, as it stands -/
structure AllV (K : PySem.W.Frag) (H : Hp) (p l5 : Addr) (f : Nat → Nat → Rat) (M : Rat) (ps : List (Int × Int)) (n : Nat) (g : Nat → Rat) (B : Nat → Option Int) : Prop where
  at' : ∃ t1 t2 w vc, H p = some (.lst [.ref t1, .ref t2, w, vc, .ref l5]) ∧ SqT K H t1 ((bestL f g (g 0) n 0).map V.int) ∧ SqT K H t2 ((greedyL f n 0).map V.int) ∧ PtV K H w (g 0) ∧ ClV K H vc f M ps n B
  l : H l5 = some (.lst (natV (begL f M n)))
theorem AllV.same {p l5 : Addr} {f : Nat → Nat → Rat} {M : Rat} {ps : List (Int × Int)} {n : Nat} {g : Nat → Rat} {B : Nat → Option Int} (h : AllV K H p l5 f M ps n g B) (e : Same H H') : AllV K H' p l5 f M ps n g B := by
  obtain ⟨⟨t1, t2, w, vc, h1, h2, h3, h4, h5⟩, h6⟩ := h
  exact ⟨⟨t1, t2, w, vc, e _ _ h1, seqT_same e h2, seqT_same e h3, h4.same e, h5.same e⟩, e _ _ h6⟩
theorem AllV.bag {p l5 b : Addr} {f : Nat → Nat → Rat} {M : Rat} {ps : List (Int × Int)} {n : Nat} {g : Nat → Rat} {B : Nat → Option Int} (h : AllV K H p l5 f M ps n g B) (n1 : p ≠ b) (n2 : l5 ≠ b) (e : Kp b H H') (hb : Bag H b) : AllV K H' p l5 f M ps n g B := by
  obtain ⟨⟨t1, t2, w, vc, h1, h2, h3, h4, h5⟩, h6⟩ := h
  obtain ⟨ys, hy⟩ := hb.lst
  exact ⟨⟨t1, t2, w, vc, e _ _ h1 n1, seqT_kp e hy h2, seqT_kp e hy h3, h4.bag e hb, h5.bag e hb⟩, e _ _ h6 n2⟩
theorem dpNat {K : PySem.W.Frag} {H : Hp} : ∀ xs : List Nat, DpAll K H (natV xs) (xs.map fun i : Nat => PyData.int (i : Int))
  | [] => .nil
  | x :: r => .cons (.int _) (dpNat r)
theorem AllV.dp {p l5 : Addr} {f : Nat → Nat → Rat} {M : Rat} {ps : List (Int × Int)} {n : Nat} {g : Nat → Rat} {B : Nat → Option Int} (h : AllV K H p l5 f M ps n g B) : Dp K H (.ref p) (allD f M ps n g B) := by
  obtain ⟨⟨t1, t2, w, vc, h1, h2, h3, h4, h5⟩, h6⟩ := h
  exact .lst (SqL.of h1) (.cons (.tup h2 dpI) (.cons (.tup h3 dpI) (.cons h4.dp (.cons h5.dp (.cons (.lst (SqL.of h6) (dpNat _)) .nil)))))
end
/-! ### promises -/
@[irreducible] def spAbout (K : PySem.W.Frag) : Sp := fun vs H Q _ => ∃ (v : V) (b : Bx), vs = [v] ∧ BxV K H v b ∧ ∀ u H', Same H H' → BxV K H' u (tnB b) → Q u H'
theorem about_step {K : PySem.W.Frag} {H : Hp} {Q : VK} {E : XK} {vs : List V} {v : V} {b : Bx} (hv : BxV K H v b) (q : ∀ u H', Same H H' → BxV K H' u (tnB b) → Q u H') (hvs : vs = [v] := by rfl) : spAbout K vs H Q E := by
  unfold spAbout
  exact ⟨v, b, hvs, hv, q⟩
@[irreducible] def spLAll (K : PySem.W.Frag) : Sp := fun vs H Q _ => ∃ (v u : V) (a L : Addr) (b : Bx) (ws : List Int) (M : Rat) (ps : List (Int × Int)) (d : Bool), vs = [v, .ref a, .str (sd d), u, .ref L] ∧ BxV K H v b ∧ b.Ok 450 ∧ SqL K H a (ws.map V.int) ∧ WOk ws ∧ PtV K H u M ∧ Sz 3900 M ∧ ¬ M < 1 ∧ SpH K H L ps ∧ KOk ws.length ps ∧ ∀ p l5 g B H', H p = none → H l5 = none → Same H H' → Bst (fSh b ws d) ws.length 0 g → Bco (fSh b ws d) M ps ws.length 0 B → AllV K H' p l5 (fSh b ws d) M ps ws.length g B → Q (.ref p) H'
theorem lall_step {K : PySem.W.Frag} {H : Hp} {Q : VK} {E : XK} {vs : List V} {v u : V} {a L : Addr} {b : Bx} {ws : List Int} {M : Rat} {ps : List (Int × Int)} {d : Bool} {i j : Nat} (hv : BxV K H v b) (hb : b.Ok i) (hi : i ≤ 450) (h : SqL K H a (ws.map V.int)) (hw : WOk ws) (hu : PtV K H u M) (hz : Sz j M) (hj : j ≤ 3900) (h1 : ¬ M < 1) (hL : SpH K H L ps) (hk : KOk ws.length ps) (q : ∀ p l5 g B H', H p = none → H l5 = none → Same H H' → Bst (fSh b ws d) ws.length 0 g → Bco (fSh b ws d) M ps ws.length 0 B → AllV K H' p l5 (fSh b ws d) M ps ws.length g B → Q (.ref p) H') (hvs : vs = [v, .ref a, .str (sd d), u, .ref L] := by rfl) : spLAll K vs H Q E := by
  unfold spLAll
  exact ⟨v, u, a, L, b, ws, M, ps, d, hvs, hv, hb.mono hi, h, hw, hu, hz.mono hj, h1, hL, hk, q⟩
end Cc
set_option exponentiation.threshold 10000
set_option maxHeartbeats 20000000
namespace Cc
open PySem PySem.Spec PyProof.Rows L2
local macro_rules | `(tactic| walk_at "sd") => `(tactic| first
  | exact cmul_r ⟨by decide, by decide⟩
  | exact cmul_l ⟨by decide, by decide⟩
  | exact cmul_l ⟨by omega, by omega⟩
  | exact cmul_w (by assumption) (by assumption) (by decide)
  | exact (show CPow 10 18 from ⟨by decide, by decide, by decide⟩)
  | exact (show (0 : Int) < 2147483629 by decide)
  | exact (show CDiv _ _ from ⟨by decide, by decide⟩)
  | exact (show CDiv _ _ from ⟨by assumption, by assumption⟩)
  | assumption)
local macro_rules | `(tactic| walk_at "rd") => `(tactic| first
  | refine ⟨_, rfl, ?_⟩
  | refine ⟨_, _, rfl, rfl, ?_⟩
  | (refine ⟨_, ?_, _, ?_, rfl, rfl, ?_, ?_, ?_⟩; rotate_left 2; (first | exact SqL.of (by assumption) | (show SqT _ _ _ _; assumption) | (show SqL _ _ _ _; assumption)); (first | exact rfl | assumption))
  | (refine ⟨_, ?_, rfl, ?_, ?_⟩; rotate_left 1; (first | exact .inl (SqL.of (by assumption)) | exact .inl (SqL.of upd_same)))
  | (refine And.intro ?_ ?_; (focus (walk_at "sd"))))
def top (i : Nat) : Stmt := PySem.Challenge.pw_calmcuts_k18_whole_turned_about_made_gre.main.body.getD i (.Pass ⟨0, 0, 0, 0⟩)
abbrev s_is_number : Stmt := top 12
abbrev ps_is_number : List Str := ["thing"]
theorem sc_is_number : FnScope ["thing"] ps_is_number (defScope s_is_number) := ⟨rfl, rfl, rfl, by decide +kernel, rfl, by decide +kernel, by decide +kernel⟩
abbrev s_is_part : Stmt := top 13
abbrev ps_is_part : List Str := ["thing"]
theorem sc_is_part : FnScope ["thing", "above", "below"] ps_is_part (defScope s_is_part) := ⟨rfl, rfl, rfl, by decide +kernel, rfl, by decide +kernel, by decide +kernel⟩
abbrev s_part : Stmt := top 14
abbrev ps_part : List Str := ["above", "below"]
theorem sc_part : FnScope ["above", "below", "common"] ps_part (defScope s_part) := ⟨rfl, rfl, rfl, by decide +kernel, rfl, by decide +kernel, by decide +kernel⟩
abbrev s_plus : Stmt := top 15
abbrev ps_plus : List Str := ["one", "other"]
theorem sc_plus : FnScope ["one", "other"] ps_plus (defScope s_plus) := ⟨rfl, rfl, rfl, by decide +kernel, rfl, by decide +kernel, by decide +kernel⟩
abbrev s_times : Stmt := top 16
abbrev ps_times : List Str := ["one", "other"]
theorem sc_times : FnScope ["one", "other"] ps_times (defScope s_times) := ⟨rfl, rfl, rfl, by decide +kernel, rfl, by decide +kernel, by decide +kernel⟩
abbrev s_over : Stmt := top 17
abbrev ps_over : List Str := ["one", "other"]
theorem sc_over : FnScope ["one", "other"] ps_over (defScope s_over) := ⟨rfl, rfl, rfl, by decide +kernel, rfl, by decide +kernel, by decide +kernel⟩
abbrev s_less : Stmt := top 18
abbrev ps_less : List Str := ["one", "other"]
theorem sc_less : FnScope ["one", "other"] ps_less (defScope s_less) := ⟨rfl, rfl, rfl, by decide +kernel, rfl, by decide +kernel, by decide +kernel⟩
abbrev s_lesser : Stmt := top 19
abbrev ps_lesser : List Str := ["one", "other"]
theorem sc_lesser : FnScope ["one", "other"] ps_lesser (defScope s_lesser) := ⟨rfl, rfl, rfl, by decide +kernel, rfl, by decide +kernel, by decide +kernel⟩
abbrev s_greater : Stmt := top 20
abbrev ps_greater : List Str := ["one", "other"]
theorem sc_greater : FnScope ["one", "other"] ps_greater (defScope s_greater) := ⟨rfl, rfl, rfl, by decide +kernel, rfl, by decide +kernel, by decide +kernel⟩
abbrev s_least_of : Stmt := top 21
abbrev ps_least_of : List Str := ["parts"]
theorem sc_least_of : FnScope ["parts", "found", "one"] ps_least_of (defScope s_least_of) := ⟨rfl, rfl, rfl, by decide +kernel, rfl, by decide +kernel, by decide +kernel⟩
abbrev s_is_box : Stmt := top 27
abbrev ps_is_box : List Str := ["thing"]
theorem sc_is_box : FnScope ["thing", "number"] ps_is_box (defScope s_is_box) := ⟨rfl, rfl, rfl, by decide +kernel, rfl, by decide +kernel, by decide +kernel⟩
abbrev s_shares : Stmt := top 28
abbrev ps_shares : List Str := ["box", "weights", "side"]
theorem sc_shares : FnScope ["box", "weights", "side", "total", "ahead", "found", "weight"] ps_shares (defScope s_shares) := ⟨rfl, rfl, rfl, by decide +kernel, rfl, by decide +kernel, by decide +kernel⟩
abbrev s_check_box : Stmt := top 29
abbrev ps_check_box : List Str := ["thing"]
theorem sc_check_box : FnScope ["thing"] ps_check_box (defScope s_check_box) := ⟨rfl, rfl, rfl, by decide +kernel, rfl, by decide +kernel, by decide +kernel⟩
abbrev s_check_weights : Stmt := top 30
abbrev ps_check_weights : List Str := ["thing"]
theorem sc_check_weights : FnScope ["thing", "weight"] ps_check_weights (defScope s_check_weights) := ⟨rfl, rfl, rfl, by decide +kernel, rfl, by decide +kernel, by decide +kernel⟩
abbrev s_is_side : Stmt := top 31
abbrev ps_is_side : List Str := ["thing"]
theorem sc_is_side : FnScope ["thing"] ps_is_side (defScope s_is_side) := ⟨rfl, rfl, rfl, by decide +kernel, rfl, by decide +kernel, by decide +kernel⟩
abbrev s_check_side : Stmt := top 32
abbrev ps_check_side : List Str := ["thing"]
theorem sc_check_side : FnScope ["thing"] ps_check_side (defScope s_check_side) := ⟨rfl, rfl, rfl, by decide +kernel, rfl, by decide +kernel, by decide +kernel⟩
abbrev s_check_split : Stmt := top 33
abbrev ps_check_split : List Str := ["box", "weights", "side"]
theorem sc_check_split : FnScope ["box", "weights", "side"] ps_check_split (defScope s_check_split) := ⟨rfl, rfl, rfl, by decide +kernel, rfl, by decide +kernel, by decide +kernel⟩
abbrev s__slab : Stmt := top 34
abbrev ps__slab : List Str := ["box", "ahead", "share", "side"]
theorem sc__slab : FnScope ["box", "ahead", "share", "side", "left", "top", "wide", "high"] ps__slab (defScope s__slab) := ⟨rfl, rfl, rfl, by decide +kernel, rfl, by decide +kernel, by decide +kernel⟩
abbrev s_laid : Stmt := top 36
abbrev ps_laid : List Str := ["box", "weights", "sizes", "side"]
theorem sc_laid : FnScope ["box", "weights", "sizes", "side", "rows", "row", "slabs", "other_side", "found", "slab", "begin", "end"] ps_laid (defScope s_laid) := ⟨rfl, rfl, rfl, by decide +kernel, rfl, by decide +kernel, by decide +kernel⟩
abbrev s_row_ends : Stmt := top 37
abbrev ps_row_ends : List Str := ["sizes"]
theorem sc_row_ends : FnScope ["sizes", "found", "begin", "size"] ps_row_ends (defScope s_row_ends) := ⟨rfl, rfl, rfl, by decide +kernel, rfl, by decide +kernel, by decide +kernel⟩
abbrev s_row_shapes : Stmt := top 38
abbrev ps_row_shapes : List Str := ["box", "weights", "side"]
theorem sc_row_shapes : FnScope ["box", "weights", "side", "many", "found", "begin", "end"] ps_row_shapes (defScope s_row_shapes) := ⟨rfl, rfl, rfl, by decide +kernel, rfl, by decide +kernel, by decide +kernel⟩
abbrev s_check_sizes : Stmt := top 39
abbrev ps_check_sizes : List Str := ["thing", "many"]
theorem sc_check_sizes : FnScope ["thing", "many", "size"] ps_check_sizes (defScope s_check_sizes) := ⟨rfl, rfl, rfl, by decide +kernel, rfl, by decide +kernel, by decide +kernel⟩
abbrev s_check_bound : Stmt := top 40
abbrev ps_check_bound : List Str := ["thing"]
theorem sc_check_bound : FnScope ["thing"] ps_check_bound (defScope s_check_bound) := ⟨rfl, rfl, rfl, by decide +kernel, rfl, by decide +kernel, by decide +kernel⟩
abbrev s__shape_between : Stmt := top 41
abbrev ps__shape_between : List Str := ["box", "weights", "begin", "end", "side"]
theorem sc__shape_between : FnScope ["box", "weights", "begin", "end", "side", "row", "along", "by_weight", "longest", "shortest"] ps__shape_between (defScope s__shape_between) := ⟨rfl, rfl, rfl, by decide +kernel, rfl, by decide +kernel, by decide +kernel⟩
abbrev s_best : Stmt := top 43
abbrev ps_best : List Str := ["box", "weights", "side"]
theorem sc_best : FnScope ["box", "weights", "side", "shapes", "least_behind", "sizes", "begin", "size"] ps_best (defScope s_best) := ⟨rfl, rfl, rfl, by decide +kernel, rfl, by decide +kernel, by decide +kernel⟩
abbrev s_least : Stmt := top 44
abbrev ps_least : List Str := ["box", "weights", "side"]
theorem sc_least : FnScope ["box", "weights", "side"] ps_least (defScope s_least) := ⟨rfl, rfl, rfl, by decide +kernel, rfl, by decide +kernel, by decide +kernel⟩
abbrev s_greedy : Stmt := top 45
abbrev ps_greedy : List Str := ["box", "weights", "side"]
theorem sc_greedy : FnScope ["box", "weights", "side", "shapes", "sizes", "begin", "end"] ps_greedy (defScope s_greedy) := ⟨rfl, rfl, rfl, by decide +kernel, rfl, by decide +kernel, by decide +kernel⟩
abbrev s_beginnings : Stmt := top 46
abbrev ps_beginnings : List Str := ["box", "weights", "bound", "side"]
theorem sc_beginnings : FnScope ["box", "weights", "bound", "side", "shapes", "found", "end", "begin"] ps_beginnings (defScope s_beginnings) := ⟨rfl, rfl, rfl, by decide +kernel, rfl, by decide +kernel, by decide +kernel⟩
abbrev s__least_behind : Stmt := top 47
abbrev ps__least_behind : List Str := ["shapes", "many"]
theorem sc__least_behind : FnScope ["shapes", "many", "found", "begin", "end"] ps__least_behind (defScope s__least_behind) := ⟨rfl, rfl, rfl, by decide +kernel, rfl, by decide +kernel, by decide +kernel⟩
abbrev s_calm : Stmt := top 49
abbrev ps_calm : List Str := ["box", "weights", "bound", "kept", "side"]
theorem sc_calm : FnScope ["box", "weights", "bound", "kept", "side", "many", "costs", "behind", "sizes", "begin", "end"] ps_calm (defScope s_calm) := ⟨rfl, rfl, rfl, by decide +kernel, rfl, by decide +kernel, by decide +kernel⟩
abbrev s__check_calm : Stmt := top 50
abbrev ps__check_calm : List Str := ["box", "weights", "bound", "kept", "side"]
theorem sc__check_calm : FnScope ["box", "weights", "bound", "kept", "side", "pair"] ps__check_calm (defScope s__check_calm) := ⟨rfl, rfl, rfl, by decide +kernel, rfl, by decide +kernel, by decide +kernel⟩
abbrev s__is_row : Stmt := top 51
abbrev ps__is_row : List Str := ["thing", "many"]
theorem sc__is_row : FnScope ["thing", "many", "first", "size", "number"] ps__is_row (defScope s__is_row) := ⟨rfl, rfl, rfl, by decide +kernel, rfl, by decide +kernel, by decide +kernel⟩
abbrev s__row_cost : Stmt := top 52
abbrev ps__row_cost : List Str := ["begin", "end", "kept"]
theorem sc__row_cost : FnScope ["begin", "end", "kept"] ps__row_cost (defScope s__row_cost) := ⟨rfl, rfl, rfl, by decide +kernel, rfl, by decide +kernel, by decide +kernel⟩
abbrev s__row_costs : Stmt := top 53
abbrev ps__row_costs : List Str := ["box", "weights", "bound", "kept", "side"]
theorem sc__row_costs : FnScope ["box", "weights", "bound", "kept", "side", "found", "begin", "end", "shape"] ps__row_costs (defScope s__row_costs) := ⟨rfl, rfl, rfl, by decide +kernel, rfl, by decide +kernel, by decide +kernel⟩
abbrev s__costs_behind : Stmt := top 54
abbrev ps__costs_behind : List Str := ["costs", "many"]
theorem sc__costs_behind : FnScope ["costs", "many", "found", "begin", "leading", "end"] ps__costs_behind (defScope s__costs_behind) := ⟨rfl, rfl, rfl, by decide +kernel, rfl, by decide +kernel, by decide +kernel⟩
abbrev s__is_as_cheap : Stmt := top 55
abbrev ps__is_as_cheap : List Str := ["costs", "behind", "begin", "end"]
theorem sc__is_as_cheap : FnScope ["costs", "behind", "begin", "end"] ps__is_as_cheap (defScope s__is_as_cheap) := ⟨rfl, rfl, rfl, by decide +kernel, rfl, by decide +kernel, by decide +kernel⟩
abbrev s__law_bag : Stmt := top 57
abbrev ps__law_bag : List Str := ["_law_script"]
theorem sc__law_bag : FnScope ["_law_script"] ps__law_bag (defScope s__law_bag) := ⟨rfl, rfl, rfl, by decide +kernel, rfl, by decide +kernel, by decide +kernel⟩
abbrev s__law_get : Stmt := top 58
abbrev ps__law_get : List Str := ["_law_bag_here", "_law_most"]
theorem sc__law_get : FnScope ["_law_bag_here", "_law_most", "_law_cell", "_law_got", "_law_before"] ps__law_get (defScope s__law_get) := ⟨rfl, rfl, rfl, by decide +kernel, rfl, by decide +kernel, by decide +kernel⟩
abbrev s__law_far : Stmt := top 59
abbrev ps__law_far : List Str := ["_law_bag_here", "_law_steps"]
theorem sc__law_far : FnScope ["_law_bag_here", "_law_steps", "_law_found", "_law_step"] ps__law_far (defScope s__law_far) := ⟨rfl, rfl, rfl, by decide +kernel, rfl, by decide +kernel, by decide +kernel⟩
abbrev s__law_gcd : Stmt := top 60
abbrev ps__law_gcd : List Str := ["_law_one", "_law_other"]
theorem sc__law_gcd : FnScope ["_law_one", "_law_other"] ps__law_gcd (defScope s__law_gcd) := ⟨rfl, rfl, rfl, by decide +kernel, rfl, by decide +kernel, by decide +kernel⟩
abbrev s__law_part : Stmt := top 61
abbrev ps__law_part : List Str := ["_law_above_here", "_law_below"]
theorem sc__law_part : FnScope ["_law_above_here", "_law_below", "_law_by"] ps__law_part (defScope s__law_part) := ⟨rfl, rfl, rfl, by decide +kernel, rfl, by decide +kernel, by decide +kernel⟩
abbrev s__law_plus : Stmt := top 62
abbrev ps__law_plus : List Str := ["_law_one", "_law_other"]
theorem sc__law_plus : FnScope ["_law_one", "_law_other"] ps__law_plus (defScope s__law_plus) := ⟨rfl, rfl, rfl, by decide +kernel, rfl, by decide +kernel, by decide +kernel⟩
abbrev s__law_times : Stmt := top 63
abbrev ps__law_times : List Str := ["_law_one", "_law_other"]
theorem sc__law_times : FnScope ["_law_one", "_law_other"] ps__law_times (defScope s__law_times) := ⟨rfl, rfl, rfl, by decide +kernel, rfl, by decide +kernel, by decide +kernel⟩
abbrev s__law_number : Stmt := top 64
abbrev ps__law_number : List Str := ["_law_bag_here"]
theorem sc__law_number : FnScope ["_law_bag_here", "_law_kind"] ps__law_number (defScope s__law_number) := ⟨rfl, rfl, rfl, by decide +kernel, rfl, by decide +kernel, by decide +kernel⟩
abbrev s__law_some_part : Stmt := top 65
abbrev ps__law_some_part : List Str := ["_law_bag_here"]
theorem sc__law_some_part : FnScope ["_law_bag_here", "_law_below"] ps__law_some_part (defScope s__law_some_part) := ⟨rfl, rfl, rfl, by decide +kernel, rfl, by decide +kernel, by decide +kernel⟩
abbrev s__law_above : Stmt := top 66
abbrev ps__law_above : List Str := ["_law_bag_here"]
theorem sc__law_above : FnScope ["_law_bag_here", "_law_one"] ps__law_above (defScope s__law_above) := ⟨rfl, rfl, rfl, by decide +kernel, rfl, by decide +kernel, by decide +kernel⟩
abbrev s__law_small_box : Stmt := top 67
abbrev ps__law_small_box : List Str := ["_law_bag_here"]
theorem sc__law_small_box : FnScope ["_law_bag_here", "_law_x", "_law_y"] ps__law_small_box (defScope s__law_small_box) := ⟨rfl, rfl, rfl, by decide +kernel, rfl, by decide +kernel, by decide +kernel⟩
abbrev s__law_box : Stmt := top 68
abbrev ps__law_box : List Str := ["_law_bag_here"]
theorem sc__law_box : FnScope ["_law_bag_here"] ps__law_box (defScope s__law_box) := ⟨rfl, rfl, rfl, by decide +kernel, rfl, by decide +kernel, by decide +kernel⟩
abbrev s__law_weight : Stmt := top 69
abbrev ps__law_weight : List Str := ["_law_bag_here", "_law_kind"]
theorem sc__law_weight : FnScope ["_law_bag_here", "_law_kind"] ps__law_weight (defScope s__law_weight) := ⟨rfl, rfl, rfl, by decide +kernel, rfl, by decide +kernel, by decide +kernel⟩
abbrev s__law_weights : Stmt := top 70
abbrev ps__law_weights : List Str := ["_law_bag_here", "_law_most"]
theorem sc__law_weights : FnScope ["_law_bag_here", "_law_most", "_law_many", "_law_kind", "_law_k"] ps__law_weights (defScope s__law_weights) := ⟨rfl, rfl, rfl, by decide +kernel, rfl, by decide +kernel, by decide +kernel⟩
abbrev s__law_sizes : Stmt := top 71
abbrev ps__law_sizes : List Str := ["_law_bag_here", "_law_many"]
theorem sc__law_sizes : FnScope ["_law_bag_here", "_law_many", "_law_found", "_law_left", "_law_kind", "_law_size"] ps__law_sizes (defScope s__law_sizes) := ⟨rfl, rfl, rfl, by decide +kernel, rfl, by decide +kernel, by decide +kernel⟩
abbrev s__law_lean : Stmt := top 72
abbrev ps__law_lean : List Str := ["_law_bag_here"]
theorem sc__law_lean : FnScope ["_law_bag_here"] ps__law_lean (defScope s__law_lean) := ⟨rfl, rfl, rfl, by decide +kernel, rfl, by decide +kernel, by decide +kernel⟩
abbrev s__law_bound : Stmt := top 73
abbrev ps__law_bound : List Str := ["_law_bag_here"]
theorem sc__law_bound : FnScope ["_law_bag_here", "_law_kind", "_law_below"] ps__law_bound (defScope s__law_bound) := ⟨rfl, rfl, rfl, by decide +kernel, rfl, by decide +kernel, by decide +kernel⟩
abbrev s__law_turned_lean : Stmt := top 74
abbrev ps__law_turned_lean : List Str := ["_law_lean_here"]
theorem sc__law_turned_lean : FnScope ["_law_lean_here"] ps__law_turned_lean (defScope s__law_turned_lean) := ⟨rfl, rfl, rfl, by decide +kernel, rfl, by decide +kernel, by decide +kernel⟩
abbrev s__law_spots : Stmt := top 75
abbrev ps__law_spots : List Str := ["_law_sizes_here"]
theorem sc__law_spots : FnScope ["_law_sizes_here", "_law_found", "_law_first", "_law_size"] ps__law_spots (defScope s__law_spots) := ⟨rfl, rfl, rfl, by decide +kernel, rfl, by decide +kernel, by decide +kernel⟩
abbrev s__law_kept : Stmt := top 76
abbrev ps__law_kept : List Str := ["_law_bag_here", "_law_many"]
theorem sc__law_kept : FnScope ["_law_bag_here", "_law_many", "_law_spots_here", "_law_one", "_law_found", "_law_k", "_law_first"] ps__law_kept (defScope s__law_kept) := ⟨rfl, rfl, rfl, by decide +kernel, rfl, by decide +kernel, by decide +kernel⟩
abbrev s__law_about : Stmt := top 77
abbrev ps__law_about : List Str := ["_law_box_here"]
theorem sc__law_about : FnScope ["_law_box_here"] ps__law_about (defScope s__law_about) := ⟨rfl, rfl, rfl, by decide +kernel, rfl, by decide +kernel, by decide +kernel⟩
abbrev s__law_all : Stmt := top 78
abbrev ps__law_all : List Str := ["_law_box_here", "_law_weights_here", "_law_lean_here", "_law_bound_now", "_law_kept_here"]
theorem sc__law_all : FnScope ["_law_box_here", "_law_weights_here", "_law_lean_here", "_law_bound_now", "_law_kept_here", "_law_found"] ps__law_all (defScope s__law_all) := ⟨rfl, rfl, rfl, by decide +kernel, rfl, by decide +kernel, by decide +kernel⟩
abbrev s_law : Stmt := top 79
abbrev ps_law : List Str := ["_law_script"]
theorem sc_law : FnScope ["_law_script", "_law_bag_here", "_law_turn", "_law_box_here", "_law_weights_here", "_law_lean_here", "_law_sizes_here", "_law_bound_now", "_law_kept_here", "_law_due", "_law_boxes_now", "_law_other", "_law_by", "_law_shift", "_law_great", "_law_times_now", "_law_one"] ps_law (defScope s_law) := ⟨rfl, rfl, rfl, by decide +kernel, rfl, by decide +kernel, by decide +kernel⟩
/-- all that the top has left -/
structure Tops (K : PySem.W.Frag) (mg : Str → Option Value) : Prop where
  d_is_number : DefAt K mg "is_number" s_is_number ps_is_number
  d_is_part : DefAt K mg "is_part" s_is_part ps_is_part
  d_part : DefAt K mg "part" s_part ps_part
  d_plus : DefAt K mg "plus" s_plus ps_plus
  d_times : DefAt K mg "times" s_times ps_times
  d_over : DefAt K mg "over" s_over ps_over
  d_less : DefAt K mg "less" s_less ps_less
  d_lesser : DefAt K mg "lesser" s_lesser ps_lesser
  d_greater : DefAt K mg "greater" s_greater ps_greater
  d_least_of : DefAt K mg "least_of" s_least_of ps_least_of
  d_is_box : DefAt K mg "is_box" s_is_box ps_is_box
  d_shares : DefAt K mg "shares" s_shares ps_shares
  d_check_box : DefAt K mg "check_box" s_check_box ps_check_box
  d_check_weights : DefAt K mg "check_weights" s_check_weights ps_check_weights
  d_is_side : DefAt K mg "is_side" s_is_side ps_is_side
  d_check_side : DefAt K mg "check_side" s_check_side ps_check_side
  d_check_split : DefAt K mg "check_split" s_check_split ps_check_split
  d_slab : DefAt K mg "_slab" s__slab ps__slab
  d_laid : DefAtS K mg "laid" s_laid ps_laid 3 (.str "down")
  d_row_ends : DefAt K mg "row_ends" s_row_ends ps_row_ends
  d_row_shapes : DefAt K mg "row_shapes" s_row_shapes ps_row_shapes
  d_check_sizes : DefAt K mg "check_sizes" s_check_sizes ps_check_sizes
  d_check_bound : DefAt K mg "check_bound" s_check_bound ps_check_bound
  d_shape_between : DefAt K mg "_shape_between" s__shape_between ps__shape_between
  d_best : DefAtS K mg "best" s_best ps_best 2 (.str "down")
  d_least : DefAtS K mg "least" s_least ps_least 2 (.str "down")
  d_greedy : DefAtS K mg "greedy" s_greedy ps_greedy 2 (.str "down")
  d_beginnings : DefAtS K mg "beginnings" s_beginnings ps_beginnings 3 (.str "down")
  d_least_behind : DefAt K mg "_least_behind" s__least_behind ps__least_behind
  d_calm : DefAtS K mg "calm" s_calm ps_calm 4 (.str "down")
  d_check_calm : DefAt K mg "_check_calm" s__check_calm ps__check_calm
  d_is_row : DefAt K mg "_is_row" s__is_row ps__is_row
  d_row_cost : DefAt K mg "_row_cost" s__row_cost ps__row_cost
  d_row_costs : DefAt K mg "_row_costs" s__row_costs ps__row_costs
  d_costs_behind : DefAt K mg "_costs_behind" s__costs_behind ps__costs_behind
  d_is_as_cheap : DefAt K mg "_is_as_cheap" s__is_as_cheap ps__is_as_cheap
  d_law_bag : DefAt K mg "_law_bag" s__law_bag ps__law_bag
  d_law_get : DefAt K mg "_law_get" s__law_get ps__law_get
  d_law_far : DefAt K mg "_law_far" s__law_far ps__law_far
  d_law_gcd : DefAt K mg "_law_gcd" s__law_gcd ps__law_gcd
  d_law_part : DefAt K mg "_law_part" s__law_part ps__law_part
  d_law_plus : DefAt K mg "_law_plus" s__law_plus ps__law_plus
  d_law_times : DefAt K mg "_law_times" s__law_times ps__law_times
  d_law_number : DefAt K mg "_law_number" s__law_number ps__law_number
  d_law_some_part : DefAt K mg "_law_some_part" s__law_some_part ps__law_some_part
  d_law_above : DefAt K mg "_law_above" s__law_above ps__law_above
  d_law_small_box : DefAt K mg "_law_small_box" s__law_small_box ps__law_small_box
  d_law_box : DefAt K mg "_law_box" s__law_box ps__law_box
  d_law_weight : DefAt K mg "_law_weight" s__law_weight ps__law_weight
  d_law_weights : DefAt K mg "_law_weights" s__law_weights ps__law_weights
  d_law_sizes : DefAt K mg "_law_sizes" s__law_sizes ps__law_sizes
  d_law_lean : DefAt K mg "_law_lean" s__law_lean ps__law_lean
  d_law_bound : DefAt K mg "_law_bound" s__law_bound ps__law_bound
  d_law_turned_lean : DefAt K mg "_law_turned_lean" s__law_turned_lean ps__law_turned_lean
  d_law_spots : DefAt K mg "_law_spots" s__law_spots ps__law_spots
  d_law_kept : DefAt K mg "_law_kept" s__law_kept ps__law_kept
  d_law_about : DefAt K mg "_law_about" s__law_about ps__law_about
  d_law_all : DefAt K mg "_law_all" s__law_all ps__law_all
  m_abs : mg "abs" = none
  m_all : mg "all" = none
  m_any : mg "any" = none
  m_bool : mg "bool" = none
  m_int : mg "int" = none
  m_isinstance : mg "isinstance" = none
  m_len : mg "len" = none
  m_list : mg "list" = none
  m_max : mg "max" = none
  m_min : mg "min" = none
  m_range : mg "range" = none
  m_reversed : mg "reversed" = none
  m_str : mg "str" = none
  m_sum : mg "sum" = none
  m_tuple : mg "tuple" = none
  m_zip : mg "zip" = none
  m_ACROSS : ∃ t, mg "ACROSS" = some (.str "across" t)
  m_DOWN : ∃ t, mg "DOWN" = some (.str "down" t)
  m_MOST_CHILDREN : ∃ t, mg "MOST_CHILDREN" = some (.int 12 t)
  m_MOST_WEIGHT : ∃ t, mg "MOST_WEIGHT" = some (.int 400000 t)
  m_NOUGHT : NoughtAt K mg
  m_ONE : OneAt K mg
  m_gcd : mg "gcd" = some (.builtin "math.gcd")
section
variable {P : Program} {w : World} {K : PySem.W.Frag} {mg : Str → Option Value} {base : Heap}
theorem ok_is_number (T : Tops K mg)  : DefOk P w K mg base 1 "is_number" ps_is_number spIsNum := by
  refine T.d_is_number.ok sc_is_number (fun vs H Q E h => ?_) (fun f cdv A outer s H vs Q E hr h => ?_)
  · unfold spIsNum at h
    obtain ⟨_, rfl, _⟩ := h
    rfl
  · unfold spIsNum at h
    obtain ⟨i, rfl, q⟩ := h
    refine ⟨_, (pss_one (ps_ret (pe_and (pe_callB call_isiI (by rfl) T.m_isinstance (by decide +kernel) (pa_cons (pv 0) (pa_cons (pe_bltn (v := V.ty "int") (u := Value.type "int") (by rfl) T.m_int (by decide +kernel) rfl) pa_nil))) (pe_one (pe_not (pe_callB call_isiI (by rfl) T.m_isinstance (by decide +kernel) (pa_cons (pv 0) (pa_cons (pe_bltn (v := V.ty "bool") (u := Value.type "bool") (by rfl) T.m_bool (by decide +kernel) rfl) pa_nil)))))))), ?_⟩
    have hi : Dp K H (.int i) (.int i) := .int i
    refine ⟨_, rfl, isi_step "int" "int" true hi rfl (by decide +kernel) ⟨true, rfl, ?_⟩⟩
    refine ⟨_, rfl, isi_step "int" "bool" false hi rfl (by decide +kernel) ⟨false, rfl, q _ rfl⟩⟩
theorem ok_is_part (T : Tops K mg) (D_is_number : DefOk P w K mg base 1 "is_number" ps_is_number spIsNum) : DefOk P w K mg base 2 "is_part" ps_is_part (spIsPart K) := by
  refine T.d_is_part.ok sc_is_part (fun vs H Q E h => ?_) (fun f cdv A outer s H vs Q E hr h => ?_)
  · unfold spIsPart at h
    obtain ⟨_, _, rfl, _⟩ := h
    rfl
  · unfold spIsPart at h
    obtain ⟨v, x, rfl, ⟨a, rfl, ha⟩, q⟩ := h
    refine ⟨_, (pss_cons (ps_if (PW.pt (pw_or (pt_not (pt_val (pe_callB call_isiI (by rfl) T.m_isinstance (by decide +kernel) (pa_cons (pv 0) (pa_cons (pe_bltn (v := V.ty "tuple") (u := Value.type "tuple") (by rfl) T.m_tuple (by decide +kernel) rfl) pa_nil))))) (pw_or1 (pt_cmpR op_ne (pe_callB call_len_seq (by rfl) T.m_len PySem.boot_len (pa_cons (pv 0) pa_nil)) pe_int (nomark _))))) (pss_one (ps_ret pe_bl)) pss_nil) (pss_cons (ps_asg (pv 0) (pg_tup rfl (pgs_cons (pg_name (i := 1) sc_is_part.nd rfl (.inl rfl)) (pgs_cons (pg_name (i := 2) sc_is_part.nd rfl (.inl rfl)) pgs_nil)))) (pss_one (ps_ret (pe_and (pe_callD D_is_number hr (by decide) (by rfl) (pa_cons (pv 1) pa_nil)) (pe_and (pe_callD D_is_number hr (by decide) (by rfl) (pa_cons (pv 2) pa_nil)) (pe_and (pe_cmpR op_gt (pv 2) pe_int (nomark _)) (pe_one (pe_cmpR op_eq (pe_callBfun cr_gcd (by rfl) T.m_gcd (pa_cons (pv 1) (pa_cons (pv 2) pa_nil))) pe_int (nomark _)))))))))), ?_⟩
    have hd : Dp K H (.ref a) (dPart x) := PtV.dp ⟨a, rfl, ha⟩
    refine ⟨_, rfl, isi_step "tuple" "tuple" true hd rfl (by decide +kernel) ⟨_, rfl, ?_⟩⟩
    refine ⟨_, rfl, a, _, rfl, .inr ha, rfl, _, rfl, ?_⟩
    refine ⟨_, rfl, a, _, rfl, ha, rfl, _, _, rfl, _, _, rfl, rfl, ?_⟩
    refine ⟨_, rfl, isnum_step ⟨true, rfl, ?_⟩⟩
    refine ⟨_, rfl, isnum_step ⟨true, rfl, ?_⟩⟩
    refine ⟨_, rfl, _, _, rfl, rfl, true, congrArg V.bl (decide_eq_true (den_pos x)), ?_⟩
    refine ⟨_, rfl, _, rfl, _, _, rfl, rfl, ?_⟩
    refine q _ (congrArg V.bl (decide_eq_true (congrArg V.int ?_)))
    have e := x.reduced
    show ((Nat.gcd x.num.natAbs ((x.den : Int)).natAbs : Nat) : Int) = 1
    rw [Int.natAbs_natCast]
    exact congrArg Int.ofNat e
theorem ok_part (T : Tops K mg)  : DefOk P w K mg base 1 "part" ps_part (spPart K) := by
  refine T.d_part.ok sc_part (fun vs H Q E h => ?_) (fun f cdv A outer s H vs Q E hr h => ?_)
  · obtain ⟨a, c, rfl, _⟩ := h
    rfl
  · obtain ⟨a, c, rfl, hc0, ha, hc, q⟩ := h
    refine ⟨_, (pss_cons (ps_if (pt_cmpR op_eq (pv 1) pe_int (nomark _)) (pss_one ps_never) pss_nil) (pss_cons (ps_set (i := 2) sc_part.nd rfl (.inl rfl) (pe_callBfun cr_gcd (by rfl) T.m_gcd (pa_cons (pv 0) (pa_cons (pv 1) pa_nil)))) (pss_cons (ps_if (pt_cmpR op_lt (pv 1) pe_int (nomark _)) (pss_one (ps_set (i := 2) sc_part.nd rfl (.inl rfl) (pe_un un_neg (pv 2)))) pss_nil) (pss_one (ps_ret (pe_tup (pa_cons (pe_op op_fdivA (pv 0) (pv 2)) (pa_cons (pe_op op_fdivA (pv 1) (pv 2)) pa_nil)))))))), ?_⟩
    have g0 : (0 : Int) < ((Int.gcd a c : Nat) : Int) := by
      have := Int.gcd_pos_of_ne_zero_right a hc0
      omega
    have g1 : Int.gcd a c ≤ c.natAbs := Int.gcd_le_natAbs_right a hc0
    have gw1 : CDivA a ((Int.gcd a c : Nat) : Int) := ⟨by omega, Nat.lt_of_le_of_lt (show _ ≤ c.natAbs by omega) (pow_mono_lt hc (by decide))⟩
    have gw2 : CDivA a (-((Int.gcd a c : Nat) : Int)) := ⟨by omega, Nat.lt_of_le_of_lt (show _ ≤ c.natAbs by omega) (pow_mono_lt hc (by decide))⟩
    refine ⟨_, rfl, rfl, _, rfl, ?_⟩
    refine iteD (fun hd => absurd (V.int.inj hd) hc0) (fun _ => ?_)
    refine ⟨_, rfl, _, rfl, a, c, rfl, ?_⟩
    repeat (walk_at "rd")
    refine iteD (fun hd => ?_) (fun hd => ?_)
    · refine ⟨_, rfl, _, rfl, _, rfl, _, rfl, _, _, rfl, rfl, gw2, _, rfl, _, rfl, _, _, rfl, rfl, gw2, (show 2 ≤ sizeLine by decide), fun p np => ?_⟩
      obtain ⟨e1, e2⟩ := divInt_num_neg (a := a) hd
      exact q _ _ (same_new np) (PtV.new e1 e2)
    · refine ⟨_, rfl, _, rfl, _, _, rfl, rfl, gw1, _, rfl, _, rfl, _, _, rfl, rfl, gw1, (show 2 ≤ sizeLine by decide), fun p np => ?_⟩
      obtain ⟨e1, e2⟩ := divInt_num_eq (a := a) (show 0 < c by omega)
      refine q _ _ (same_new np) (PtV.new ?_ ?_)
      · exact e1.trans (Int.fdiv_eq_ediv_of_nonneg a (by exact Int.le_of_lt g0)).symm
      · exact e2.trans (Int.fdiv_eq_ediv_of_nonneg c (by exact Int.le_of_lt g0)).symm
theorem ok_plus (T : Tops K mg) (D_part : DefOk P w K mg base 1 "part" ps_part (spPart K)) : DefOk P w K mg base 2 "plus" ps_plus (spTwo K (fun _ _ => True) fun x y => x + y) := by
  refine T.d_plus.ok sc_plus (fun vs H Q E h => ?_) (fun f cdv A outer s H vs Q E hr h => ?_)
  · unfold spTwo at h
    obtain ⟨_, _, _, _, rfl, _⟩ := h
    rfl
  · unfold spTwo at h
    obtain ⟨v, u, x, y, rfl, ⟨a, rfl, ha⟩, ⟨b, rfl, hb⟩, sx, sy, _, q⟩ := h
    refine ⟨_, (pss_one (ps_ret (pe_callD D_part hr (by decide) (by rfl) (pa_cons (pe_op op_add (pe_op op_mulA (pe_ix ix_tup (pv 0) pe_int (fun _ _ => rfl)) (pe_ix ix_tup (pv 1) pe_int (fun _ _ => rfl))) (pe_op op_mulA (pe_ix ix_tup (pv 1) pe_int (fun _ _ => rfl)) (pe_ix ix_tup (pv 0) pe_int (fun _ _ => rfl)))) (pa_cons (pe_op op_mulA (pe_ix ix_tup (pv 0) pe_int (fun _ _ => rfl)) (pe_ix ix_tup (pv 1) pe_int (fun _ _ => rfl))) pa_nil))))), ?_⟩
    obtain ⟨x1, x2⟩ := sz_abs sx
    obtain ⟨y1, y2⟩ := sz_abs sy
    repeat (walk_at "rd")
    refine ⟨_, _, rfl, Int.ne_of_gt (Int.mul_pos (den_pos x) (den_pos y)), pow_mono_lt (natAbs_add_lt (natAbs_mul_lt x1 y2) (natAbs_mul_lt y1 x2)) (by decide), pow_mono_lt (natAbs_mul_lt x2 y2) (by decide), fun v H' s hv => q v H' s ?_⟩
    rw [dv_add] at hv
    exact hv
theorem ok_times (T : Tops K mg) (D_part : DefOk P w K mg base 1 "part" ps_part (spPart K)) : DefOk P w K mg base 2 "times" ps_times (spTwo K (fun _ _ => True) fun x y => x * y) := by
  refine T.d_times.ok sc_times (fun vs H Q E h => ?_) (fun f cdv A outer s H vs Q E hr h => ?_)
  · unfold spTwo at h
    obtain ⟨_, _, _, _, rfl, _⟩ := h
    rfl
  · unfold spTwo at h
    obtain ⟨v, u, x, y, rfl, ⟨a, rfl, ha⟩, ⟨b, rfl, hb⟩, sx, sy, _, q⟩ := h
    refine ⟨_, (pss_one (ps_ret (pe_callD D_part hr (by decide) (by rfl) (pa_cons (pe_op op_mulA (pe_ix ix_tup (pv 0) pe_int (fun _ _ => rfl)) (pe_ix ix_tup (pv 1) pe_int (fun _ _ => rfl))) (pa_cons (pe_op op_mulA (pe_ix ix_tup (pv 0) pe_int (fun _ _ => rfl)) (pe_ix ix_tup (pv 1) pe_int (fun _ _ => rfl))) pa_nil))))), ?_⟩
    obtain ⟨x1, x2⟩ := sz_abs sx
    obtain ⟨y1, y2⟩ := sz_abs sy
    repeat (walk_at "rd")
    refine ⟨_, _, rfl, Int.ne_of_gt (Int.mul_pos (den_pos x) (den_pos y)), pow_mono_lt (natAbs_mul_lt x1 y1) (by decide), pow_mono_lt (natAbs_mul_lt x2 y2) (by decide), fun v H' s hv => q v H' s ?_⟩
    rw [dv_mul] at hv
    exact hv
theorem ok_over (T : Tops K mg) (D_part : DefOk P w K mg base 1 "part" ps_part (spPart K)) : DefOk P w K mg base 2 "over" ps_over (spTwo K (fun _ y => y ≠ 0) fun x y => x / y) := by
  refine T.d_over.ok sc_over (fun vs H Q E h => ?_) (fun f cdv A outer s H vs Q E hr h => ?_)
  · unfold spTwo at h
    obtain ⟨_, _, _, _, rfl, _⟩ := h
    rfl
  · unfold spTwo at h
    obtain ⟨v, u, x, y, rfl, ⟨a, rfl, ha⟩, ⟨b, rfl, hb⟩, sx, sy, hy, q⟩ := h
    refine ⟨_, (pss_one (ps_ret (pe_callD D_part hr (by decide) (by rfl) (pa_cons (pe_op op_mulA (pe_ix ix_tup (pv 0) pe_int (fun _ _ => rfl)) (pe_ix ix_tup (pv 1) pe_int (fun _ _ => rfl))) (pa_cons (pe_op op_mulA (pe_ix ix_tup (pv 0) pe_int (fun _ _ => rfl)) (pe_ix ix_tup (pv 1) pe_int (fun _ _ => rfl))) pa_nil))))), ?_⟩
    obtain ⟨x1, x2⟩ := sz_abs sx
    obtain ⟨y1, y2⟩ := sz_abs sy
    repeat (walk_at "rd")
    refine ⟨_, _, rfl, Int.mul_ne_zero (Int.ne_of_gt (den_pos x)) (fun z => hy ((num_zero_iff y).mp z)), pow_mono_lt (natAbs_mul_lt x1 y2) (by decide), pow_mono_lt (natAbs_mul_lt x2 y1) (by decide), fun v H' s hv => q v H' s ?_⟩
    rw [dv_div] at hv
    exact hv
theorem ok_less (T : Tops K mg)  : DefOk P w K mg base 1 "less" ps_less (spLess K) := by
  refine T.d_less.ok sc_less (fun vs H Q E h => ?_) (fun f cdv A outer s H vs Q E hr h => ?_)
  · unfold spLess at h
    obtain ⟨_, _, _, _, rfl, _⟩ := h
    rfl
  · unfold spLess at h
    obtain ⟨v, u, x, y, rfl, ⟨a, rfl, ha⟩, ⟨b, rfl, hb⟩, sx, sy, q⟩ := h
    refine ⟨_, (pss_one (ps_ret (pe_cmpR op_lt (pe_op op_mulA (pe_ix ix_tup (pv 0) pe_int (fun _ _ => rfl)) (pe_ix ix_tup (pv 1) pe_int (fun _ _ => rfl))) (pe_op op_mulA (pe_ix ix_tup (pv 1) pe_int (fun _ _ => rfl)) (pe_ix ix_tup (pv 0) pe_int (fun _ _ => rfl))) (nomark _)))), ?_⟩
    obtain ⟨x1, x2⟩ := sz_abs sx
    obtain ⟨y1, y2⟩ := sz_abs sy
    repeat (walk_at "rd")
    have e : decide (x < y) = decide (x.num * y.den < y.num * x.den) := decide_eq_decide.mpr (Rat.lt_iff x y)
    refine q _ ?_
    rw [e]
theorem ok_lesser (T : Tops K mg) (D_less : DefOk P w K mg base 1 "less" ps_less (spLess K)) : DefOk P w K mg base 2 "lesser" ps_lesser (spTwo K (fun _ _ => True) fun x y => ls x y) := by
  refine T.d_lesser.ok sc_lesser (fun vs H Q E h => ?_) (fun f cdv A outer s H vs Q E hr h => ?_)
  · unfold spTwo at h
    obtain ⟨_, _, _, _, rfl, _⟩ := h
    rfl
  · unfold spTwo at h
    obtain ⟨v, u, x, y, rfl, hx, hy, sx, sy, _, q⟩ := h
    refine ⟨_, (pss_one (ps_ret (pe_ifExp (pt_val (pe_callD D_less hr (by decide) (by rfl) (pa_cons (pv 0) (pa_cons (pv 1) pa_nil)))) (pv 0) (pv 1)))), ?_⟩
    refine ⟨_, rfl, _, rfl, less_step hx hy sx sy (Nat.le_refl _) (Nat.le_refl _) ⟨_, rfl, ?_⟩⟩
    refine iteD (fun e => ?_) (fun e => ?_)
    · refine ⟨_, rfl, q _ H (Same.refl H) ?_⟩
      show PtV K H _ (ls x y)
      rw [show ls x y = x from if_pos e]
      exact hx
    · refine ⟨_, rfl, q _ H (Same.refl H) ?_⟩
      show PtV K H _ (ls x y)
      rw [show ls x y = y from if_neg e]
      exact hy
theorem ok_greater (T : Tops K mg) (D_less : DefOk P w K mg base 1 "less" ps_less (spLess K)) : DefOk P w K mg base 2 "greater" ps_greater (spTwo K (fun _ _ => True) fun x y => gr x y) := by
  refine T.d_greater.ok sc_greater (fun vs H Q E h => ?_) (fun f cdv A outer s H vs Q E hr h => ?_)
  · unfold spTwo at h
    obtain ⟨_, _, _, _, rfl, _⟩ := h
    rfl
  · unfold spTwo at h
    obtain ⟨v, u, x, y, rfl, hx, hy, sx, sy, _, q⟩ := h
    refine ⟨_, (pss_one (ps_ret (pe_ifExp (pt_val (pe_callD D_less hr (by decide) (by rfl) (pa_cons (pv 0) (pa_cons (pv 1) pa_nil)))) (pv 1) (pv 0)))), ?_⟩
    refine ⟨_, rfl, _, rfl, less_step hx hy sx sy (Nat.le_refl _) (Nat.le_refl _) ⟨_, rfl, ?_⟩⟩
    refine iteD (fun e => ?_) (fun e => ?_)
    · refine ⟨_, rfl, q _ H (Same.refl H) ?_⟩
      show PtV K H _ (gr x y)
      rw [show gr x y = y from if_pos e]
      exact hy
    · refine ⟨_, rfl, q _ H (Same.refl H) ?_⟩
      show PtV K H _ (gr x y)
      rw [show gr x y = x from if_neg e]
      exact hx
theorem ok_least_of (T : Tops K mg) (D_lesser : DefOk P w K mg base 2 "lesser" ps_lesser (spTwo K (fun _ _ => True) fun x y => ls x y)) : DefOk P w K mg base 3 "least_of" ps_least_of (spLeastOf K) := by
  refine T.d_least_of.ok sc_least_of (fun vs H Q E h => ?_) (fun f cdv A outer s H vs Q E hr h => ?_)
  · unfold spLeastOf at h
    obtain ⟨_, _, _, rfl, _⟩ := h
    rfl
  · unfold spLeastOf at h
    obtain ⟨L, us, qs, rfl, hL, hA, h0, hz, q⟩ := h
    refine ⟨_, (pss_cons (ps_set (i := 1) sc_least_of.nd rfl (.inl rfl) (pe_ix ix_list (pv 0) pe_int (fun _ _ => rfl))) (pss_cons (ps_for PassesOwn.never rfl (pi_list (pv 0)) (pg_name (i := 2) sc_least_of.nd rfl (.inl rfl)) (pss_one (ps_set (i := 1) sc_least_of.nd rfl (.inl rfl) (pe_callD D_lesser hr (by decide) (by rfl) (pa_cons (pv 1) (pa_cons (pv 2) pa_nil)))))) (pss_one (ps_ret (pv 1))))), ?_⟩
    have hla := hA.len
    obtain ⟨u0, hu0⟩ : ∃ u0, us[0]? = some u0 := by
      cases us with
      | nil =>
        cases hA
        exact absurd rfl h0
      | cons x r => exact ⟨x, rfl⟩
    have hp0 : PtV K H u0 (qs.headD 0) := by
      obtain ⟨x, h1, h2⟩ := hA.get hu0
      cases qs with
      | nil => exact absurd rfl h0
      | cons y r =>
        cases h1
        exact h2
    have hat : atI us 0 = some u0 := atI_nat (j := 0) hu0
    refine ⟨_, rfl, L, us, 0, u0, rfl, rfl, hL, hat, ?_⟩
    refine ⟨_, rfl, L, rfl, ⟨_, hL⟩, ?_⟩
    refine for_list (xs := us) (fun i σ H' => ∃ (v2 : Option V) (w : V), σ = [some (.ref L), some w, v2] ∧ Same H H' ∧ PtV K H' w ((qs.take i).foldl ls (qs.headD 0))) ⟨none, u0, rfl, Same.refl _, hp0⟩ (fun i σ H' _ ⟨_, _, _, z, _⟩ => seqL_same z hL) ?_ ?_
    · rintro i x σ H' hx ⟨v2, w, rfl, sH, hw⟩
      obtain ⟨y, h1, h2⟩ := hA.get hx
      have h2 := h2.same sH
      have zw := hz _ (least_take_mem (i := i) h0)
      have zy := hz _ (List.mem_of_getElem? h1)
      refine ⟨_, rfl, _, rfl, two_step hw h2 zw zy (Nat.le_refl _) (Nat.le_refl _) trivial fun u H2 s2 hu => ?_⟩
      refine ⟨_, u, rfl, sH.trans s2, ?_⟩
      rw [least_take h1]
      exact hu
    · rintro σ H' ⟨v2, w, rfl, sH, hw⟩
      rw [hla, List.take_length] at hw
      exact ⟨_, rfl, q w H' sH hw⟩
theorem ok_is_box (T : Tops K mg) (D_is_part : DefOk P w K mg base 2 "is_part" ps_is_part (spIsPart K)) (D_less : DefOk P w K mg base 1 "less" ps_less (spLess K)) : DefOk P w K mg base 3 "is_box" ps_is_box (spIsBox K) := by
  refine T.d_is_box.ok sc_is_box (fun vs H Q E h => ?_) (fun f cdv A outer s H vs Q E hr h => ?_)
  · unfold spIsBox at h
    obtain ⟨_, _, rfl, _⟩ := h
    rfl
  · unfold spIsBox at h
    obtain ⟨v, b, rfl, ⟨a, v1, v2, v3, v4, rfl, hB⟩, hO, q⟩ := h
    obtain ⟨na_NOUGHT, mg_NOUGHT, hN⟩ := T.m_NOUGHT
    refine ⟨_, (pss_cons (ps_if (PW.pt (pw_or (pt_not (pt_val (pe_callB call_isiI (by rfl) T.m_isinstance (by decide +kernel) (pa_cons (pv 0) (pa_cons (pe_bltn (v := V.ty "tuple") (u := Value.type "tuple") (by rfl) T.m_tuple (by decide +kernel) rfl) pa_nil))))) (pw_or1 (pt_cmpR op_ne (pe_callB call_len_seq (by rfl) T.m_len PySem.boot_len (pa_cons (pv 0) pa_nil)) pe_int (nomark _))))) (pss_one (ps_ret pe_bl)) pss_nil) (pss_cons (ps_if (pt_not (pt_val (pe_callB (cr_all rfl) (by rfl) T.m_all (by decide +kernel) (pa_cons (pe_lc (own := [("number", 1)]) (g := gName 1) (by rfl) sc_is_box.nd (pi_tup (pv 0)) (blkOk_by (own := [("number", 1)]) (N := ["thing", "number"]) (sc := defScope s_is_box) (by decide +kernel)) (fun _ _ _ _ _ => (pg_name (i := 1) sc_is_box.nd rfl (.inl rfl))) (fun _ _ _ _ _ => pts_nil) (fun _ _ _ _ _ => (pe_callD D_is_part hr (by decide) (by rfl) (pa_cons (pv 1) pa_nil)))) pa_nil)))) (pss_one (ps_ret pe_bl)) pss_nil) (pss_one (ps_ret (pe_and (pe_callD D_less hr (by decide) (by rfl) (pa_cons (pe_glob (v := V.ref na_NOUGHT) (by rfl) mg_NOUGHT rfl) (pa_cons (pe_ix ix_tup (pv 0) pe_int (fun _ _ => rfl)) pa_nil))) (pe_one (pe_callD D_less hr (by decide) (by rfl) (pa_cons (pe_glob (v := V.ref na_NOUGHT) (by rfl) mg_NOUGHT rfl) (pa_cons (pe_ix ix_tup (pv 0) pe_int (fun _ _ => rfl)) pa_nil))))))))), ?_⟩
    have ha := hB.1
    have hd : Dp K H (.ref a) (dBox b) := BxV.dp ⟨a, v1, v2, v3, v4, rfl, hB⟩
    refine ⟨_, rfl, isi_step "tuple" "tuple" true hd rfl (by decide +kernel) ⟨_, rfl, ?_⟩⟩
    refine ⟨_, rfl, a, _, rfl, .inr ha, rfl, _, rfl, ?_⟩
    -- all([is_part(number) for number in thing])
    refine ⟨_, rfl, a, rfl, ⟨_, ha⟩, fun D nD => ?_⟩
    refine lc_tup (xs := [v1, v2, v3, v4]) (fun i H' => Same H H' ∧ H' D = some (.lst ((List.replicate i true).map V.bl))) ⟨same_new nD, upd_same⟩ (fun i H' _ z => seqT_same z.1 ha) ?_ ?_
    · rintro i x H' hx ⟨sH, hD⟩
      have hp : ∃ q, PtV K H' x q := by
        have h := hB.same sH
        match i, hx with
        | 0, hx => cases hx; exact ⟨_, h.2.1⟩
        | 1, hx => cases hx; exact ⟨_, h.2.2.1⟩
        | 2, hx => cases hx; exact ⟨_, h.2.2.2.1⟩
        | 3, hx => cases hx; exact ⟨_, h.2.2.2.2⟩
      obtain ⟨q1, hq1⟩ := hp
      have hi : i < 4 := (List.getElem?_eq_some_iff.mp hx).1
      refine ⟨rfl, ⟨_, rfl, ispart_step hq1 ⟨_, hD, ?_, ?_, ?_⟩⟩⟩
      · rw [List.length_map, List.length_replicate]
        exact small1000 (by omega)
      · intro c o hc
        rw [upd_ne (ne_of_none hc nD)]
        exact sH _ _ hc
      · rw [upd_same, List.replicate_succ', List.map_append]
        rfl
    · rintro H' ⟨sH, hD⟩
      refine ⟨D, List.replicate 4 true, rfl, SqL.of hD, _, rfl, ?_⟩
      have hB' := hB.same sH
      have z0 : Sz 3900 (0 : Rat) := ⟨Nat.pow_pos (by decide), Nat.one_lt_two_pow (by decide)⟩
      refine ⟨_, rfl, a, _, _, _, rfl, rfl, hB'.1, rfl, less_step (hN H') hB'.2.2.2.1 z0 hO.sw (Nat.le_refl _) (Nat.le_refl _) ⟨true, congrArg V.bl (decide_eq_true hO.w0), ?_⟩⟩
      refine ⟨_, rfl, a, _, _, _, rfl, rfl, hB'.1, rfl, less_step (hN H') hB'.2.2.2.2 z0 hO.sh (Nat.le_refl _) (Nat.le_refl _) ?_⟩
      exact q _ _ sH (congrArg V.bl (decide_eq_true hO.h0))
theorem ok_slab (T : Tops K mg) (D_plus : DefOk P w K mg base 2 "plus" ps_plus (spTwo K (fun _ _ => True) fun x y => x + y)) (D_times : DefOk P w K mg base 2 "times" ps_times (spTwo K (fun _ _ => True) fun x y => x * y)) : DefOk P w K mg base 3 "_slab" ps__slab (spSlab K) := by
  refine T.d_slab.ok sc__slab (fun vs H Q E h => ?_) (fun f cdv A outer s H vs Q E hr h => ?_)
  · unfold spSlab at h
    obtain ⟨_, _, _, _, _, _, _, rfl, _⟩ := h
    rfl
  · unfold spSlab at h
    obtain ⟨v1, v2, v3, b, x, y, d, rfl, hV, hO, hx, hy, zx, zy, q⟩ := h
    obtain ⟨t_DOWN, mg_DOWN⟩ := T.m_DOWN
    refine ⟨_, (pss_cons (ps_asg (pv 0) (pg_tup rfl (pgs_cons (pg_name (i := 4) sc__slab.nd rfl (.inl rfl)) (pgs_cons (pg_name (i := 5) sc__slab.nd rfl (.inl rfl)) (pgs_cons (pg_name (i := 6) sc__slab.nd rfl (.inl rfl)) (pgs_cons (pg_name (i := 7) sc__slab.nd rfl (.inl rfl)) pgs_nil)))))) (pss_cons (ps_if (pt_cmpR op_eq (pv 3) (pe_glob (v := V.str "down") (by rfl) mg_DOWN ⟨_, rfl⟩) (nomark _)) (pss_one (ps_ret (pe_tup (pa_cons (pv 4) (pa_cons (pe_callD D_plus hr (by decide) (by rfl) (pa_cons (pv 5) (pa_cons (pe_callD D_times hr (by decide) (by rfl) (pa_cons (pv 7) (pa_cons (pv 1) pa_nil))) pa_nil))) (pa_cons (pv 6) (pa_cons (pe_callD D_times hr (by decide) (by rfl) (pa_cons (pv 7) (pa_cons (pv 2) pa_nil))) pa_nil))))))) pss_nil) (pss_one (ps_ret (pe_tup (pa_cons (pe_callD D_plus hr (by decide) (by rfl) (pa_cons (pv 4) (pa_cons (pe_callD D_times hr (by decide) (by rfl) (pa_cons (pv 6) (pa_cons (pv 1) pa_nil))) pa_nil))) (pa_cons (pv 5) (pa_cons (pe_callD D_times hr (by decide) (by rfl) (pa_cons (pv 6) (pa_cons (pv 2) pa_nil))) (pa_cons (pv 7) pa_nil))))))))), ?_⟩
    obtain ⟨a, u1, u2, u3, u4, rfl, hA⟩ := hV
    refine ⟨_, rfl, a, _, rfl, hA.1, rfl, _, _, rfl, _, _, rfl, _, _, rfl, _, _, rfl, rfl, ?_⟩
    refine ⟨_, rfl, rfl, _, rfl, ?_⟩
    rw [sd_eq]
    refine iteB (fun e => ?_) (fun e => ?_)
    · subst e
      refine ⟨_, rfl, _, rfl, _, rfl, _, rfl, two_step hA.2.2.2.2 hx hO.sh zx (by decide) (by decide) trivial fun w1 H1 s1 g1 => ?_⟩
      have hA1 := hA.same s1
      refine two_step hA1.2.2.1 g1 hO.st (sz_mul hO.sh zx (Nat.le_refl _)) (by decide) (by decide) trivial fun w2 H2 s2 g2 => ?_
      have hA2 := hA1.same s2
      refine ⟨_, rfl, _, rfl, _, rfl, two_step hA2.2.2.2.2 ((hy.same s1).same s2) hO.sh zy (by decide) (by decide) trivial fun w3 H3 s3 g3 => ?_⟩
      have hA3 := hA2.same s3
      refine ⟨(show 4 ≤ sizeLine by decide), fun p np => ?_⟩
      exact q _ _ (s1.trans (s2.trans (s3.trans (same_new np)))) (BxV.mk np hA3.2.1 (g2.same s3) hA3.2.2.2.1 g3)
    · subst e
      refine ⟨_, rfl, _, rfl, _, rfl, two_step hA.2.2.2.1 hx hO.sw zx (by decide) (by decide) trivial fun w1 H1 s1 g1 => ?_⟩
      have hA1 := hA.same s1
      refine two_step hA1.2.1 g1 hO.sl (sz_mul hO.sw zx (Nat.le_refl _)) (by decide) (by decide) trivial fun w2 H2 s2 g2 => ?_
      have hA2 := hA1.same s2
      refine ⟨_, rfl, _, rfl, _, rfl, two_step hA2.2.2.2.1 ((hy.same s1).same s2) hO.sw zy (by decide) (by decide) trivial fun w3 H3 s3 g3 => ?_⟩
      have hA3 := hA2.same s3
      refine ⟨_, rfl, (show 4 ≤ sizeLine by decide), fun p np => ?_⟩
      exact q _ _ (s1.trans (s2.trans (s3.trans (same_new np)))) (BxV.mk np (g2.same s3) hA3.2.2.1 g3 hA3.2.2.2.2)
theorem ok_shares (T : Tops K mg) (D_part : DefOk P w K mg base 1 "part" ps_part (spPart K)) (D_slab : DefOk P w K mg base 3 "_slab" ps__slab (spSlab K)) : DefOk P w K mg base 4 "shares" ps_shares (spShares K) := by
  refine T.d_shares.ok sc_shares (fun vs H Q E h => ?_) (fun f cdv A outer s H vs Q E hr h => ?_)
  · unfold spShares at h
    obtain ⟨_, _, _, _, _, rfl, _⟩ := h
    rfl
  · unfold spShares at h
    obtain ⟨v, a, b, ws, d, rfl, hV, hO, hI, hW, q⟩ := h
    refine ⟨_, (pss_cons (ps_set (i := 3) sc_shares.nd rfl (.inl rfl) (pe_callB (cr_sumA rfl) (by rfl) T.m_sum (by decide +kernel) (pa_cons (pv 1) pa_nil))) (pss_cons (ps_set (i := 4) sc_shares.nd rfl (.inl rfl) pe_int) (pss_cons (ps_set (i := 5) sc_shares.nd rfl (.inl rfl) (pe_lst pa_nil)) (pss_cons (ps_for PassesOwn.never rfl (pi_or (pi_list (pv 1)) (pi_tup (pv 1))) (pg_name (i := 6) sc_shares.nd rfl (.inl rfl)) (pss_cons (ps_expr (pe_bm PySem.F.plainAttrs_list PySem.F.slot_list_append PySem.F.type_list_append mt_append (pv 5) (pa_cons (pe_callD D_slab hr (by decide) (by rfl) (pa_cons (pv 0) (pa_cons (pe_callD D_part hr (by decide) (by rfl) (pa_cons (pv 4) (pa_cons (pv 3) pa_nil))) (pa_cons (pe_callD D_part hr (by decide) (by rfl) (pa_cons (pv 6) (pa_cons (pv 3) pa_nil))) (pa_cons (pv 2) pa_nil))))) pa_nil))) (pss_one (ps_aug (i := 4) sc_shares.nd rfl (.inl rfl) (pv 6) ip_add)))) (pss_one (ps_ret (pv 5))))))), ?_⟩
    have hsum := hW.sum
    have hI3 := hI
    refine ⟨_, rfl, sum_step hI3 ?_⟩
    refine ⟨Nat.zero_le _, fun F nF => ?_⟩
    have sF : Same H (upd H F (.lst [])) := same_new nF
    rcases hI3 with hs | hs
    · refine .inl ⟨_, rfl, a, rfl, ⟨_, seqL_same sF hs⟩, ?_⟩
      refine for_list (xs := ws.map V.int) (fun i σ H' => ∃ (v6 : Option V) (us : List V), σ = [some v, some (.ref a), some (.str (sd d)), some (.int ws.sum), some (.int (ws.take i).sum), some (.ref F), v6] ∧ Same H H' ∧ H' F = some (.lst us) ∧ Bxs K H' us ((cutM b ws d).take i)) ⟨none, [], rfl, sF, upd_same, .nil⟩ (fun i σ H' _ ⟨_, _, _, z, _⟩ => seqL_same z hs) ?_ ?_
      · rintro i x σ H' hx ⟨v6, us, rfl, sH, hF, hBs⟩
        obtain ⟨w1, rfl, hw1, hi, hgd⟩ : ∃ w1, x = V.int w1 ∧ w1 ∈ ws ∧ i < ws.length ∧ ws.getD i 0 = w1 := by
          rw [List.getElem?_map] at hx
          obtain ⟨w1, h1, h2⟩ := Option.map_eq_some_iff.mp hx
          exact ⟨w1, h2.symm, List.mem_of_getElem? h1, (List.getElem?_eq_some_iff.mp h1).1, by rw [List.getD_eq_getElem?_getD, h1]; rfl⟩
        have hw2 := hW.mem hw1
        have ht := hW.take i
        have hc0 : ws.sum ≠ 0 := by omega
        have z0 : ws.sum.natAbs < 2 ^ 8000 := pow_mono_lt (sz23 (by omega)) (by decide)
        refine ⟨_, rfl, .inl ⟨rfl, _, SqL.of hF⟩, ?_⟩
        refine ⟨_, rfl, _, rfl, _, rfl, _, _, rfl, hc0, pow_mono_lt (sz23 (by omega)) (by decide), z0, fun v2 G1 e1 g2 => ?_⟩
        refine ⟨_, rfl, _, rfl, _, _, rfl, hc0, pow_mono_lt (sz23 (by omega)) (by decide), z0, fun v3 G2 e2 g3 => ?_⟩
        have e12 := e1.trans e2
        refine ⟨_, rfl, slab_step (d := d) (hV.same (sH.trans e12)) hO (g2.same e2) g3 (sz_share ht hsum) (sz_share (by omega) hsum) fun v G3 e3 hv => ?_⟩
        have e13 := e12.trans e3
        have hF3 := e13 _ _ hF
        have hlen := hBs.len
        rw [List.length_take, cutM_len] at hlen
        refine ⟨F, us, v, rfl, rfl, hF3, small1000 (by have := hW.l1; omega), ?_⟩
        refine ⟨_, rfl, _, rfl, _, _, rfl, rfl, ?_⟩
        refine ⟨some (.int w1), us ++ [v], ?_, same_write nF (sH.trans e13), upd_same, ?_⟩
        · rw [take_sum hi, hgd]
          rfl
        · rw [cutM_succ hi]
          refine Bxs.snoc (BxV.kp (c := F) ?_ Kp.upd hF3) (Bxs.kp (c := F) Kp.upd hF3 (hBs.same e13))
          unfold cutAt
          rw [hgd]
          exact hv
      · rintro σ H' ⟨v6, us, rfl, sH, hF, hBs⟩
        rw [List.length_map, List.take_of_length_le (by rw [cutM_len]; exact Nat.le_refl _)] at hBs
        exact ⟨_, rfl, q F us H' nF sH hF hBs⟩
    · refine .inr ⟨_, rfl, a, rfl, ⟨_, seqT_same sF hs⟩, ?_⟩
      refine for_tup (xs := ws.map V.int) (fun i σ H' => ∃ (v6 : Option V) (us : List V), σ = [some v, some (.ref a), some (.str (sd d)), some (.int ws.sum), some (.int (ws.take i).sum), some (.ref F), v6] ∧ Same H H' ∧ H' F = some (.lst us) ∧ Bxs K H' us ((cutM b ws d).take i)) ⟨none, [], rfl, sF, upd_same, .nil⟩ (fun i σ H' _ ⟨_, _, _, z, _⟩ => seqT_same z hs) ?_ ?_
      · rintro i x σ H' hx ⟨v6, us, rfl, sH, hF, hBs⟩
        obtain ⟨w1, rfl, hw1, hi, hgd⟩ : ∃ w1, x = V.int w1 ∧ w1 ∈ ws ∧ i < ws.length ∧ ws.getD i 0 = w1 := by
          rw [List.getElem?_map] at hx
          obtain ⟨w1, h1, h2⟩ := Option.map_eq_some_iff.mp hx
          exact ⟨w1, h2.symm, List.mem_of_getElem? h1, (List.getElem?_eq_some_iff.mp h1).1, by rw [List.getD_eq_getElem?_getD, h1]; rfl⟩
        have hw2 := hW.mem hw1
        have ht := hW.take i
        have hc0 : ws.sum ≠ 0 := by omega
        have z0 : ws.sum.natAbs < 2 ^ 8000 := pow_mono_lt (sz23 (by omega)) (by decide)
        refine ⟨_, rfl, .inl ⟨rfl, _, SqL.of hF⟩, ?_⟩
        refine ⟨_, rfl, _, rfl, _, rfl, _, _, rfl, hc0, pow_mono_lt (sz23 (by omega)) (by decide), z0, fun v2 G1 e1 g2 => ?_⟩
        refine ⟨_, rfl, _, rfl, _, _, rfl, hc0, pow_mono_lt (sz23 (by omega)) (by decide), z0, fun v3 G2 e2 g3 => ?_⟩
        have e12 := e1.trans e2
        refine ⟨_, rfl, slab_step (d := d) (hV.same (sH.trans e12)) hO (g2.same e2) g3 (sz_share ht hsum) (sz_share (by omega) hsum) fun v G3 e3 hv => ?_⟩
        have e13 := e12.trans e3
        have hF3 := e13 _ _ hF
        have hlen := hBs.len
        rw [List.length_take, cutM_len] at hlen
        refine ⟨F, us, v, rfl, rfl, hF3, small1000 (by have := hW.l1; omega), ?_⟩
        refine ⟨_, rfl, _, rfl, _, _, rfl, rfl, ?_⟩
        refine ⟨some (.int w1), us ++ [v], ?_, same_write nF (sH.trans e13), upd_same, ?_⟩
        · rw [take_sum hi, hgd]
          rfl
        · rw [cutM_succ hi]
          refine Bxs.snoc (BxV.kp (c := F) ?_ Kp.upd hF3) (Bxs.kp (c := F) Kp.upd hF3 (hBs.same e13))
          unfold cutAt
          rw [hgd]
          exact hv
      · rintro σ H' ⟨v6, us, rfl, sH, hF, hBs⟩
        rw [List.length_map, List.take_of_length_le (by rw [cutM_len]; exact Nat.le_refl _)] at hBs
        exact ⟨_, rfl, q F us H' nF sH hF hBs⟩
theorem ok_check_box (T : Tops K mg) (D_is_box : DefOk P w K mg base 3 "is_box" ps_is_box (spIsBox K)) : DefOk P w K mg base 4 "check_box" ps_check_box (spCheck K) := by
  refine T.d_check_box.ok sc_check_box (fun vs H Q E h => ?_) (fun f cdv A outer s H vs Q E hr h => ?_)
  · unfold spCheck at h
    obtain ⟨_, _, rfl, _⟩ := h
    rfl
  · unfold spCheck at h
    obtain ⟨v, b, rfl, hB, hO, q⟩ := h
    refine ⟨_, (pss_one (ps_if (pt_not (pt_val (pe_callD D_is_box hr (by decide) (by rfl) (pa_cons (pv 0) pa_nil)))) (pss_one ps_never) pss_nil)), ?_⟩
    refine ⟨_, rfl, isbox_step hB hO (Nat.le_refl _) fun H' s1 => ⟨_, rfl, ?_⟩⟩
    exact q _ _ s1 rfl
theorem ok_check_weights (T : Tops K mg) (D_is_number : DefOk P w K mg base 1 "is_number" ps_is_number spIsNum) : DefOk P w K mg base 2 "check_weights" ps_check_weights (spCheckW K) := by
  refine T.d_check_weights.ok sc_check_weights (fun vs H Q E h => ?_) (fun f cdv A outer s H vs Q E hr h => ?_)
  · unfold spCheckW at h
    obtain ⟨_, _, rfl, _⟩ := h
    rfl
  · unfold spCheckW at h
    obtain ⟨a, ws, rfl, hI, hW, q⟩ := h
    obtain ⟨t_MC, mg_MOST_CHILDREN⟩ := T.m_MOST_CHILDREN
    obtain ⟨t_MW, mg_MOST_WEIGHT⟩ := T.m_MOST_WEIGHT
    refine ⟨_, (pss_cons (ps_if (PW.pt (pw_or (pt_not (pt_val (pe_callB call_isiTI (by rfl) T.m_isinstance (by decide +kernel) (pa_cons (pv 0) (pa_cons (pe_tup (pa_cons (pe_bltn (v := V.ty "list") (u := Value.type "list") (by rfl) T.m_list (by decide +kernel) rfl) (pa_cons (pe_bltn (v := V.ty "tuple") (u := Value.type "tuple") (by rfl) T.m_tuple (by decide +kernel) rfl) pa_nil))) pa_nil))))) (pw_or1 (pt_not (pt_chain op_le op_le pe_int (pe_callB call_len_seq (by rfl) T.m_len PySem.boot_len (pa_cons (pv 0) pa_nil)) (pe_glob (v := V.int 12) (by rfl) mg_MOST_CHILDREN ⟨_, rfl⟩)))))) (pss_one ps_never) pss_nil) (pss_one (ps_if (pt_not (pt_val (pe_callB (cr_all rfl) (by rfl) T.m_all (by decide +kernel) (pa_cons (pe_lc (own := [("weight", 1)]) (g := gName 1) (by rfl) sc_check_weights.nd (pi_or (pi_list (pv 0)) (pi_tup (pv 0))) (blkOk_by (own := [("weight", 1)]) (N := ["thing", "weight"]) (sc := defScope s_check_weights) (by decide +kernel)) (fun _ _ _ _ _ => (pg_name (i := 1) sc_check_weights.nd rfl (.inl rfl))) (fun _ _ _ _ _ => pts_nil) (fun _ _ _ _ _ => (pe_and (pe_callD D_is_number hr (by decide) (by rfl) (pa_cons (pv 1) pa_nil)) (pe_one (pe_chain op_le op_le pe_int (pv 1) (pe_glob (v := V.int 400000) (by rfl) mg_MOST_WEIGHT ⟨_, rfl⟩)))))) pa_nil)))) (pss_one ps_never) pss_nil))), ?_⟩
    refine ⟨_, rfl, (show 2 ≤ sizeLine by decide), fun p np => ?_⟩
    have s1 : Same H (upd H p (.tup [.ty "list", .ty "tuple"])) := same_new np
    have hI1 := hI.same s1
    have hl0 := hW.l0
    have hl1 := hW.l1
    refine hI1.isi upd_same ⟨_, rfl, ?_⟩
    refine ⟨_, rfl, a, _, rfl, hI1, _, _, rfl, rfl, true, congrArg V.bl (decide_eq_true (by rw [List.length_map]; omega)), ?_⟩
    refine ⟨_, _, rfl, rfl, true, congrArg V.bl (decide_eq_true (by rw [List.length_map]; omega)), ?_⟩
    rcases hI1 with hs | hs
    · refine .inl ⟨_, rfl, a, rfl, ⟨_, hs⟩, fun D nD => ?_⟩
      refine lc_list (xs := ws.map V.int) (fun i H' => Same (upd H p (.tup [.ty "list", .ty "tuple"])) H' ∧ H' D = some (.lst ((List.replicate i true).map V.bl))) ⟨same_new nD, upd_same⟩ (fun i H' _ z => seqL_same z.1 hs) ?_ ?_
      · rintro i x H' hx ⟨sH, hD⟩
        obtain ⟨w1, rfl, hw1, hi⟩ : ∃ w1, x = V.int w1 ∧ w1 ∈ ws ∧ i < ws.length := by
          rw [List.getElem?_map] at hx
          obtain ⟨w1, h1, h2⟩ := Option.map_eq_some_iff.mp hx
          exact ⟨w1, h2.symm, List.mem_of_getElem? h1, (List.getElem?_eq_some_iff.mp h1).1⟩
        have hw2 := hW.w w1 hw1
        refine ⟨rfl, _, rfl, isnum_step ⟨true, rfl, ?_⟩⟩
        refine ⟨_, rfl, _, _, rfl, rfl, true, congrArg V.bl (decide_eq_true hw2.1), ?_⟩
        refine ⟨_, _, rfl, rfl, ?_⟩
        refine ⟨_, hD, ?_, ?_, ?_⟩
        · rw [List.length_map, List.length_replicate]
          exact small1000 (by omega)
        · intro c o hc
          rw [upd_ne (ne_of_none hc nD)]
          exact sH _ _ hc
        · rw [upd_same, List.replicate_succ', List.map_append]
          show some (HO.lst ((List.replicate i true).map V.bl ++ [V.bl (decide (w1 ≤ 400000))])) = _
          rw [decide_eq_true hw2.2]
          rfl
      · rintro H' ⟨sH, hD⟩
        rw [List.length_map] at hD
        refine ⟨D, List.replicate ws.length true, rfl, SqL.of hD, _, rfl, ?_⟩
        rw [show (List.replicate ws.length true).all id = true from List.all_eq_true.mpr fun b hb => List.eq_of_mem_replicate hb]
        exact q _ _ (s1.trans sH) rfl
    · refine .inr ⟨_, rfl, a, rfl, ⟨_, hs⟩, fun D nD => ?_⟩
      refine lc_tup (xs := ws.map V.int) (fun i H' => Same (upd H p (.tup [.ty "list", .ty "tuple"])) H' ∧ H' D = some (.lst ((List.replicate i true).map V.bl))) ⟨same_new nD, upd_same⟩ (fun i H' _ z => seqT_same z.1 hs) ?_ ?_
      · rintro i x H' hx ⟨sH, hD⟩
        obtain ⟨w1, rfl, hw1, hi⟩ : ∃ w1, x = V.int w1 ∧ w1 ∈ ws ∧ i < ws.length := by
          rw [List.getElem?_map] at hx
          obtain ⟨w1, h1, h2⟩ := Option.map_eq_some_iff.mp hx
          exact ⟨w1, h2.symm, List.mem_of_getElem? h1, (List.getElem?_eq_some_iff.mp h1).1⟩
        have hw2 := hW.w w1 hw1
        refine ⟨rfl, _, rfl, isnum_step ⟨true, rfl, ?_⟩⟩
        refine ⟨_, rfl, _, _, rfl, rfl, true, congrArg V.bl (decide_eq_true hw2.1), ?_⟩
        refine ⟨_, _, rfl, rfl, ?_⟩
        refine ⟨_, hD, ?_, ?_, ?_⟩
        · rw [List.length_map, List.length_replicate]
          exact small1000 (by omega)
        · intro c o hc
          rw [upd_ne (ne_of_none hc nD)]
          exact sH _ _ hc
        · rw [upd_same, List.replicate_succ', List.map_append]
          show some (HO.lst ((List.replicate i true).map V.bl ++ [V.bl (decide (w1 ≤ 400000))])) = _
          rw [decide_eq_true hw2.2]
          rfl
      · rintro H' ⟨sH, hD⟩
        rw [List.length_map] at hD
        refine ⟨D, List.replicate ws.length true, rfl, SqL.of hD, _, rfl, ?_⟩
        rw [show (List.replicate ws.length true).all id = true from List.all_eq_true.mpr fun b hb => List.eq_of_mem_replicate hb]
        exact q _ _ (s1.trans sH) rfl
theorem ok_is_side (T : Tops K mg)  : DefOk P w K mg base 1 "is_side" ps_is_side (spIsSide K) := by
  refine T.d_is_side.ok sc_is_side (fun vs H Q E h => ?_) (fun f cdv A outer s H vs Q E hr h => ?_)
  · unfold spIsSide at h
    obtain ⟨_, _, rfl, _⟩ := h
    rfl
  · unfold spIsSide at h
    obtain ⟨v, d, rfl, hv, q⟩ := h
    obtain ⟨t_DOWN, mg_DOWN⟩ := T.m_DOWN
    obtain ⟨t_ACROSS, mg_ACROSS⟩ := T.m_ACROSS
    refine ⟨_, (pss_one (ps_ret (pe_and (pe_callB call_isiI (by rfl) T.m_isinstance (by decide +kernel) (pa_cons (pv 0) (pa_cons (pe_bltn (v := V.ty "str") (u := Value.type "str") (by rfl) T.m_str (by decide +kernel) rfl) pa_nil))) (pe_one (pe_cmpR op_in_seq (pv 0) (pe_tup (pa_cons (pe_glob (v := V.str "down") (by rfl) mg_DOWN ⟨_, rfl⟩) (pa_cons (pe_glob (v := V.str "across") (by rfl) mg_ACROSS ⟨_, rfl⟩) pa_nil))) (by rfl)))))), ?_⟩
    cases d with
    | str x =>
      obtain rfl : v = .str x := by
        cases hv
        rfl
      refine ⟨_, rfl, isi_step "str" "str" true hv rfl (by decide +kernel) ⟨true, rfl, ?_⟩⟩
      refine ⟨_, rfl, (show 2 ≤ sizeLine by decide), fun p np => ?_⟩
      refine ⟨p, [.str "down", .str "across"], rfl, .inr (SqT.of upd_same), rfl, rfl, ?_⟩
      have e : inV (V.str x) [.str "down", .str "across"] = isSd (.str x) := by
        show (decide _ || (decide _ || false)) = (decide (x = sd true) || decide (x = sd false))
        rw [Bool.or_false]
        congr 1 <;> exact decide_eq_decide.mpr ⟨fun z => z.symm, fun z => z.symm⟩
      show Q (V.bl (inV (V.str x) [.str "down", .str "across"])) _
      rw [e]
      exact q _ _ (same_new np) rfl
    | none => exact ⟨_, rfl, isi_step "NoneType" "str" false hv rfl (by decide +kernel) ⟨false, rfl, q _ _ (Same.refl _) rfl⟩⟩
    | bool _ => exact ⟨_, rfl, isi_step "bool" "str" false hv rfl (by decide +kernel) ⟨false, rfl, q _ _ (Same.refl _) rfl⟩⟩
    | int _ => exact ⟨_, rfl, isi_step "int" "str" false hv rfl (by decide +kernel) ⟨false, rfl, q _ _ (Same.refl _) rfl⟩⟩
    | list _ => exact ⟨_, rfl, isi_step "list" "str" false hv rfl (by decide +kernel) ⟨false, rfl, q _ _ (Same.refl _) rfl⟩⟩
    | tuple _ => exact ⟨_, rfl, isi_step "tuple" "str" false hv rfl (by decide +kernel) ⟨false, rfl, q _ _ (Same.refl _) rfl⟩⟩
    | dict _ => cases hv
theorem ok_check_side (T : Tops K mg) (D_is_side : DefOk P w K mg base 1 "is_side" ps_is_side (spIsSide K)) : DefOk P w K mg base 2 "check_side" ps_check_side spCheckS := by
  refine T.d_check_side.ok sc_check_side (fun vs H Q E h => ?_) (fun f cdv A outer s H vs Q E hr h => ?_)
  · unfold spCheckS at h
    obtain ⟨_, rfl, _⟩ := h
    rfl
  · unfold spCheckS at h
    obtain ⟨d, rfl, q⟩ := h
    refine ⟨_, (pss_one (ps_if (pt_not (pt_val (pe_callD D_is_side hr (by decide) (by rfl) (pa_cons (pv 0) pa_nil)))) (pss_one ps_never) pss_nil)), ?_⟩
    refine ⟨_, rfl, isside_step (d := d) fun H1 s1 => ⟨_, rfl, ?_⟩⟩
    exact q _ _ s1 rfl
theorem ok_check_split (T : Tops K mg) (D_check_box : DefOk P w K mg base 4 "check_box" ps_check_box (spCheck K)) (D_check_weights : DefOk P w K mg base 2 "check_weights" ps_check_weights (spCheckW K)) (D_check_side : DefOk P w K mg base 2 "check_side" ps_check_side spCheckS) : DefOk P w K mg base 5 "check_split" ps_check_split (spCheckSp K) := by
  refine T.d_check_split.ok sc_check_split (fun vs H Q E h => ?_) (fun f cdv A outer s H vs Q E hr h => ?_)
  · unfold spCheckSp at h
    obtain ⟨_, _, _, _, _, rfl, _⟩ := h
    rfl
  · unfold spCheckSp at h
    obtain ⟨v, a, b, ws, d, rfl, hV, hO, hI, hW, q⟩ := h
    refine ⟨_, (pss_cons (ps_expr (pe_callD D_check_box hr (by decide) (by rfl) (pa_cons (pv 0) pa_nil))) (pss_cons (ps_expr (pe_callD D_check_weights hr (by decide) (by rfl) (pa_cons (pv 1) pa_nil))) (pss_one (ps_expr (pe_callD D_check_side hr (by decide) (by rfl) (pa_cons (pv 2) pa_nil)))))), ?_⟩
    refine ⟨_, rfl, check_step hV hO (by decide) fun H1 s1 => ?_⟩
    refine ⟨_, rfl, checkw_step (hI.same s1) hW fun H2 s2 => ?_⟩
    refine ⟨_, rfl, checks_step (d := d) fun H3 s3 => ?_⟩
    exact q _ _ (s1.trans (s2.trans s3)) rfl
theorem ok_check_sizes (T : Tops K mg) (D_is_number : DefOk P w K mg base 1 "is_number" ps_is_number spIsNum) : DefOk P w K mg base 2 "check_sizes" ps_check_sizes (spCheckSz K) := by
  refine T.d_check_sizes.ok sc_check_sizes (fun vs H Q E h => ?_) (fun f cdv A outer s H vs Q E hr h => ?_)
  · unfold spCheckSz at h
    obtain ⟨_, _, _, rfl, _⟩ := h
    rfl
  · unfold spCheckSz at h
    obtain ⟨a, ss, n, rfl, hs, hS, hn, q⟩ := h
    refine ⟨_, (pss_cons (ps_if (PW.pt (pw_or (pt_not (pt_val (pe_callB call_isiI (by rfl) T.m_isinstance (by decide +kernel) (pa_cons (pv 0) (pa_cons (pe_bltn (v := V.ty "tuple") (u := Value.type "tuple") (by rfl) T.m_tuple (by decide +kernel) rfl) pa_nil))))) (pw_or1 (pt_not (pt_val (pe_callB (cr_all rfl) (by rfl) T.m_all (by decide +kernel) (pa_cons (pe_lc (own := [("size", 2)]) (g := gName 2) (by rfl) sc_check_sizes.nd (pi_tup (pv 0)) (blkOk_by (own := [("size", 2)]) (N := ["thing", "many", "size"]) (sc := defScope s_check_sizes) (by decide +kernel)) (fun _ _ _ _ _ => (pg_name (i := 2) sc_check_sizes.nd rfl (.inl rfl))) (fun _ _ _ _ _ => pts_nil) (fun _ _ _ _ _ => (pe_and (pe_callD D_is_number hr (by decide) (by rfl) (pa_cons (pv 2) pa_nil)) (pe_one (pe_cmpR op_ge (pv 2) pe_int (nomark _)))))) pa_nil))))))) (pss_one ps_never) pss_nil) (pss_one (ps_if (pt_cmpR op_ne (pe_callB (cr_sumA rfl) (by rfl) T.m_sum (by decide +kernel) (pa_cons (pv 0) pa_nil)) (pv 1) (nomark _)) (pss_one ps_never) pss_nil))), ?_⟩
    have hl := hS.len
    refine ⟨_, rfl, isi_step "tuple" "tuple" true (.tup hs (dp_ints K H ss)) rfl (by decide +kernel) ⟨_, rfl, ?_⟩⟩
    refine ⟨_, rfl, a, rfl, ⟨_, hs⟩, fun D nD => ?_⟩
    refine lc_tup (xs := ss.map V.int) (fun i H' => Same H H' ∧ H' D = some (.lst ((List.replicate i true).map V.bl))) ⟨same_new nD, upd_same⟩ (fun i H' _ z => seqT_same z.1 hs) ?_ ?_
    · rintro i x H' hx ⟨sH, hD⟩
      obtain ⟨w1, rfl, hw1, hi⟩ : ∃ w1, x = V.int w1 ∧ w1 ∈ ss ∧ i < ss.length := by
        rw [List.getElem?_map] at hx
        obtain ⟨w1, h1, h2⟩ := Option.map_eq_some_iff.mp hx
        exact ⟨w1, h2.symm, List.mem_of_getElem? h1, (List.getElem?_eq_some_iff.mp h1).1⟩
      have hw2 := hS.w w1 hw1
      refine ⟨rfl, _, rfl, isnum_step ⟨true, rfl, ?_⟩⟩
      refine ⟨_, rfl, _, _, rfl, rfl, ?_⟩
      refine ⟨_, hD, ?_, ?_, ?_⟩
      · rw [List.length_map, List.length_replicate]
        exact small1000 (by omega)
      · intro c o hc
        rw [upd_ne (ne_of_none hc nD)]
        exact sH _ _ hc
      · rw [upd_same, List.replicate_succ', List.map_append]
        show some (HO.lst ((List.replicate i true).map V.bl ++ [V.bl (decide (w1 ≥ 1))])) = _
        rw [decide_eq_true hw2]
        rfl
    · rintro H' ⟨sH, hD⟩
      rw [List.length_map] at hD
      refine ⟨D, List.replicate ss.length true, rfl, SqL.of hD, _, rfl, ?_⟩
      rw [show (List.replicate ss.length true).all id = true from List.all_eq_true.mpr fun b hb => List.eq_of_mem_replicate hb]
      refine ⟨_, rfl, sum_step (.inr (seqT_same sH hs)) ⟨_, rfl, rfl, _, rfl, iteNS (congrArg V.int hS.s) ?_⟩⟩
      exact q _ _ sH rfl
theorem ok_row_ends (T : Tops K mg)  : DefOk P w K mg base 1 "row_ends" ps_row_ends (spRowEnds K) := by
  refine T.d_row_ends.ok sc_row_ends (fun vs H Q E h => ?_) (fun f cdv A outer s H vs Q E hr h => ?_)
  · unfold spRowEnds at h
    obtain ⟨_, _, _, rfl, _⟩ := h
    rfl
  · unfold spRowEnds at h
    obtain ⟨a, ss, n, rfl, hs, hS, hn, q⟩ := h
    refine ⟨_, (pss_cons (ps_set (i := 1) sc_row_ends.nd rfl (.inl rfl) (pe_lst pa_nil)) (pss_cons (ps_set (i := 2) sc_row_ends.nd rfl (.inl rfl) pe_int) (pss_cons (ps_for PassesOwn.never rfl (pi_tup (pv 0)) (pg_name (i := 3) sc_row_ends.nd rfl (.inl rfl)) (pss_cons (ps_expr (pe_bm PySem.F.plainAttrs_list PySem.F.slot_list_append PySem.F.type_list_append mt_append (pv 1) (pa_cons (pe_tup (pa_cons (pv 2) (pa_cons (pe_op op_add (pv 2) (pv 3)) pa_nil))) pa_nil))) (pss_one (ps_aug (i := 2) sc_row_ends.nd rfl (.inl rfl) (pv 3) ip_add)))) (pss_one (ps_ret (pv 1)))))), ?_⟩
    have hl := hS.len
    refine ⟨Nat.zero_le _, fun F nF => ?_⟩
    have sF : Same H (upd H F (.lst [])) := same_new nF
    refine ⟨_, rfl, a, rfl, ⟨_, seqT_same sF hs⟩, ?_⟩
    refine for_tup (xs := ss.map V.int) (fun i σ H' => ∃ (v3 : Option V) (us : List V), σ = [some (.ref a), some (.ref F), some (.int (ss.take i).sum), v3] ∧ Same H H' ∧ H' F = some (.lst us) ∧ Al (PiV K H') us ((endsM ss).take i)) ⟨none, [], rfl, sF, upd_same, .nil⟩ (fun i σ H' _ ⟨_, _, _, z, _⟩ => seqT_same z hs) ?_ ?_
    · rintro i x σ H' hx ⟨v3, us, rfl, sH, hF, hBs⟩
      obtain ⟨w1, rfl, hi, hgd⟩ : ∃ w1, x = V.int w1 ∧ i < ss.length ∧ ss.getD i 0 = w1 := by
        rw [List.getElem?_map] at hx
        obtain ⟨w1, h1, h2⟩ := Option.map_eq_some_iff.mp hx
        exact ⟨w1, h2.symm, (List.getElem?_eq_some_iff.mp h1).1, by rw [List.getD_eq_getElem?_getD, h1]; rfl⟩
      refine ⟨_, rfl, .inl ⟨rfl, _, SqL.of hF⟩, ?_⟩
      refine ⟨_, rfl, _, rfl, _, rfl, _, _, rfl, rfl, (show 2 ≤ sizeLine by decide), fun p np => ?_⟩
      have sp := same_new (o := .tup [.int (ss.take i).sum, .int ((ss.take i).sum + w1)]) np
      have hlen := hBs.len
      have hle : (endsM ss).length = ss.length := by unfold endsM; rw [List.length_map, List.length_range]
      rw [List.length_take, hle] at hlen
      refine ⟨F, us, _, rfl, rfl, sp _ _ hF, small1000 (by omega), ?_⟩
      refine ⟨_, rfl, _, rfl, _, _, rfl, rfl, ?_⟩
      refine ⟨some (.int w1), us ++ [.ref p], ?_, same_write nF (sH.trans sp), upd_same, ?_⟩
      · rw [take_sum hi, hgd]
        rfl
      · have eg : (endsM ss)[i]? = some ((ss.take i).sum, (ss.take i).sum + w1) := by
          unfold endsM
          rw [List.getElem?_map, List.getElem?_range hi, ← hgd]
          rfl
        rw [List.take_add_one, eg]
        refine Al.snoc ?_ (Al.mono (fun v x h => h.kp (c := F) Kp.upd (sp _ _ hF)) (Al.mono (fun v x h => h.same sp) hBs))
        exact PiV.kp (c := F) Kp.upd (sp _ _ hF) ⟨p, rfl, SqT.of upd_same⟩
    · rintro σ H' ⟨v3, us, rfl, sH, hF, hBs⟩
      have hle : (endsM ss).length = ss.length := by unfold endsM; rw [List.length_map, List.length_range]
      rw [List.length_map, List.take_of_length_le (by rw [hle]; exact Nat.le_refl _)] at hBs
      exact ⟨_, rfl, q F us H' nF sH hF hBs⟩
theorem ok_laid (T : Tops K mg) (D_shares : DefOk P w K mg base 4 "shares" ps_shares (spShares K)) (D_check_split : DefOk P w K mg base 5 "check_split" ps_check_split (spCheckSp K)) (D_check_sizes : DefOk P w K mg base 2 "check_sizes" ps_check_sizes (spCheckSz K)) (D_row_ends : DefOk P w K mg base 1 "row_ends" ps_row_ends (spRowEnds K)) : DefOkS P w K mg base 6 "laid" ps_laid 3 (.str "down") (spLaid K) := by
  refine T.d_laid.ok sc_laid (fun vs H Q E h => ?_) (fun f cdv A outer s H vs Q E hr h => ?_)
  · unfold spLaid at h
    obtain ⟨_, _, _, _, _, _, _, rfl, _⟩ := h
    rfl
  · unfold spLaid at h
    obtain ⟨v, a, t, b, ws, ss, d, rfl, hV, hO, hI, hW, ht, hS, q⟩ := h
    obtain ⟨t_DOWN, mg_DOWN⟩ := T.m_DOWN
    obtain ⟨t_ACROSS, mg_ACROSS⟩ := T.m_ACROSS
    refine ⟨_, (pss_cons (ps_expr (pe_callD D_check_split hr (by decide) (by rfl) (pa_cons (pv 0) (pa_cons (pv 1) (pa_cons (pv 3) pa_nil))))) (pss_cons (ps_expr (pe_callD D_check_sizes hr (by decide) (by rfl) (pa_cons (pv 2) (pa_cons (pe_callB call_len_seq (by rfl) T.m_len PySem.boot_len (pa_cons (pv 1) pa_nil)) pa_nil)))) (pss_cons (ps_setLc (i := 4) (own := [("begin", 10), ("end", 11)]) (g := gTup K 2 (gCons (gName 10) (gCons (gName 11) gNil))) (by rfl) sc_laid.nd rfl rfl (sw_true rfl rfl rfl (by decide +kernel)) (pi_list (pe_callD D_row_ends hr (by decide) (by rfl) (pa_cons (pv 2) pa_nil))) (blkOk_by (own := [("begin", 10), ("end", 11)]) (N := ["box", "weights", "sizes", "side", "rows", "row", "slabs", "other_side", "found", "slab", "begin", "end"]) (sc := defScope s_laid) (by decide +kernel)) (fun _ _ _ _ _ => (pg_tup rfl (pgs_cons (pg_name (i := 10) sc_laid.nd rfl (.inl rfl)) (pgs_cons (pg_name (i := 11) sc_laid.nd rfl (.inl rfl)) pgs_nil)))) (fun _ _ _ _ _ => pts_nil) (fun _ _ _ _ _ => (pe_slice (SlR.or (kk_sl (K := K) (r := rSlL) rfl sl_list) (kk_sl (K := K) (r := rSlA) rfl sl_tupA)) (pv 1) (po_some (pv 10)) (po_some (pv 11))))) (pss_cons (ps_set (i := 6) sc_laid.nd rfl (.inl rfl) (pe_callD D_shares hr (by decide) (by rfl) (pa_cons (pv 0) (pa_cons (pe_lc (own := [("row", 5)]) (g := gName 5) (by rfl) sc_laid.nd (pi_list (pv 4)) (blkOk_by (own := [("row", 5)]) (N := ["box", "weights", "sizes", "side", "rows", "row", "slabs", "other_side", "found", "slab", "begin", "end"]) (sc := defScope s_laid) (by decide +kernel)) (fun _ _ _ _ _ => (pg_name (i := 5) sc_laid.nd rfl (.inl rfl))) (fun _ _ _ _ _ => pts_nil) (fun _ _ _ _ _ => (pe_callB (kk_call (K := K) (r := rSumA) rfl (cr_sumA rfl)) (by rfl) T.m_sum (by decide +kernel) (pa_cons (pv 5) pa_nil)))) (pa_cons (pv 3) pa_nil))))) (C8.pss_cut (ps_set (i := 7) sc_laid.nd rfl (.inl rfl) (pe_ifExp (pt_cmpR op_eq (pv 3) (pe_glob (v := V.str "down") (by rfl) mg_DOWN ⟨_, rfl⟩) (nomark _)) (pe_glob (v := V.str "across") (by rfl) mg_ACROSS ⟨_, rfl⟩) (pe_glob (v := V.str "down") (by rfl) mg_DOWN ⟨_, rfl⟩))) (pss_cons (ps_set (i := 8) sc_laid.nd rfl (.inl rfl) (pe_lst pa_nil)) (pss_cons (ps_for PassesOwn.never rfl (RZ.pi_zipA (by rfl) T.m_zip (pa_cons (pv 6) (pa_cons (pv 4) pa_nil))) (pg_tup rfl (pgs_cons (pg_name (i := 9) sc_laid.nd rfl (.inl rfl)) (pgs_cons (pg_name (i := 5) sc_laid.nd rfl (.inl rfl)) pgs_nil))) (pss_one (ps_expr (pe_bm PySem.F.plainAttrs_list PySem.F.slot_list_extend PySem.F.type_list_extend mt_extend (pv 8) (pa_cons (pe_callD D_shares hr (by decide) (by rfl) (pa_cons (pv 9) (pa_cons (pv 5) (pa_cons (pv 7) pa_nil)))) pa_nil))))) (pss_one (ps_ret (pv 8)))))))))), ?_⟩
    have hl1 := hW.l1
    have hl0 := hW.l0
    have hsl := hS.len
    refine ⟨_, rfl, _, rfl, _, rfl, checksp_step (d := d) hV hO (by decide) hI hW fun H1 s1 => ?_⟩
    have ht1 := seqT_same s1 ht
    have hI1 := hI.same s1
    refine ⟨_, rfl, _, rfl, a, _, rfl, hI1, checksz_step (n := ws.length) ht1 hS hl1 (fun H2 s2 => ?_) (by rw [List.length_map]; rfl)⟩
    have hI2 := hI1.same s2
    -- the rows
    refine ⟨_, rfl, rowends_step (seqT_same s2 ht1) hS hl1 fun L us H3 nL s3 hL hA => ?_⟩
    have s13 := s1.trans (s2.trans s3)
    have hI3 := hI2.same s3
    refine ⟨L, rfl, ⟨_, SqL.of hL⟩, fun R nR => ?_⟩
    refine lc_list (xs := us) (fun i H' => Same H3 H' ∧ ∃ rs, H' R = some (.lst rs) ∧ Al (RwN K R H') rs ((rowsM ws ss).take i)) ⟨same_new nR, [], upd_same, .nil⟩ (fun i H' _ z => SqL.of (z.1 _ _ hL)) ?_ ?_
    · rintro i x H' hx ⟨sH, rs, hR, hRs⟩
      obtain ⟨pr, h1, h2⟩ := hA.get hx
      obtain ⟨hi, rfl⟩ := ends_get h1
      obtain ⟨p, rfl, hp⟩ := h2.same sH
      have hcut := cut_row hS hi
      have hrl := hRs.len
      rw [List.length_take, rows_len] at hrl
      have fin : ∀ (y : V) H4, Same H' H4 → RwN K R H4 y (rowAt ws ss i) → ∃ acc, H4 R = some (.lst acc) ∧ acc.length < sizeLine ∧ (Same H3 (upd H4 R (.lst (acc ++ [y]))) ∧ ∃ rs, (upd H4 R (.lst (acc ++ [y]))) R = some (.lst rs) ∧ Al (RwN K R (upd H4 R (.lst (acc ++ [y])))) rs ((rowsM ws ss).take (i + 1))) := by
        intro y H4 s4 hy
        have hR4 := s4 _ _ hR
        refine ⟨rs, hR4, small1000 (by omega), same_write nR (sH.trans s4), _, upd_same, ?_⟩
        rw [List.take_add_one, rows_get hi]
        exact Al.snoc (RwN.kp Kp.upd hR4 hy) (Al.mono (fun v x h => RwN.kp Kp.upd hR4 h) (Al.mono (fun v x h => RwN.same s4 h) hRs))
      refine ⟨p, _, rfl, hp, rfl, _, _, rfl, _, _, rfl, rfl, rfl, ?_⟩
      refine ⟨_, rfl, _, rfl, _, rfl, _, rfl, _, rfl, ?_⟩
      rcases hI3.same sH with hs | hs
      · refine .inl ⟨a, _, rfl, hs, fun p np => fin (.ref p) _ (same_new np) ⟨p, rfl, .inl ⟨?_, fun z => ?_⟩⟩⟩
        · rw [← hcut]
          exact SqL.of upd_same
        · rw [z, hR] at np
          cases np
      · refine .inr ⟨a, _, rfl, hs, fun hw => fin (.ref a) _ (Same.refl _) ⟨a, rfl, .inr ?_⟩, fun hw p np => fin (.ref p) _ (same_new np) ⟨p, rfl, .inr ?_⟩⟩
        · have e : cutV (ws.map V.int) (some (ss.take i).sum) (some ((ss.take i).sum + ss.getD i 0)) = ws.map V.int := by
            unfold cutV
            rw [hw.1, hw.2, List.drop_zero, Nat.sub_zero]
            exact List.take_of_length_le (Nat.le_refl _)
          rw [← hcut, e]
          exact hs
        · rw [← hcut]
          exact SqT.of upd_same
    rintro H4 ⟨s4, rs, hR, hRs⟩
    rw [hA.len, ends_len, List.take_of_length_le (by rw [rows_len]; exact Nat.le_refl _)] at hRs
    have hrl := hRs.len
    rw [rows_len] at hrl
    have s14 := s13.trans s4
    -- the rows' sums
    refine ⟨_, rfl, _, rfl, R, rfl, ⟨_, SqL.of hR⟩, fun D nD => ?_⟩
    refine lc_list (xs := rs) (fun i H' => Same H4 H' ∧ H' D = some (.lst (((sumsM ws ss).take i).map V.int))) ⟨same_new nD, upd_same⟩ (fun i H' _ z => SqL.of (z.1 _ _ hR)) ?_ ?_
    · rintro i x H' hx ⟨sH, hD⟩
      obtain ⟨row, h1, h2⟩ := hRs.get hx
      obtain ⟨hi, rfl⟩ := rows_get' h1
      obtain ⟨a', rfl, h3⟩ := h2.rw.same sH
      refine ⟨rfl, _, rfl, sum_step h3 ?_⟩
      refine ⟨_, hD, ?_, same_write nD sH, ?_⟩
      · rw [List.length_map, List.length_take, sums_len]
        exact small1000 (by omega)
      · rw [upd_same, List.take_add_one, sums_get hi, List.map_append]
        rfl
    rintro H5 ⟨s5, hD⟩
    rw [hrl, List.take_of_length_le (by rw [sums_len]; exact Nat.le_refl _)] at hD
    have s15 := s14.trans s5
    have hG := sums_ok hW hS
    refine ⟨_, rfl, shares_step (d := d) (hV.same s15) hO (by decide) (.inl (SqL.of hD)) hG fun S us' H6 nS s6 hSl hB => ?_⟩
    have s16 := s15.trans s6
    -- the other side
    refine ⟨fun σ' H' => σ' = [some v, some (.ref a), some (.ref t), some (.str (sd d)), some (.ref R), none, some (.ref S), some (.str (sd (!d))), none, none, none, none] ∧ H' = H6, ?_, ?_⟩
    · refine ⟨_, rfl, rfl, _, rfl, ?_⟩
      rw [sd_eq]
      cases d with
      | true => exact ⟨rfl, rfl⟩
      | false => exact ⟨rfl, rfl⟩
    rintro σ' H' ⟨rfl, rfl⟩
    have hR6 := (s5.trans s6) _ _ hR
    have hlu := hB.len
    rw [cutM_len, sums_len] at hlu
    refine ⟨Nat.zero_le _, fun F nF => ?_⟩
    have sF : Same H' (upd H' F (.lst [])) := same_new nF
    refine ⟨_, rfl, _, rfl, S, R, us', rs, rfl, .inl ⟨SqL.of (sF _ _ hSl), SqL.of (sF _ _ hR6), ?_⟩⟩
    refine RZ.for_zipL (by rw [hlu, hrl]) (fun j σ H7 => ∃ (v5 v9 : Option V) (fs : List V), σ = [some v, some (.ref a), some (.ref t), some (.str (sd d)), some (.ref R), v5, some (.ref S), some (.str (sd (!d))), some (.ref F), v9, none, none] ∧ Same H' H7 ∧ H7 F = some (.lst fs) ∧ Bxs K H7 fs (laidTo b ws ss d j)) ⟨_, _, [], rfl, sF, upd_same, .nil⟩ (fun j σ H7 ⟨_, _, _, _, z, _⟩ => ⟨SqL.of (z _ _ hSl), SqL.of (z _ _ hR6)⟩) ?_ ?_
    · rintro j x y u σ H8 hx hy ⟨v5, v9, fs, rfl, s8, hF, hBF⟩ nt
      have st := same_new (o := .tup [x, y]) nt
      have s9 := s8.trans st
      obtain ⟨bj, h1, hx2⟩ := bxs_get (hB.same s9) hx
      obtain ⟨hj, rfl⟩ := cutM_get h1
      rw [sums_len] at hj
      obtain ⟨row, h2, hy2⟩ := hRs.get hy
      obtain ⟨_, rfl⟩ := rows_get' h2
      obtain ⟨a', rfl, h3⟩ := hy2.rw.same (s5.trans (s6.trans s9))
      refine ⟨u, _, rfl, SqT.of upd_same, rfl, _, _, rfl, _, _, rfl, rfl, ?_⟩
      have hF9 := st _ _ hF
      refine ⟨_, rfl, .inl ⟨rfl, _, SqL.of hF9⟩, ?_⟩
      refine ⟨_, rfl, _, rfl, _, rfl, shares_step (d := !d) hx2 (slab_okG hO hG (by rw [sums_len]; exact hj)) (by decide) h3 (row_ok hW hS hj).g fun M ms H10 nM s10 hM hBM => ?_⟩
      have hF10 := s10 _ _ hF9
      have hlf := hBF.len
      rw [laidTo_len b d hS j (by omega)] at hlf
      have hlm := hBM.len
      rw [cutM_len, row_len hS hj] at hlm
      have hsz := hS.size_le hj
      refine ⟨F, M, fs, ms, rfl, rfl, hF10, hM, by have : (1000 : Nat) ≤ sizeLine := (by decide); omega, ?_⟩
      refine ⟨_, _, fs ++ ms, rfl, same_write nF (s9.trans s10), upd_same, ?_⟩
      rw [laidTo_succ]
      exact Bxs.kp (c := F) Kp.upd hF10 (Bxs.append hBM ((hBF.same st).same s10))
    · rintro σ H7 ⟨v5, v9, fs, rfl, s7, hF, hBF⟩
      rw [hlu] at hBF
      exact ⟨_, rfl, q F fs H7 (s16.free nF) (s16.trans s7) hF hBF⟩
theorem ok_shape_between (T : Tops K mg) (D_part : DefOk P w K mg base 1 "part" ps_part (spPart K)) (D_times : DefOk P w K mg base 2 "times" ps_times (spTwo K (fun _ _ => True) fun x y => x * y)) (D_over : DefOk P w K mg base 2 "over" ps_over (spTwo K (fun _ y => y ≠ 0) fun x y => x / y)) (D_greater : DefOk P w K mg base 2 "greater" ps_greater (spTwo K (fun _ _ => True) fun x y => gr x y)) : DefOk P w K mg base 3 "_shape_between" ps__shape_between (spShapeB K) := by
  refine T.d_shape_between.ok sc__shape_between (fun vs H Q E h => ?_) (fun f cdv A outer s H vs Q E hr h => ?_)
  · unfold spShapeB at h
    obtain ⟨_, _, _, _, _, _, _, _, _, rfl, _⟩ := h
    rfl
  · unfold spShapeB at h
    obtain ⟨v, a, b, ws, lo, hi, first, size, d, rfl, hV, hO, hS, hW, e1, e2, h0, h1, q⟩ := h
    obtain ⟨t_DOWN, mg_DOWN⟩ := T.m_DOWN
    obtain ⟨na_ONE, mg_ONE, h1N⟩ := T.m_ONE
    refine ⟨_, (C8.pss_cut (ps_set (i := 5) sc__shape_between.nd rfl (.inl rfl) (pe_slice (SlR.or sl_list sl_tupA) (pv 1) (po_some (pv 2)) (po_some (pv 3)))) (C8.pss_cut (ps_set (i := 6) sc__shape_between.nd rfl (.inl rfl) (pe_ifExp (pt_cmpR op_eq (pv 4) (pe_glob (v := V.str "down") (by rfl) mg_DOWN ⟨_, rfl⟩) (nomark _)) (pe_callD D_over hr (by decide) (by rfl) (pa_cons (pe_ix ix_tup (pv 0) pe_int (fun _ _ => rfl)) (pa_cons (pe_ix ix_tup (pv 0) pe_int (fun _ _ => rfl)) pa_nil))) (pe_callD D_over hr (by decide) (by rfl) (pa_cons (pe_ix ix_tup (pv 0) pe_int (fun _ _ => rfl)) (pa_cons (pe_ix ix_tup (pv 0) pe_int (fun _ _ => rfl)) pa_nil))))) (pss_cons (ps_set (i := 7) sc__shape_between.nd rfl (.inl rfl) (pe_callD D_times hr (by decide) (by rfl) (pa_cons (pv 6) (pa_cons (pe_callD D_part hr (by decide) (by rfl) (pa_cons (pe_callB (cr_sumA rfl) (by rfl) T.m_sum (by decide +kernel) (pa_cons (pv 1) pa_nil)) (pa_cons (pe_op op_pow (pe_callB (cr_sumA rfl) (by rfl) T.m_sum (by decide +kernel) (pa_cons (pv 5) pa_nil)) pe_int) pa_nil))) pa_nil)))) (pss_cons (ps_set (i := 8) sc__shape_between.nd rfl (.inl rfl) (pe_callD D_times hr (by decide) (by rfl) (pa_cons (pv 7) (pa_cons (pe_tup (pa_cons (pe_callB (cr_maxA rfl) (by rfl) T.m_max (by decide +kernel) (pa_cons (pv 5) pa_nil)) (pa_cons pe_int pa_nil))) pa_nil)))) (pss_cons (ps_set (i := 9) sc__shape_between.nd rfl (.inl rfl) (pe_callD D_times hr (by decide) (by rfl) (pa_cons (pv 7) (pa_cons (pe_tup (pa_cons (pe_callB (cr_minA rfl) (by rfl) T.m_min (by decide +kernel) (pa_cons (pv 5) pa_nil)) (pa_cons pe_int pa_nil))) pa_nil)))) (pss_one (ps_ret (pe_callD D_greater hr (by decide) (by rfl) (pa_cons (pv 8) (pa_cons (pe_callD D_over hr (by decide) (by rfl) (pa_cons (pe_glob (v := V.ref na_ONE) (by rfl) mg_ONE rfl) (pa_cons (pv 9) pa_nil))) pa_nil)))))))))), ?_⟩
    have hr := rowM_ok hW h0 h1
    have hcut := cut_rowM e1 e2 h1
    obtain ⟨av, w1, w2, w3, w4, rfl, hA⟩ := hV
    refine ⟨fun σ' H' => ∃ p, σ' = [some (.ref av), some (.ref a), some (.int lo), some (.int hi), some (.str (sd d)), some (.ref p), none, none, none, none] ∧ Same H H' ∧ IntsV K H' p (rowM ws first size), ?_, ?_⟩
    · refine ⟨_, rfl, _, rfl, _, rfl, _, rfl, _, rfl, ?_⟩
      rcases hS with hs | hs
      · refine .inl ⟨a, _, rfl, hs, fun p np => ⟨p, rfl, same_new np, .inl ?_⟩⟩
        rw [← hcut]
        exact SqL.of upd_same
      · refine .inr ⟨a, _, rfl, hs, fun hw => ⟨a, rfl, Same.refl _, .inr ?_⟩, fun hw p np => ⟨p, rfl, same_new np, .inr ?_⟩⟩
        · have e : cutV (ws.map V.int) (some lo) (some hi) = ws.map V.int := by
            unfold cutV
            rw [hw.1, hw.2, List.drop_zero, Nat.sub_zero]
            exact List.take_of_length_le (Nat.le_refl _)
          rw [← hcut, e]
          exact hs
        · rw [← hcut]
          exact SqT.of upd_same
    rintro σ' H1 ⟨p, rfl, sp, hR⟩
    have hA1 := hA.same sp
    have nz : ∀ {x : Rat}, 0 < x → x ≠ 0 := fun h z => by
      rw [z] at h
      exact absurd h (by decide)
    have zal : Sz 1000 (if d then b.w / b.h else b.h / b.w) := by
      cases d with
      | true => exact sz_div hO.sw hO.sh (nz hO.h0) (by decide)
      | false => exact sz_div hO.sh hO.sw (nz hO.w0) (by decide)
    refine ⟨fun σ' H' => ∃ al, σ' = [some (.ref av), some (.ref a), some (.int lo), some (.int hi), some (.str (sd d)), some (.ref p), some al, none, none, none] ∧ Same H1 H' ∧ PtV K H' al (if d then b.w / b.h else b.h / b.w), ?_, ?_⟩
    · refine ⟨_, rfl, rfl, _, rfl, ?_⟩
      rw [sd_eq]
      cases d with
      | true => exact ⟨_, rfl, av, _, _, _, rfl, rfl, hA1.1, rfl, _, rfl, av, _, _, _, rfl, rfl, hA1.1, rfl, two_step hA1.2.2.2.1 hA1.2.2.2.2 hO.sw hO.sh (by decide) (by decide) (nz hO.h0) fun u H2 s2 hu => ⟨u, rfl, s2, hu⟩⟩
      | false => exact ⟨_, rfl, av, _, _, _, rfl, rfl, hA1.1, rfl, _, rfl, av, _, _, _, rfl, rfl, hA1.1, rfl, two_step hA1.2.2.2.2 hA1.2.2.2.1 hO.sh hO.sw (by decide) (by decide) (nz hO.w0) fun u H2 s2 hu => ⟨u, rfl, s2, hu⟩⟩
    rintro σ' H2 ⟨al, rfl, s2, hal⟩
    have hrs := hr.sum
    have hws := hW.sum
    have hR2 := hR.same s2
    have hpos := Int.mul_pos hrs.1 hrs.1
    have hle : (rowM ws first size).sum * (rowM ws first size).sum ≤ 4800000 * 4800000 := Int.mul_le_mul hrs.2 hrs.2 (by omega) (by omega)
    have epow : (rowM ws first size).sum ^ (2 : Int).toNat = (rowM ws first size).sum * (rowM ws first size).sum := by
      show (rowM ws first size).sum ^ 2 = _
      rw [Int.pow_succ, Int.pow_succ, Int.pow_zero, Int.one_mul]
    refine ⟨_, rfl, _, rfl, sum_step (hS.same (sp.trans s2)) ?_⟩
    refine ⟨_, rfl, sum_step hR2 ⟨_, _, rfl, rfl, ⟨by decide, by decide, Nat.lt_of_lt_of_le (show (rowM ws first size).sum.natAbs < 2 ^ 23 by omega) (by decide)⟩, ?_⟩⟩
    refine ⟨ws.sum, (rowM ws first size).sum * (rowM ws first size).sum, congrArg (fun z => [V.int ws.sum, V.int z]) epow, by omega, pow_mono_lt (sz23 (by omega)) (by decide), pow_mono_lt (show ((rowM ws first size).sum * (rowM ws first size).sum).natAbs < 2 ^ 46 by omega) (by decide), fun y H3 s3 hy => ?_⟩
    have zy : Sz 46 (Rat.divInt ws.sum ((rowM ws first size).sum * (rowM ws first size).sum)) := size_divInt (by omega) (show ws.sum.natAbs < 2 ^ 46 by omega) (by omega)
    refine two_step (hal.same s3) hy zal zy (by decide) (by decide) trivial fun bw H4 s4 hbw => ?_
    have zb : Sz 1046 (gform b ws.sum (rowM ws first size) d) := sz_mul zal zy (Nat.le_refl _)
    have hbw : PtV K H4 bw (gform b ws.sum (rowM ws first size) d) := hbw
    have hR4 := hR2.same (s3.trans s4)
    have hl0 := hr.l0
    refine ⟨_, rfl, _, rfl, p, _, rfl, hR4, hl0, fun M hM hM2 => ⟨(show 2 ≤ sizeLine by decide), fun p2 np2 => ?_⟩⟩
    have bM := hr.g.mem hM
    have sp2 := same_new (o := .tup [.int M, .int 1]) np2
    refine two_step (hbw.same sp2) (ptv_int np2 M) zb (sz_int (by omega)) (by decide) (by decide) trivial fun lg H5 s5 hlg => ?_
    have e45 := sp2.trans s5
    have hR5 := hR4.same e45
    refine ⟨_, rfl, _, rfl, p, _, rfl, hR5, hl0, fun m hm hm2 => ⟨(show 2 ≤ sizeLine by decide), fun p3 np3 => ?_⟩⟩
    have bm := hr.g.mem hm
    have sp3 := same_new (o := .tup [.int m, .int 1]) np3
    have zm : Sz 23 ((m : Int) : Rat) := sz_int (by omega)
    have zM : Sz 23 ((M : Int) : Rat) := sz_int (by omega)
    refine two_step ((hbw.same e45).same sp3) (ptv_int np3 m) zb zm (by decide) (by decide) trivial fun sh H6 s6 hsh => ?_
    have pm := Rat.mul_pos (gform_pos hO hws.1 hrs.1 d) (int_pos (i := m) (by omega))
    refine ⟨_, rfl, _, rfl, two_step (h1N H6) hsh sz_one (sz_mul zb zm (Nat.le_refl _)) (by decide) (by decide) (nz pm) fun iv H7 s7 hiv => ?_⟩
    refine two_step ((hlg.same (sp3.trans s6)).same s7) hiv (sz_mul zb zM (Nat.le_refl _)) (sz_div sz_one (sz_mul zb zm (Nat.le_refl _)) (nz pm) (Nat.le_refl _)) (by decide) (by decide) trivial fun u H8 s8 hu => ?_
    refine q u H8 (sp.trans (s2.trans (s3.trans (s4.trans (e45.trans (sp3.trans (s6.trans (s7.trans s8)))))))) ?_
    rw [rowShape_eq hO hW h0 h1 hM hM2 hm hm2]
    exact hu
theorem ok_row_shapes (T : Tops K mg) (D_shape_between : DefOk P w K mg base 3 "_shape_between" ps__shape_between (spShapeB K)) : DefOk P w K mg base 4 "row_shapes" ps_row_shapes (spShapesI K) := by
  refine T.d_row_shapes.ok sc_row_shapes (fun vs H Q E h => ?_) (fun f cdv A outer s H vs Q E hr h => ?_)
  · unfold spShapesI at h
    obtain ⟨_, _, _, _, _, rfl, _⟩ := h
    rfl
  · unfold spShapesI at h
    obtain ⟨v, a, b, ws, d, rfl, hV, hO, hS, hW, q⟩ := h
    refine ⟨_, (pss_cons (ps_set (i := 3) sc_row_shapes.nd rfl (.inl rfl) (pe_callB call_len_seq (by rfl) T.m_len PySem.boot_len (pa_cons (pv 1) pa_nil))) (pss_cons (ps_set (i := 4) sc_row_shapes.nd rfl (.inl rfl) pe_dnewT) (pss_cons (ps_for PassesOwn.never rfl (pi_range1 rfl T.m_range (pa_cons (pv 3) pa_nil)) (pg_name (i := 5) sc_row_shapes.nd rfl (.inl rfl)) (pss_one (ps_for PassesOwn.never rfl (pi_range2 rfl T.m_range (pa_cons (pe_op op_add (pv 5) pe_int) (pa_cons (pe_op op_add (pv 3) pe_int) pa_nil))) (pg_name (i := 6) sc_row_shapes.nd rfl (.inl rfl)) (pss_one (ps_dput (u1 hr.units) (pv 4) (pe_tup (pa_cons (pv 5) (pa_cons (pv 6) pa_nil))) (pe_callD D_shape_between hr (by decide) (by rfl) (pa_cons (pv 0) (pa_cons (pv 1) (pa_cons (pv 5) (pa_cons (pv 6) (pa_cons (pv 2) pa_nil)))))) rfl))))) (pss_one (ps_ret (pv 4)))))), ?_⟩
    have hl1 := hW.l1
    refine ⟨_, rfl, a, _, rfl, hS, ?_⟩
    rw [List.length_map]
    refine fun F nF => ?_
    have sF := same_new (o := .dT []) nF
    refine ⟨_, rfl, (ws.length : Int), rfl, by omega, by omega, ?_⟩
    refine for_range (lo := 0) (n := ws.length) (fun i σ H' => ∃ (v5 v6 : Option V), σ = [some v, some (.ref a), some (.str (sd d)), some (.int ws.length), some (.ref F), v5, v6] ∧ Same H H' ∧ DSh K ws.length (fun i' j => i' < i ∧ AllR ws.length i' j) (fSh b ws d) (13 * i) H' F) ⟨none, none, rfl, sF, [], upd_same, Nat.le_refl _, (fun kv h => by cases h), fun i j c => absurd c.1 (by omega)⟩ ?_ ?_
    · rintro i σ H1 hi ⟨v5, v6, rfl, s1, hD⟩
      have ei : (0 + (i : Int)) = ((i : Nat) : Int) := by omega
      rw [ei]
      refine ⟨_, rfl, _, _, rfl, rfl, _, rfl, _, _, rfl, rfl, _, _, rfl, ⟨by omega, by omega, by omega, by omega⟩, ?_⟩
      refine for_range (lo := (i : Int) + 1) (n := ((ws.length : Int) + 1 - ((i : Int) + 1)).toNat) (fun k σ H' => ∃ (v6 : Option V), σ = [some v, some (.ref a), some (.str (sd d)), some (.int ws.length), some (.ref F), some (.int (i : Int)), v6] ∧ Same H H' ∧ DSh K ws.length (fun i' j => (i' < i ∧ AllR ws.length i' j) ∨ (i' = i ∧ i < j ∧ j < i + 1 + k)) (fSh b ws d) (13 * i + k) H' F) ⟨_, rfl, s1, hD.mono (fun i' j c => by rcases c with c | c; exact c; omega) (by omega)⟩ ?_ ?_
      · rintro k σ H2 hk ⟨v6, rfl, s2, hD2⟩
        have e2 : (i : Int) + 1 + (k : Int) = ((i + 1 + k : Nat) : Int) := by omega
        rw [e2]
        refine ⟨_, rfl, _, rfl, _, rfl, _, rfl, _, rfl, shapebI_step (d := d) (lo := (i : Int)) (hi := ((i + 1 + k : Nat) : Int)) i (k + 1) (hV.same s2) hO (Nat.le_refl _) (hS.same s2) hW rfl (by omega) (by omega) (by omega) fun u H3 s3 hu => ?_⟩
        refine ⟨_, rfl, _, rfl, _, rfl, (show 2 ≤ sizeLine by decide), fun p np => ?_⟩
        have s4 := same_new (o := .tup [.int (i : Int), .int ((i + 1 + k : Nat) : Int)]) np
        have ef : fSh b ws d i (i + 1 + k) = rowShape b ws i (k + 1) d := by
          unfold fSh
          rw [show i + 1 + k - i = k + 1 by omega]
        rw [← ef] at hu
        obtain ⟨H5, h1, h2, h3⟩ := ((hD2.same s3).same s4).put ⟨by omega, by omega⟩ (by omega) (hu.same s4) p upd_same
        refine ⟨F, H5, rfl, h1, _, rfl, same_kp nF (s2.trans (s3.trans s4)) h2, h3.mono (fun i' j c => ?_) (by omega)⟩
        rcases c with c | ⟨c1, c2, c3⟩
        · exact .inl (.inl c)
        · by_cases z : j = i + 1 + k
          · exact .inr ⟨c1, z⟩
          · exact .inl (.inr ⟨c1, c2, by omega⟩)
      · rintro σ H2 ⟨v6, rfl, s2, hD2⟩
        refine ⟨_, _, rfl, s2, hD2.mono (fun i' j c => ?_) (by omega)⟩
        obtain ⟨c1, c2, c3⟩ := c
        by_cases z : i' = i
        · exact .inr ⟨z, by omega, by omega⟩
        · exact .inl ⟨by omega, c2, c3⟩
    · rintro σ H1 ⟨v5, v6, rfl, s1, hD⟩
      exact ⟨_, rfl, q F H1 nF s1 (hD.mono (fun i' j c => ⟨by have := c.1; have := c.2; omega, c⟩) (by omega))⟩
theorem ok_check_bound (T : Tops K mg) (D_is_part : DefOk P w K mg base 2 "is_part" ps_is_part (spIsPart K)) (D_less : DefOk P w K mg base 1 "less" ps_less (spLess K)) : DefOk P w K mg base 3 "check_bound" ps_check_bound (spCheckB K) := by
  refine T.d_check_bound.ok sc_check_bound (fun vs H Q E h => ?_) (fun f cdv A outer s H vs Q E hr h => ?_)
  · unfold spCheckB at h
    obtain ⟨_, _, rfl, _⟩ := h
    rfl
  · unfold spCheckB at h
    obtain ⟨v, x, rfl, hv, hz, h1, q⟩ := h
    obtain ⟨na_ONE, mg_ONE, h1N⟩ := T.m_ONE
    refine ⟨_, (pss_one (ps_if (PW.pt (pw_or (pt_not (pt_val (pe_callD D_is_part hr (by decide) (by rfl) (pa_cons (pv 0) pa_nil)))) (pw_or1 (pt_val (pe_callD D_less hr (by decide) (by rfl) (pa_cons (pv 0) (pa_cons (pe_glob (v := V.ref na_ONE) (by rfl) mg_ONE rfl) pa_nil))))))) (pss_one ps_never) pss_nil)), ?_⟩
    refine ⟨_, rfl, ispart_step hv ⟨true, rfl, ?_⟩⟩
    refine ⟨_, rfl, less_step hv (h1N H) hz sz_one (Nat.le_refl _) (by decide) ⟨_, rfl, iteDF h1 ?_⟩⟩
    exact q _ _ (Same.refl _) rfl
theorem ok_least_behind (T : Tops K mg) (D_greater : DefOk P w K mg base 2 "greater" ps_greater (spTwo K (fun _ _ => True) fun x y => gr x y)) (D_least_of : DefOk P w K mg base 3 "least_of" ps_least_of (spLeastOf K)) : DefOk P w K mg base 4 "_least_behind" ps__least_behind (spLeastB K) := by
  refine T.d_least_behind.ok sc__least_behind (fun vs H Q E h => ?_) (fun f cdv A outer s H vs Q E hr h => ?_)
  · unfold spLeastB at h
    obtain ⟨_, _, _, _, rfl, _⟩ := h
    rfl
  · unfold spLeastB at h
    obtain ⟨D, n, m, fs, rfl, hD, hn, hz, q⟩ := h
    obtain ⟨na_ONE, mg_ONE, h1N⟩ := T.m_ONE
    refine ⟨_, (pss_cons (ps_set (i := 2) sc__least_behind.nd rfl (.inr rfl) (pe_op op_rep (pe_lst (pa_cons (pe_glob (v := V.ref na_ONE) (by rfl) mg_ONE rfl) pa_nil)) (pe_op op_add (pv 1) pe_int))) (pss_cons (ps_for PassesOwn.never rfl (pi_revR rfl T.m_reversed (prg_1 rfl T.m_range (pv 1))) (pg_name (i := 3) sc__least_behind.nd rfl (.inr rfl)) (pss_one (ps_asg (pe_callD D_least_of hr (by decide) (by rfl) (pa_cons (pe_lc (own := [("end", 4)]) (g := gName 4) (by rfl) sc__least_behind.nd (pi_range2 rfl T.m_range (pa_cons (pe_op op_add (pv 3) pe_int) (pa_cons (pe_op op_add (pv 1) pe_int) pa_nil))) (blkOk_by (own := [("end", 4)]) (N := ["shapes", "many", "found", "begin", "end"]) (sc := defScope s__least_behind) (by decide +kernel)) (fun _ _ _ _ _ => (pg_name (i := 4) sc__least_behind.nd rfl (.inl rfl))) (fun _ _ _ _ _ => pts_nil) (fun _ _ _ _ _ => (pe_callD D_greater hr (by decide) (by rfl) (pa_cons (pe_dget (u1 hr.units) (pv 0) (pe_tup (pa_cons (pv 3) (pa_cons (pv 4) pa_nil))) (fun _ _ => rfl)) (pa_cons (pe_ix (kk_ix (K := K) (r := rIxL) rfl ix_list) (pv 2) (pv 4) (fun _ _ => rfl)) pa_nil))))) pa_nil)) (pg_sub (pv 2) (pv 3) set_list)))) (pss_one (ps_ret (pv 2))))), ?_⟩
    refine ⟨(show 1 ≤ sizeLine by decide), fun p np => ?_⟩
    have sp := same_new (o := .lst [.ref na_ONE]) np
    refine ⟨_, rfl, _, _, rfl, rfl, ?_⟩
    refine ⟨p, (n : Int) + 1, [.ref na_ONE], rfl, rfl, upd_same, by omega, by omega, by have : (1000 : Nat) ≤ sizeLine := (by decide); rw [List.length_singleton]; omega, fun F nF => ?_⟩
    rw [rep1]
    have sF := same_new (o := .lst (List.replicate ((n : Int) + 1).toNat (V.ref na_ONE))) nF
    have nHF : H F = none := sp.free nF
    have hF : (upd (upd H p (.lst [.ref na_ONE])) F (.lst (List.replicate ((n : Int) + 1).toNat (V.ref na_ONE)))) F = some (.lst (List.replicate ((n : Int) + 1).toNat (V.ref na_ONE))) := upd_same
    have s0 := sp.trans sF
    generalize upd (upd H p (.lst [.ref na_ONE])) F (.lst (List.replicate ((n : Int) + 1).toNat (V.ref na_ONE))) = H1 at *
    refine ⟨_, rfl, (n : Int), rfl, by omega, by omega, by omega, by omega, ?_⟩
    refine for_rangeC (n := ((n : Int) - 0).toNat) (fun k σ H' => ∃ (v3 : Option V) (us : List V) (g : Nat → Rat), σ = [some (.ref D), some (.int n), some (.ref F), v3, none] ∧ Same H H' ∧ H' F = some (.lst us) ∧ us.length = n + 1 ∧ Bst fs n (n - k) g ∧ ∀ e, n - k ≤ e → e ≤ n → Sz 3900 (g e) ∧ ∃ v, us[e]? = some v ∧ PtV K H' v (g e)) ⟨none, _, fun _ => 1, rfl, s0, hF, by rw [List.length_replicate]; omega, ⟨rfl, fun b h1 h2 => by omega, fun b h1 h2 => by omega⟩, fun e h1 h2 => ⟨sz_one.mono (by decide), _, by rw [List.getElem?_replicate, if_pos (by omega)], h1N _⟩⟩ ?_ ?_
    · rintro k σ H2 hk ⟨v3, us, g, rfl, s2, hF2, hul, hG, hus⟩
      have hk' : k < n := by omega
      obtain ⟨b, hb⟩ : ∃ b, b = n - 1 - k := ⟨_, rfl⟩
      have ev : (0 : Int) + ((((n : Int) - 0).toNat : Nat) : Int) - 1 + (k : Nat) * (-1) = ((b : Nat) : Int) := by omega
      rw [ev]
      -- the candidates
      refine ⟨_, rfl, _, _, rfl, rfl, _, rfl, _, _, rfl, rfl, (b : Int) + 1, (n : Int) + 1, rfl, ⟨by omega, by omega, by omega, by omega⟩, fun C nC => ?_⟩
      have hD2 := hD.same s2
      refine lc_range (lo := (b : Int) + 1) (n := ((n : Int) + 1 - ((b : Int) + 1)).toNat) (fun i H' => Same H2 H' ∧ ∃ cs, H' C = some (.lst cs) ∧ Al (PtV K H') cs ((List.range i).map fun i => gr (fs b (b + 1 + i)) (g (b + 1 + i)))) ⟨same_new nC, [], upd_same, .nil⟩ ?_ ?_
      · rintro i H' hi ⟨sH, cs, hC, hCs⟩
        have ee : (b : Int) + 1 + (i : Int) = ((b + 1 + i : Nat) : Int) := by omega
        rw [ee]
        obtain ⟨ze, ve, hve, pve⟩ := hus (b + 1 + i) (by omega) (by omega)
        refine ⟨rfl, _, rfl, _, rfl, _, rfl, (show 2 ≤ sizeLine by decide), fun p2 np2 => ?_⟩
        have s3 := same_new (o := .tup [.int (b : Int), .int ((b + 1 + i : Nat) : Int)]) np2
        obtain ⟨w, g1, g2⟩ := ((hD2.same sH).same s3).get (i := b) (j := b + 1 + i) ⟨by omega, by omega⟩ p2 upd_same
        refine ⟨D, w, rfl, g1, ?_⟩
        have hF3 := s3 _ _ (sH _ _ hF2)
        refine ⟨_, rfl, _, rfl, F, us, _, ve, rfl, rfl, SqL.of hF3, atI_nat hve, ?_⟩
        refine two_step g2 ((pve.same sH).same s3) (hz _ _ ⟨by omega, by omega⟩) ze (Nat.le_refl _) (Nat.le_refl _) trivial fun u H4 s4 hu => ?_
        have s34 := s3.trans s4
        have hC4 := s34 _ _ hC
        have hcl := hCs.len
        rw [List.length_map, List.length_range] at hcl
        refine ⟨cs, hC4, small1000 (by omega), same_write nC (sH.trans s34), _, upd_same, ?_⟩
        rw [List.range_succ, List.map_append]
        exact Al.snoc (hu.kp Kp.upd hC4) (Al.mono (fun v x h => h.kp Kp.upd hC4) (Al.mono (fun v x h => h.same s34) hCs))
      rintro H3 ⟨s3, cs, hC, hCs⟩
      have en : ((n : Int) + 1 - ((b : Int) + 1)).toNat = n - b := by omega
      rw [en] at hCs
      have zall : ∀ y ∈ (List.range (n - b)).map fun i => gr (fs b (b + 1 + i)) (g (b + 1 + i)), Sz 3900 y := fun y hy => by
        obtain ⟨i, hi, rfl⟩ := List.mem_map.mp hy
        have hi := List.mem_range.mp hi
        exact sz_gr (hz _ _ ⟨by omega, by omega⟩) (hus _ (by omega) (by omega)).1
      have hne : (List.range (n - b)).map (fun i => gr (fs b (b + 1 + i)) (g (b + 1 + i))) ≠ [] := fun z => by
        have := congrArg List.length z
        rw [List.length_map, List.length_range, List.length_nil] at this
        omega
      refine leastof_step (n := 3900) (SqL.of hC) hCs hne zall (Nat.le_refl _) fun u H4 s4 hu => ?_
      have hmem := leastL_mem hne
      have hle := fun {y} (h : y ∈ (List.range (n - b)).map fun i => gr (fs b (b + 1 + i)) (g (b + 1 + i))) => leastL_le h
      have zu := zall _ hmem
      generalize leastL ((List.range (n - b)).map fun i => gr (fs b (b + 1 + i)) (g (b + 1 + i))) = y at *
      have s24 := s3.trans s4
      have hF4 := s24 _ _ hF2
      refine ⟨_, rfl, _, rfl, ?_⟩
      refine setL_step (j := b) (ys := us.set b u) hF4 (by rw [hul]; exact ixN_n (by omega)) rfl fun H5 hF5 k5 => ?_
      refine ⟨_, us.set b u, fun e => if e = b then y else g e, rfl, same_kp nHF (s2.trans s24) k5, hF5, by rw [List.length_set]; exact hul, ?_, ?_⟩
      · refine ⟨?_, ?_, ?_⟩
        · show (if n = b then y else g n) = 1
          rw [if_neg (by omega)]
          exact hG.e
        · intro b' h1 h2
          by_cases z : b' = b
          · subst z
            obtain ⟨i, hi, e⟩ := List.mem_map.mp hmem
            have hi := List.mem_range.mp hi
            refine ⟨b' + 1 + i, by omega, by omega, ?_⟩
            show (if b' = b' then y else g b') = gr (fs b' (b' + 1 + i)) (if b' + 1 + i = b' then y else g (b' + 1 + i))
            rw [if_pos rfl, if_neg (by omega)]
            exact e.symm
          · obtain ⟨e, a1, a2, a3⟩ := hG.hit b' (by omega) h2
            refine ⟨e, a1, a2, ?_⟩
            show (if b' = b then y else g b') = gr (fs b' e) (if e = b then y else g e)
            rw [if_neg z, if_neg (by omega)]
            exact a3
        · intro b' h1 h2 e a1 a2
          show (if b' = b then y else g b') ≤ gr (fs b' e) (if e = b then y else g e)
          by_cases z : b' = b
          · subst z
            rw [if_pos rfl, if_neg (by omega)]
            refine hle (List.mem_map.mpr ⟨e - (b' + 1), List.mem_range.mpr (by omega), ?_⟩)
            show gr (fs b' (b' + 1 + (e - (b' + 1)))) (g (b' + 1 + (e - (b' + 1)))) = _
            rw [show b' + 1 + (e - (b' + 1)) = e by omega]
          · rw [if_neg z, if_neg (by omega)]
            exact hG.le b' (by omega) h2 e a1 a2
      · intro e h1 h2
        by_cases z : e = b
        · subst z
          refine ⟨by show Sz 3900 (if e = e then y else g e); rw [if_pos rfl]; exact zu, u, by rw [List.getElem?_set_self (by omega)], ?_⟩
          show PtV K H5 u (if e = e then y else g e)
          rw [if_pos rfl]
          exact hu.kp k5 hF4
        · obtain ⟨z1, v, z2, z3⟩ := hus e (by omega) h2
          refine ⟨by show Sz 3900 (if e = b then y else g e); rw [if_neg z]; exact z1, v, by rw [List.getElem?_set_ne (Ne.symm z)]; exact z2, ?_⟩
          show PtV K H5 v (if e = b then y else g e)
          rw [if_neg z]
          exact (z3.same s24).kp k5 hF4
    · rintro σ H2 ⟨v3, us, g, rfl, s2, hF2, hul, hG, hus⟩
      exact ⟨_, rfl, q F us g H2 nHF s2 hF2 (by have e : n - ((n : Int) - 0).toNat = 0 := (by omega); rw [e] at hG; exact hG) fun e he => hus e (by omega) he⟩
theorem ok_best (T : Tops K mg) (D_less : DefOk P w K mg base 1 "less" ps_less (spLess K)) (D_greater : DefOk P w K mg base 2 "greater" ps_greater (spTwo K (fun _ _ => True) fun x y => gr x y)) (D_check_split : DefOk P w K mg base 5 "check_split" ps_check_split (spCheckSp K)) (D_row_shapes : DefOk P w K mg base 4 "row_shapes" ps_row_shapes (spShapesI K)) (D_least_behind : DefOk P w K mg base 4 "_least_behind" ps__least_behind (spLeastB K)) : DefOkS P w K mg base 6 "best" ps_best 2 (.str "down") (spBest K) := by
  refine T.d_best.ok sc_best (fun vs H Q E h => ?_) (fun f cdv A outer s H vs Q E hr h => ?_)
  · unfold spBest at h
    obtain ⟨_, _, _, _, _, rfl, _⟩ := h
    rfl
  · unfold spBest at h
    obtain ⟨v, a, b0, ws, d, rfl, hV, hO, hS, hW, q⟩ := h
    refine ⟨_, (pss_cons (ps_expr (pe_callD D_check_split hr (by decide) (by rfl) (pa_cons (pv 0) (pa_cons (pv 1) (pa_cons (pv 2) pa_nil))))) (pss_cons (ps_set (i := 3) sc_best.nd rfl (.inl rfl) (pe_callD D_row_shapes hr (by decide) (by rfl) (pa_cons (pv 0) (pa_cons (pv 1) (pa_cons (pv 2) pa_nil))))) (pss_cons (ps_set (i := 4) sc_best.nd rfl (.inl rfl) (pe_callD D_least_behind hr (by decide) (by rfl) (pa_cons (pv 3) (pa_cons (pe_callB call_len_seq (by rfl) T.m_len PySem.boot_len (pa_cons (pv 1) pa_nil)) pa_nil)))) (pss_cons (ps_set (i := 5) sc_best.nd rfl (.inl rfl) (pe_lst pa_nil)) (pss_cons (ps_set (i := 6) sc_best.nd rfl (.inl rfl) pe_int) (pss_cons (ps_while PassesOwn.never (pt_cmpR op_lt (pv 6) (pe_callB call_len_seq (by rfl) T.m_len PySem.boot_len (pa_cons (pv 1) pa_nil)) (nomark _)) (pss_cons (ps_set (i := 7) sc_best.nd rfl (.inl rfl) pe_int) (pss_cons (ps_while PassesOwn.never (pt_val (pe_callD D_less hr (by decide) (by rfl) (pa_cons (pe_ix ix_list (pv 4) pe_int (fun _ _ => rfl)) (pa_cons (pe_callD D_greater hr (by decide) (by rfl) (pa_cons (pe_dget (u1 hr.units) (pv 3) (pe_tup (pa_cons (pv 6) (pa_cons (pe_op op_add (pv 6) (pv 7)) pa_nil))) (fun _ _ => rfl)) (pa_cons (pe_ix ix_list (pv 4) (pe_op op_add (pv 6) (pv 7)) (fun _ _ => rfl)) pa_nil))) pa_nil)))) (pss_one (ps_aug (i := 7) sc_best.nd rfl (.inl rfl) pe_int ip_add))) (pss_cons (ps_expr (pe_bm PySem.F.plainAttrs_list PySem.F.slot_list_append PySem.F.type_list_append mt_append (pv 5) (pa_cons (pv 7) pa_nil))) (pss_one (ps_aug (i := 6) sc_best.nd rfl (.inl rfl) (pv 7) ip_add)))))) (pss_one (ps_ret (pe_callTy call_tuple_of (by rfl) T.m_tuple (by decide +kernel) (pa_cons (pv 5) pa_nil)))))))))), ?_⟩
    refine ⟨_, rfl, _, rfl, _, rfl, checksp_step (d := d) hV hO (by decide) hS hW fun H0 s0 => ?_⟩
    refine ⟨_, rfl, _, rfl, _, rfl, shapesI_step (d := d) (hV.same s0) hO (Nat.le_refl _) (hS.same s0) hW fun D H1 nD s1 hD => ?_⟩
    have hn := hW.l1
    have hz := sz_fSh hO hW d (Nat.le_refl _)
    have s01 := s0.trans s1
    have hS1 := hS.same s01
    generalize fSh b0 ws d = f at *
    obtain ⟨n, en⟩ : ∃ n, n = ws.length := ⟨_, rfl⟩
    rw [← en] at hD hz q hn
    refine ⟨_, rfl, _, rfl, a, _, rfl, hS1, leastb_step (n := n) hD hn hz (fun L us g H2 nL s2 hL hG hus => ?_) (by rw [List.length_map, ← en]; rfl)⟩
    have hS2 := hS1.same s2
    have hD2 := hD.same s2
    have s02 := s01.trans s2
    obtain ⟨z0, u0, hu0, pu0⟩ := hus 0 (by omega)
    refine ⟨Nat.zero_le _, fun F nF => ?_⟩
    have sF : Same H2 (upd H2 F (.lst [])) := same_new nF
    have hgl := (best_sok (f := f) (g := g) (M := g 0) (n := n)).len
    refine ⟨fun mm σ H' => ∃ (v7 : Option V) (b : Nat) (ss : List Int), σ = [some v, some (.ref a), some (.str (sd d)), some (.ref D), some (.ref L), some (.ref F), some (.int b), v7] ∧ b ≤ n ∧ g b ≤ g 0 ∧ ss ++ bestL f g (g 0) n b = bestL f g (g 0) n 0 ∧ Same H2 H' ∧ H' F = some (.lst (ss.map V.int)) ∧ mm = n - b, ⟨_, none, 0, [], rfl, by omega, Rat.le_refl, rfl, sF, upd_same, rfl⟩, ?_⟩
    rintro mm σ H3 ⟨v7, b, ss, rfl, hb, hgb, hss, s3, hF, hm⟩
    have hssl := congrArg List.length hss
    rw [List.length_append] at hssl
    refine ⟨_, rfl, _, rfl, a, _, rfl, hS2.same s3, _, _, rfl, rfl, _, rfl, ?_⟩
    refine ite2 (fun hd => ?_) (fun hd => ?_)
    · have hb' : b < n := by
        have := of_decide_eq_true hd
        rw [List.length_map] at this
        omega
      refine ⟨fun σ' H'' => ∃ (v7 : Option V) (b' : Nat) (ss : List Int), σ' = [some v, some (.ref a), some (.str (sd d)), some (.ref D), some (.ref L), some (.ref F), some (.int b'), v7] ∧ b' ≤ n ∧ g b' ≤ g 0 ∧ ss ++ bestL f g (g 0) n b' = bestL f g (g 0) n 0 ∧ Same H2 H'' ∧ H'' F = some (.lst (ss.map V.int)) ∧ n - b' < mm, fun σ' H'' h => ?_, ?_⟩
      · obtain ⟨v7, b', ss, rfl, h1, h2, h3, h4, h5, h6⟩ := h
        exact ⟨_, h6, v7, b', ss, rfl, h1, h2, h3, h4, h5, rfl⟩
      have hon := hG.on hb' hgb
      have hhit := bEnd_hit (f := f) (g := g) (M := g 0) (n := n) (b := b) (n - (b + 1)) (b + 1) (Nat.le_refl _) (by omega) hon
      have hbl := bEnd_le (f := f) (g := g) (M := g 0) (n := n) (b := b) (n - (b + 1)) (b + 1) (Nat.le_refl _) (by omega)
      refine ⟨fun m2 σ H'' => ∃ s : Nat, σ = [some v, some (.ref a), some (.str (sd d)), some (.ref D), some (.ref L), some (.ref F), some (.int b), some (.int s)] ∧ Same H2 H'' ∧ H'' F = some (.lst (ss.map V.int)) ∧ 1 ≤ s ∧ b + s ≤ n ∧ bEnd f g (g 0) n b (b + 1) = bEnd f g (g 0) n b (b + s) ∧ m2 = n - (b + s), ⟨_, 1, rfl, s3, hF, by omega, by omega, rfl, rfl⟩, ?_⟩
      rintro m2 σ H4 ⟨sz, rfl, s4, hF4, hs1, hs2, hg, hm2⟩
      obtain ⟨ze, ue, hue, pue⟩ := hus (b + sz) hs2
      have hL4 := s4 _ _ hL
      refine ⟨_, rfl, L, us, _, u0, rfl, rfl, SqL.of hL4, atI_nat (j := 0) hu0, ?_⟩
      refine ⟨_, rfl, _, rfl, _, rfl, _, rfl, _, _, rfl, rfl, (show 2 ≤ sizeLine by decide), fun p np => ?_⟩
      have sp := same_new (o := .tup [.int (b : Int), .int ((b + sz : Nat) : Int)]) np
      obtain ⟨u1', g1, g2⟩ := ((hD2.same s4).same sp).get (i := b) (j := b + sz) ⟨by omega, by omega⟩ p upd_same
      refine ⟨D, u1', rfl, g1, ?_⟩
      have hL5 := sp _ _ hL4
      have s5 := s4.trans sp
      refine ⟨_, rfl, _, rfl, _, rfl, _, _, rfl, rfl, L, us, ((b + sz : Nat) : Int), ue, rfl, rfl, SqL.of hL5, atI_nat hue, ?_⟩
      have zf := hz b (b + sz) ⟨by omega, by omega⟩
      refine two_step g2 (pue.same s5) zf ze (Nat.le_refl _) (Nat.le_refl _) trivial fun w G e6 hw => ?_
      refine less_step ((pu0.same s5).same e6) hw z0 (sz_gr zf ze) (Nat.le_refl _) (Nat.le_refl _) ?_
      have s6 := s5.trans e6
      have hF6 := e6 _ _ (sp _ _ hF4)
      refine ⟨_, rfl, ?_⟩
      by_cases c : g 0 < gr (f b (b + sz)) (g (b + sz))
      · have hlt : b + sz < n := by
          by_cases z : b + sz = n
          · rw [hg, bEnd_stop (by omega)] at hhit
            exact absurd c hhit
          · omega
        rw [decide_eq_true c]
        refine iteT ?_
        refine ⟨fun σ' H'' => ∃ s : Nat, σ' = [some v, some (.ref a), some (.str (sd d)), some (.ref D), some (.ref L), some (.ref F), some (.int b), some (.int s)] ∧ Same H2 H'' ∧ H'' F = some (.lst (ss.map V.int)) ∧ 1 ≤ s ∧ b + s ≤ n ∧ bEnd f g (g 0) n b (b + 1) = bEnd f g (g 0) n b (b + s) ∧ n - (b + s) < m2, fun σ' H'' h => ?_, ?_⟩
        · obtain ⟨s, rfl, a1, a2, a3, a4, a5, a6⟩ := h
          exact ⟨_, a6, s, rfl, a1, a2, a3, a4, a5, rfl⟩
        refine ⟨_, rfl, _, _, rfl, rfl, sz + 1, rfl, s6, hF6, by omega, by omega, ?_, by omega⟩
        rw [hg]
        exact bEnd_go ⟨hlt, c⟩
      · rw [decide_eq_false c]
        refine iteF ?_
        have he : bEnd f g (g 0) n b (b + 1) = b + sz := hg.trans (bEnd_stop (fun z => c z.2))
        have hgo := bestL_go (f := f) (g := g) (M := g 0) hb'
        rw [he, show b + sz - b = sz by omega] at hgo
        refine ⟨_, rfl, .inl ⟨rfl, _, SqL.of hF6⟩, _, rfl, F, ss.map V.int, _, rfl, rfl, hF6, small1000 (by rw [List.length_map]; omega), ?_⟩
        refine ⟨_, rfl, _, rfl, _, _, rfl, rfl, _, b + sz, ss ++ [(sz : Int)], rfl, hs2, ?_, ?_, same_write nF s6, ?_, by omega⟩
        · have h7 := (gr_ge (f b (b + sz)) (g (b + sz))).2
          grind
        · rw [← hss, hgo, List.append_assoc]
          rfl
        · rw [upd_same, List.map_append]
          rfl
    · have hb' : b = n := by
        have : ¬ (b : Int) < ((ws.map V.int).length : Int) := fun z => hd (decide_eq_true z)
        rw [List.length_map] at this
        omega
      rw [bestL_stop (by omega), List.append_nil] at hss
      refine ⟨_, rfl, F, _, rfl, .inl ⟨SqL.of hF, fun l nl => ?_⟩⟩
      have sl := same_new (o := .tup (ss.map V.int)) nl
      exact q l g _ (s02.trans (s3.trans sl)) hG (by rw [← hss]; exact upd_same)
theorem ok_least (T : Tops K mg) (D_check_split : DefOk P w K mg base 5 "check_split" ps_check_split (spCheckSp K)) (D_row_shapes : DefOk P w K mg base 4 "row_shapes" ps_row_shapes (spShapesI K)) (D_least_behind : DefOk P w K mg base 4 "_least_behind" ps__least_behind (spLeastB K)) : DefOkS P w K mg base 6 "least" ps_least 2 (.str "down") (spLeast K) := by
  refine T.d_least.ok sc_least (fun vs H Q E h => ?_) (fun f cdv A outer s H vs Q E hr h => ?_)
  · unfold spLeast at h
    obtain ⟨_, _, _, _, _, rfl, _⟩ := h
    rfl
  · unfold spLeast at h
    obtain ⟨v, a, b, ws, d, rfl, hV, hO, hS, hW, q⟩ := h
    refine ⟨_, (pss_cons (ps_expr (pe_callD D_check_split hr (by decide) (by rfl) (pa_cons (pv 0) (pa_cons (pv 1) (pa_cons (pv 2) pa_nil))))) (pss_one (ps_ret (pe_ix ix_list (pe_callD D_least_behind hr (by decide) (by rfl) (pa_cons (pe_callD D_row_shapes hr (by decide) (by rfl) (pa_cons (pv 0) (pa_cons (pv 1) (pa_cons (pv 2) pa_nil)))) (pa_cons (pe_callB call_len_seq (by rfl) T.m_len PySem.boot_len (pa_cons (pv 1) pa_nil)) pa_nil))) pe_int (fun _ _ => rfl))))), ?_⟩
    have hl1 := hW.l1
    refine ⟨_, rfl, _, rfl, _, rfl, checksp_step (d := d) hV hO (by decide) (.inl hS) hW fun H0 s0 => ?_⟩
    refine ⟨_, rfl, _, rfl, _, rfl, shapesI_step (d := d) (hV.same s0) hO (Nat.le_refl _) (.inl (seqL_same s0 hS)) hW fun D H1 nD s1 hD => ?_⟩
    have s01 := s0.trans s1
    refine ⟨_, rfl, a, _, rfl, .inl (seqL_same s01 hS), leastb_step (n := ws.length) hD hl1 (sz_fSh hO hW d (Nat.le_refl _)) (fun L us g H2 nL s2 hL hG hus => ?_) (by rw [List.length_map]; rfl)⟩
    obtain ⟨z, u, h1, h2⟩ := hus 0 (by omega)
    exact ⟨L, us, 0, u, rfl, rfl, SqL.of hL, atI_nat (j := 0) h1, q u g H2 (s01.trans s2) hG z h2⟩
theorem ok_greedy (T : Tops K mg) (D_less : DefOk P w K mg base 1 "less" ps_less (spLess K)) (D_check_split : DefOk P w K mg base 5 "check_split" ps_check_split (spCheckSp K)) (D_row_shapes : DefOk P w K mg base 4 "row_shapes" ps_row_shapes (spShapesI K)) : DefOkS P w K mg base 6 "greedy" ps_greedy 2 (.str "down") (spGreedy K) := by
  refine T.d_greedy.ok sc_greedy (fun vs H Q E h => ?_) (fun f cdv A outer s H vs Q E hr h => ?_)
  · unfold spGreedy at h
    obtain ⟨_, _, _, _, _, rfl, _⟩ := h
    rfl
  · unfold spGreedy at h
    obtain ⟨v, a, b0, ws, d, rfl, hV, hO, hS, hW, q⟩ := h
    refine ⟨_, (pss_cons (ps_expr (pe_callD D_check_split hr (by decide) (by rfl) (pa_cons (pv 0) (pa_cons (pv 1) (pa_cons (pv 2) pa_nil))))) (pss_cons (ps_set (i := 3) sc_greedy.nd rfl (.inl rfl) (pe_callD D_row_shapes hr (by decide) (by rfl) (pa_cons (pv 0) (pa_cons (pv 1) (pa_cons (pv 2) pa_nil))))) (pss_cons (ps_set (i := 4) sc_greedy.nd rfl (.inl rfl) (pe_lst pa_nil)) (pss_cons (ps_set (i := 5) sc_greedy.nd rfl (.inl rfl) pe_int) (pss_cons (ps_while PassesOwn.never (pt_cmpR op_lt (pv 5) (pe_callB call_len_seq (by rfl) T.m_len PySem.boot_len (pa_cons (pv 1) pa_nil)) (nomark _)) (pss_cons (ps_set (i := 6) sc_greedy.nd rfl (.inl rfl) (pe_op op_add (pv 5) pe_int)) (pss_cons (ps_while PassesOwn.never (PW.pt (pw_and (pt_cmpR op_lt (pv 6) (pe_callB call_len_seq (by rfl) T.m_len PySem.boot_len (pa_cons (pv 1) pa_nil)) (nomark _)) (pw_and1 (pt_not (pt_val (pe_callD D_less hr (by decide) (by rfl) (pa_cons (pe_dget (u1 hr.units) (pv 3) (pe_tup (pa_cons (pv 5) (pa_cons (pv 6) pa_nil))) (fun _ _ => rfl)) (pa_cons (pe_dget (u1 hr.units) (pv 3) (pe_tup (pa_cons (pv 5) (pa_cons (pe_op op_add (pv 6) pe_int) pa_nil))) (fun _ _ => rfl)) pa_nil)))))))) (pss_one (ps_aug (i := 6) sc_greedy.nd rfl (.inl rfl) pe_int ip_add))) (pss_cons (ps_expr (pe_bm PySem.F.plainAttrs_list PySem.F.slot_list_append PySem.F.type_list_append mt_append (pv 4) (pa_cons (pe_op op_sub (pv 6) (pv 5)) pa_nil))) (pss_one (ps_set (i := 5) sc_greedy.nd rfl (.inl rfl) (pv 6))))))) (pss_one (ps_ret (pe_callTy call_tuple_of (by rfl) T.m_tuple (by decide +kernel) (pa_cons (pv 4) pa_nil))))))))), ?_⟩
    refine ⟨_, rfl, _, rfl, _, rfl, checksp_step (d := d) hV hO (by decide) (.inl hS) hW fun H0 s0 => ?_⟩
    refine ⟨_, rfl, _, rfl, _, rfl, shapesI_step (d := d) (hV.same s0) hO (Nat.le_refl _) (.inl (seqL_same s0 hS)) hW fun D H1 nD s1 hD => ?_⟩
    have hn := hW.l1
    have hz := sz_fSh hO hW d (Nat.le_refl _)
    have s01 := s0.trans s1
    have hS1 := seqL_same s01 hS
    generalize fSh b0 ws d = g at *
    obtain ⟨n, en⟩ : ∃ n, n = ws.length := ⟨_, rfl⟩
    rw [← en] at hD hz q hn
    refine ⟨Nat.zero_le _, fun F nF => ?_⟩
    have sF : Same H1 (upd H1 F (.lst [])) := same_new nF
    have hgl := (greedy_sok g n).len
    refine ⟨fun mm σ H' => ∃ (v6 : Option V) (b : Nat) (ss : List Int), σ = [some v, some (.ref a), some (.str (sd d)), some (.ref D), some (.ref F), some (.int b), v6] ∧ b ≤ n ∧ ss ++ greedyL g n b = greedyL g n 0 ∧ Same H1 H' ∧ H' F = some (.lst (ss.map V.int)) ∧ mm = n - b, ⟨_, none, 0, [], rfl, by omega, rfl, sF, upd_same, rfl⟩, ?_⟩
    rintro mm σ H2 ⟨v6, b, ss, rfl, hb, hss, s2, hF, hm⟩
    have hssl := congrArg List.length hss
    rw [List.length_append] at hssl
    refine ⟨_, rfl, _, rfl, a, _, rfl, .inl (seqL_same s2 hS1), _, _, rfl, rfl, _, rfl, ?_⟩
    refine ite2 (fun hd => ?_) (fun hd => ?_)
    · have hb' : b < n := by
        have := of_decide_eq_true hd
        rw [List.length_map] at this
        omega
      refine ⟨fun σ' H'' => ∃ (v6 : Option V) (b' : Nat) (ss : List Int), σ' = [some v, some (.ref a), some (.str (sd d)), some (.ref D), some (.ref F), some (.int b'), v6] ∧ b' ≤ n ∧ ss ++ greedyL g n b' = greedyL g n 0 ∧ Same H1 H'' ∧ H'' F = some (.lst (ss.map V.int)) ∧ n - b' < mm, fun σ' H'' h => ?_, ?_⟩
      · obtain ⟨v6, b', ss, rfl, h1, h2, h3, h4, h5⟩ := h
        exact ⟨_, h5, v6, b', ss, rfl, h1, h2, h3, h4, rfl⟩
      refine ⟨_, rfl, _, _, rfl, rfl, ?_⟩
      refine ⟨fun m2 σ H'' => ∃ e : Nat, σ = [some v, some (.ref a), some (.str (sd d)), some (.ref D), some (.ref F), some (.int b), some (.int e)] ∧ Same H1 H'' ∧ H'' F = some (.lst (ss.map V.int)) ∧ b + 1 ≤ e ∧ e ≤ n ∧ gEnd g n b (b + 1) = gEnd g n b e ∧ m2 = n - e, ⟨_, b + 1, rfl, s2, hF, by omega, by omega, rfl, rfl⟩, ?_⟩
      rintro m2 σ H3 ⟨e, rfl, s3, hF3, he1, he2, hg, hm2⟩
      have exit : ∀ H4, Same H1 H4 → H4 F = some (.lst (ss.map V.int)) → gEnd g n b (b + 1) = e → ss ++ [(((e - b : Nat) : Nat) : Int)] ++ greedyL g n e = greedyL g n 0 := fun H4 _ _ h => by
        have hgo := greedyL_go (f := g) hb'
        rw [h] at hgo
        rw [← hss, hgo, List.append_assoc]
        rfl
      by_cases c1 : (e : Int) < (n : Int)
      · refine ⟨_, rfl, _, rfl, a, _, rfl, .inl (seqL_same s3 hS1), _, _, rfl, rfl, true, congrArg V.bl (decide_eq_true (by rw [List.length_map]; omega)), ?_⟩
        have hD3 := hD.same s3
        refine ⟨_, rfl, _, rfl, _, rfl, (show 2 ≤ sizeLine by decide), fun p np => ?_⟩
        have sp := same_new (o := .tup [.int (b : Int), .int (e : Int)]) np
        have hD4 := hD3.same sp
        obtain ⟨u1', g1, g2⟩ := hD4.get (i := b) (j := e) ⟨by omega, by omega⟩ p upd_same
        refine ⟨D, u1', rfl, g1, ?_⟩
        refine ⟨_, rfl, _, rfl, _, rfl, _, _, rfl, rfl, (show 2 ≤ sizeLine by decide), fun p2 np2 => ?_⟩
        have sp2 := same_new (o := .tup [.int (b : Int), .int ((e + 1 : Nat) : Int)]) np2
        obtain ⟨u2', g3, g4⟩ := (hD4.same sp2).get (i := b) (j := e + 1) ⟨by omega, by omega⟩ p2 upd_same
        refine ⟨D, u2', rfl, g3, ?_⟩
        refine less_step (g2.same sp2) g4 (hz _ _ ⟨by omega, by omega⟩) (hz _ _ ⟨by omega, by omega⟩) (Nat.le_refl _) (Nat.le_refl _) ?_
        have s5 := s3.trans (sp.trans sp2)
        have hF5 := (sp.trans sp2) _ _ hF3
        refine ⟨_, rfl, ?_⟩
        by_cases c2 : g b e < g b (e + 1)
        · rw [decide_eq_true c2]
          refine iteF ?_
          have hx := exit _ s5 hF5 (hg.trans (gEnd_stop (fun z => z.2 c2)))
          refine ⟨_, rfl, .inl ⟨rfl, _, SqL.of hF5⟩, _, rfl, _, rfl, _, _, rfl, rfl, F, ss.map V.int, _, rfl, rfl, hF5, small1000 (by rw [List.length_map]; omega), ?_⟩
          refine ⟨_, rfl, _, e, ss ++ [((e - b : Nat) : Int)], rfl, he2, hx, same_write nF s5, ?_, by omega⟩
          rw [upd_same, List.map_append]
          show some (HO.lst (_ ++ [V.int ((e : Int) - (b : Int))])) = some (HO.lst (_ ++ [V.int ((e - b : Nat) : Int)]))
          rw [show (e : Int) - (b : Int) = ((e - b : Nat) : Int) by omega]
        · rw [decide_eq_false c2]
          refine iteT ?_
          refine ⟨fun σ' H'' => ∃ e : Nat, σ' = [some v, some (.ref a), some (.str (sd d)), some (.ref D), some (.ref F), some (.int b), some (.int e)] ∧ Same H1 H'' ∧ H'' F = some (.lst (ss.map V.int)) ∧ b + 1 ≤ e ∧ e ≤ n ∧ gEnd g n b (b + 1) = gEnd g n b e ∧ n - e < m2, fun σ' H'' h => ?_, ?_⟩
          · obtain ⟨e, rfl, a1, a2, a3, a4, a5, a6⟩ := h
            exact ⟨_, a6, e, rfl, a1, a2, a3, a4, a5, rfl⟩
          refine ⟨_, rfl, _, _, rfl, rfl, e + 1, rfl, s5, hF5, by omega, by omega, ?_, by omega⟩
          rw [hg]
          exact gEnd_go ⟨by omega, c2⟩
      · refine ⟨_, rfl, _, rfl, a, _, rfl, .inl (seqL_same s3 hS1), _, _, rfl, rfl, false, congrArg V.bl (decide_eq_false (by rw [List.length_map]; omega)), ?_⟩
        refine iteF ?_
        have hx := exit _ s3 hF3 (hg.trans (gEnd_stop (fun z => by have := z.1; omega)))
        refine ⟨_, rfl, .inl ⟨rfl, _, SqL.of hF3⟩, _, rfl, _, rfl, _, _, rfl, rfl, F, ss.map V.int, _, rfl, rfl, hF3, small1000 (by rw [List.length_map]; omega), ?_⟩
        refine ⟨_, rfl, _, e, ss ++ [((e - b : Nat) : Int)], rfl, he2, hx, same_write nF s3, ?_, by omega⟩
        rw [upd_same, List.map_append]
        show some (HO.lst (_ ++ [V.int ((e : Int) - (b : Int))])) = some (HO.lst (_ ++ [V.int ((e - b : Nat) : Int)]))
        rw [show (e : Int) - (b : Int) = ((e - b : Nat) : Int) by omega]
    · have hb' : b = n := by
        have : ¬ (b : Int) < ((ws.map V.int).length : Int) := fun z => hd (decide_eq_true z)
        rw [List.length_map] at this
        omega
      rw [greedyL_stop (by omega), List.append_nil] at hss
      refine ⟨_, rfl, F, _, rfl, .inl ⟨SqL.of hF, fun l nl => ?_⟩⟩
      have sl := same_new (o := .tup (ss.map V.int)) nl
      exact q l _ (s01.trans (s2.trans sl)) (by rw [← hss]; exact upd_same)
theorem ok_beginnings (T : Tops K mg) (D_less : DefOk P w K mg base 1 "less" ps_less (spLess K)) (D_check_split : DefOk P w K mg base 5 "check_split" ps_check_split (spCheckSp K)) (D_row_shapes : DefOk P w K mg base 4 "row_shapes" ps_row_shapes (spShapesI K)) (D_check_bound : DefOk P w K mg base 3 "check_bound" ps_check_bound (spCheckB K)) : DefOkS P w K mg base 6 "beginnings" ps_beginnings 3 (.str "down") (spBegs K) := by
  refine T.d_beginnings.ok sc_beginnings (fun vs H Q E h => ?_) (fun f cdv A outer s H vs Q E hr h => ?_)
  · unfold spBegs at h
    obtain ⟨_, _, _, _, _, _, _, rfl, _⟩ := h
    rfl
  · unfold spBegs at h
    obtain ⟨v, u, a, b0, ws, bound, d, rfl, hV, hO, hI, hW, hu0, zb, hb1', q⟩ := h
    refine ⟨_, (pss_cons (ps_expr (pe_callD D_check_split hr (by decide) (by rfl) (pa_cons (pv 0) (pa_cons (pv 1) (pa_cons (pv 3) pa_nil))))) (pss_cons (ps_expr (pe_callD D_check_bound hr (by decide) (by rfl) (pa_cons (pv 2) pa_nil))) (pss_cons (ps_set (i := 4) sc_beginnings.nd rfl (.inr rfl) (pe_callD D_row_shapes hr (by decide) (by rfl) (pa_cons (pv 0) (pa_cons (pv 1) (pa_cons (pv 3) pa_nil))))) (pss_cons (ps_set (i := 5) sc_beginnings.nd rfl (.inl rfl) (pe_lst (pa_cons pe_int pa_nil))) (pss_cons (ps_for PassesOwn.never rfl (pi_range2 rfl T.m_range (pa_cons pe_int (pa_cons (pe_op op_add (pe_callB call_len_seq (by rfl) T.m_len PySem.boot_len (pa_cons (pv 1) pa_nil)) pe_int) pa_nil))) (pg_name (i := 6) sc_beginnings.nd rfl (.inr rfl)) (pss_one (ps_if (pt_val (pe_callB (cr_any rfl) (by rfl) T.m_any (by decide +kernel) (pa_cons (pe_lc (own := [("begin", 7)]) (g := gName 7) (by rfl) sc_beginnings.nd (pi_list (pv 5)) (blkOk_by (own := [("begin", 7)]) (N := ["box", "weights", "bound", "side", "shapes", "found", "end", "begin"]) (sc := defScope s_beginnings) (by decide +kernel)) (fun _ _ _ _ _ => (pg_name (i := 7) sc_beginnings.nd rfl (.inl rfl))) (fun _ _ _ _ _ => pts_nil) (fun _ _ _ _ _ => (pe_callD D_less hr (by decide) (by rfl) (pa_cons (pe_dget (u1 hr.units) (pv 4) (pe_tup (pa_cons (pv 7) (pa_cons (pv 6) pa_nil))) (fun _ _ => rfl)) (pa_cons (pv 2) pa_nil))))) pa_nil))) (pss_one (ps_expr (pe_bm PySem.F.plainAttrs_list PySem.F.slot_list_append PySem.F.type_list_append mt_append (pv 5) (pa_cons (pv 6) pa_nil)))) pss_nil))) (pss_one (ps_ret (pv 5)))))))), ?_⟩
    have hn := hW.l1
    refine ⟨_, rfl, _, rfl, _, rfl, checksp_step (d := d) hV hO (by decide) hI hW fun Ha sa => ?_⟩
    refine ⟨_, rfl, checkb_step (hu0.same sa) zb (Nat.le_refl _) hb1' fun Hb sb => ?_⟩
    have sab := sa.trans sb
    refine ⟨_, rfl, _, rfl, _, rfl, shapesI_step (d := d) (hV.same sab) hO (Nat.le_refl _) (hI.same sab) hW fun D H1 nD s1 hD => ?_⟩
    have s01 := sab.trans s1
    have hz := sz_fSh hO hW d (Nat.le_refl _)
    have hu := hu0.same s01
    have hI1 := hI.same s01
    generalize fSh b0 ws d = g at *
    refine ⟨(show 1 ≤ sizeLine by decide), fun F nF => ?_⟩
    have sF := same_new (o := .lst [.int 0]) nF
    have hF : (upd H1 F (.lst [.int 0])) F = some (.lst (natV (begL g bound 0))) := upd_same
    refine ⟨_, rfl, a, _, rfl, hI1.same sF, _, _, rfl, rfl, 1, ((ws.map V.int).length : Int) + 1, rfl, ⟨by decide, by decide, by rw [List.length_map]; omega, by rw [List.length_map]; omega⟩, ?_⟩
    rw [List.length_map]
    obtain ⟨n, en⟩ : ∃ n, n = ws.length := ⟨_, rfl⟩
    rw [← en] at hD hz q hn ⊢
    refine for_range (lo := 1) (n := ((n : Int) + 1 - 1).toNat) (fun k σ H' => ∃ v6 : Option V, σ = [some v, some (.ref a), some u, some (.str (sd d)), some (.ref D), some (.ref F), v6, none] ∧ Same H1 H' ∧ H' F = some (.lst (natV (begL g bound k)))) ⟨_, rfl, sF, hF⟩ ?_ ?_
    · rintro k σ H3 hk ⟨v6, rfl, s3, hF3⟩
      have hk' : k < n := by omega
      have ek : (1 : Int) + (k : Int) = ((k + 1 : Nat) : Int) := by omega
      rw [ek]
      have hlen := begL_len g bound k
      have hle := begL_le g bound k
      refine ⟨_, rfl, F, rfl, ⟨_, SqL.of hF3⟩, fun D2 nD2 => ?_⟩
      refine lc_list (xs := natV (begL g bound k)) (fun i H' => Same H3 H' ∧ H' D2 = some (.lst ((((begL g bound k).take i).map fun b => decide (g b (k + 1) < bound)).map V.bl))) ⟨same_new nD2, upd_same⟩ (fun i H' _ z => SqL.of (z.1 _ _ hF3)) ?_ ?_
      · rintro i x H' hx ⟨sH, hD2⟩
        obtain ⟨b1, rfl, hb1, hbm⟩ : ∃ b1 : Nat, x = V.int (b1 : Int) ∧ (begL g bound k)[i]? = some b1 ∧ b1 ∈ begL g bound k := by
          unfold natV at hx
          rw [List.getElem?_map] at hx
          obtain ⟨w1, h1, h2⟩ := Option.map_eq_some_iff.mp hx
          exact ⟨w1, h2.symm, h1, List.mem_of_getElem? h1⟩
        have hb2 := hle b1 hbm
        refine ⟨rfl, _, rfl, _, rfl, _, rfl, (show 2 ≤ sizeLine by decide), fun p np => ?_⟩
        have sp := same_new (o := .tup [.int (b1 : Int), .int ((k + 1 : Nat) : Int)]) np
        have sHp := s3.trans (sH.trans sp)
        obtain ⟨u', g1, g2⟩ := (hD.same sHp).get (i := b1) (j := k + 1) ⟨by omega, by omega⟩ p upd_same
        refine ⟨D, u', rfl, g1, _, rfl, less_step g2 (hu.same sHp) (hz _ _ ⟨by omega, by omega⟩) zb (Nat.le_refl _) (Nat.le_refl _) ?_⟩
        refine ⟨_, sp _ _ hD2, ?_, same_write nD2 (sH.trans sp), ?_⟩
        · rw [List.length_map, List.length_map, List.length_take]
          exact small1000 (by omega)
        · rw [upd_same, List.take_add_one, hb1, List.map_append, List.map_append]
          rfl
      rintro H4 ⟨s4, hD2⟩
      rw [List.take_of_length_le (by unfold natV; rw [List.length_map]; exact Nat.le_refl _)] at hD2
      refine ⟨D2, _, rfl, SqL.of hD2, _, rfl, ?_⟩
      rw [List.any_map, show (id ∘ fun b => decide (g b (k + 1) < bound)) = fun b => decide (g b (k + 1) < bound) from rfl]
      have hF4 := s4 _ _ hF3
      refine iteB (fun e => ?_) (fun e => ?_)
      · refine ⟨_, rfl, .inl ⟨rfl, _, SqL.of hF4⟩, _, rfl, F, natV (begL g bound k), _, rfl, rfl, hF4, small1000 (by unfold natV; rw [List.length_map]; omega), ?_⟩
        refine ⟨_, rfl, same_write nF (s3.trans s4), ?_⟩
        rw [upd_same, begL, if_pos e]
        unfold natV
        rw [List.map_append]
        rfl
      · refine ⟨_, rfl, s3.trans s4, ?_⟩
        rw [begL, if_neg (by rw [e]; exact Bool.false_ne_true)]
        exact hF4
    · rintro σ H3 ⟨v6, rfl, s3, hF3⟩
      have en : ((n : Int) + 1 - 1).toNat = n := by omega
      rw [en] at hF3
      exact ⟨_, rfl, q F H3 (s01.free nF) (s01.trans s3) hF3⟩
theorem ok_is_row (T : Tops K mg) (D_is_number : DefOk P w K mg base 1 "is_number" ps_is_number spIsNum) : DefOk P w K mg base 2 "_is_row" ps__is_row (spIsRow K) := by
  refine T.d_is_row.ok sc__is_row (fun vs H Q E h => ?_) (fun f cdv A outer s H vs Q E hr h => ?_)
  · unfold spIsRow at h
    obtain ⟨_, _, _, _, rfl, _⟩ := h
    rfl
  · unfold spIsRow at h
    obtain ⟨t, n, x, y, rfl, ht, h0, h1, h2, q⟩ := h
    refine ⟨_, (pss_cons (ps_if (PW.pt (pw_or (pt_not (pt_val (pe_callB call_isiI (by rfl) T.m_isinstance (by decide +kernel) (pa_cons (pv 0) (pa_cons (pe_bltn (v := V.ty "tuple") (u := Value.type "tuple") (by rfl) T.m_tuple (by decide +kernel) rfl) pa_nil))))) (pw_or (pt_cmpR op_ne (pe_callB call_len_seq (by rfl) T.m_len PySem.boot_len (pa_cons (pv 0) pa_nil)) pe_int (nomark _)) (pw_or1 (pt_not (pt_val (pe_callB (cr_all rfl) (by rfl) T.m_all (by decide +kernel) (pa_cons (pe_lc (own := [("number", 4)]) (g := gName 4) (by rfl) sc__is_row.nd (pi_tup (pv 0)) (blkOk_by (own := [("number", 4)]) (N := ["thing", "many", "first", "size", "number"]) (sc := defScope s__is_row) (by decide +kernel)) (fun _ _ _ _ _ => (pg_name (i := 4) sc__is_row.nd rfl (.inl rfl))) (fun _ _ _ _ _ => pts_nil) (fun _ _ _ _ _ => (pe_callD D_is_number hr (by decide) (by rfl) (pa_cons (pv 4) pa_nil)))) pa_nil)))))))) (pss_one (ps_ret pe_bl)) pss_nil) (pss_cons (ps_asg (pv 0) (pg_tup rfl (pgs_cons (pg_name (i := 2) sc__is_row.nd rfl (.inl rfl)) (pgs_cons (pg_name (i := 3) sc__is_row.nd rfl (.inl rfl)) pgs_nil)))) (pss_one (ps_ret (pe_and (pe_cmpR op_ge (pv 2) pe_int (nomark _)) (pe_and (pe_cmpR op_ge (pv 3) pe_int (nomark _)) (pe_one (pe_cmpR op_le (pe_op op_add (pv 2) (pv 3)) (pv 1) (nomark _))))))))), ?_⟩
    have hd : Dp K H (.ref t) (ppD (x, y)) := .tup ht (.cons (.int _) (.cons (.int _) .nil))
    refine ⟨_, rfl, isi_step "tuple" "tuple" true hd rfl (by decide +kernel) ⟨_, rfl, ?_⟩⟩
    refine ⟨_, rfl, t, _, rfl, .inr ht, rfl, false, rfl, ?_⟩
    refine ⟨_, rfl, t, rfl, ⟨_, ht⟩, fun D nD => ?_⟩
    refine lc_tup (xs := [.int x, .int y]) (fun i H' => Same H H' ∧ H' D = some (.lst ((List.replicate i true).map V.bl))) ⟨same_new nD, upd_same⟩ (fun i H' _ z => seqT_same z.1 ht) ?_ ?_
    · rintro i z H' hz ⟨sH, hD⟩
      have hi : i < 2 := (List.getElem?_eq_some_iff.mp hz).1
      obtain ⟨k, rfl⟩ : ∃ k, z = V.int k := by
        have := List.mem_of_getElem? hz
        simp only [List.mem_cons, List.not_mem_nil, or_false] at this
        rcases this with rfl | rfl <;> exact ⟨_, rfl⟩
      refine ⟨rfl, _, rfl, isnum_step ?_⟩
      refine ⟨_, hD, ?_, same_write nD sH, ?_⟩
      · rw [List.length_map, List.length_replicate]
        exact small1000 (by omega)
      · rw [upd_same, List.replicate_succ', List.map_append]
        rfl
    rintro H1 ⟨s1, hD⟩
    refine ⟨D, _, rfl, SqL.of hD, _, rfl, ?_⟩
    rw [all_repl]
    refine iteF ?_
    refine ⟨_, rfl, t, _, rfl, seqT_same s1 ht, rfl, _, _, rfl, _, _, rfl, rfl, ?_⟩
    refine ⟨_, rfl, _, _, rfl, rfl, true, congrArg V.bl (decide_eq_true h0), ?_⟩
    refine ⟨_, rfl, _, _, rfl, rfl, true, congrArg V.bl (decide_eq_true h1), ?_⟩
    refine ⟨_, rfl, _, rfl, _, _, rfl, rfl, _, rfl, _, _, rfl, rfl, ?_⟩
    show Q (.bl (decide (x + y ≤ (n : Int)))) H1
    rw [decide_eq_true h2]
    exact q _ s1
theorem ok_check_calm (T : Tops K mg) (D_check_split : DefOk P w K mg base 5 "check_split" ps_check_split (spCheckSp K)) (D_check_bound : DefOk P w K mg base 3 "check_bound" ps_check_bound (spCheckB K)) (D_is_row : DefOk P w K mg base 2 "_is_row" ps__is_row (spIsRow K)) : DefOk P w K mg base 6 "_check_calm" ps__check_calm (spCheckCalm K) := by
  refine T.d_check_calm.ok sc__check_calm (fun vs H Q E h => ?_) (fun f cdv A outer s H vs Q E hr h => ?_)
  · unfold spCheckCalm at h
    obtain ⟨_, _, _, _, _, _, _, _, _, rfl, _⟩ := h
    rfl
  · unfold spCheckCalm at h
    obtain ⟨v, u, a, L, b, ws, M, ps, d, rfl, hV, hO, hI, hW, hu, zM, h1, hL, hk, q⟩ := h
    refine ⟨_, (pss_cons (ps_expr (pe_callD D_check_split hr (by decide) (by rfl) (pa_cons (pv 0) (pa_cons (pv 1) (pa_cons (pv 4) pa_nil))))) (pss_cons (ps_expr (pe_callD D_check_bound hr (by decide) (by rfl) (pa_cons (pv 2) pa_nil))) (pss_cons (ps_if (PW.pt (pw_or (pt_not (pt_val (pe_callB call_isiI (by rfl) T.m_isinstance (by decide +kernel) (pa_cons (pv 3) (pa_cons (pe_bltn (v := V.ty "list") (u := Value.type "list") (by rfl) T.m_list (by decide +kernel) rfl) pa_nil))))) (pw_or1 (pt_not (pt_val (pe_callB (cr_all rfl) (by rfl) T.m_all (by decide +kernel) (pa_cons (pe_lc (own := [("pair", 5)]) (g := gName 5) (by rfl) sc__check_calm.nd (pi_list (pv 3)) (blkOk_by (own := [("pair", 5)]) (N := ["box", "weights", "bound", "kept", "side", "pair"]) (sc := defScope s__check_calm) (by decide +kernel)) (fun _ _ _ _ _ => (pg_name (i := 5) sc__check_calm.nd rfl (.inl rfl))) (fun _ _ _ _ _ => pts_nil) (fun _ _ _ _ _ => (pe_callD D_is_row hr (by decide) (by rfl) (pa_cons (pv 5) (pa_cons (pe_callB (kk_len (K := K) rfl) (by rfl) T.m_len PySem.boot_len (pa_cons (pv 1) pa_nil)) pa_nil))))) pa_nil))))))) (pss_one ps_never) pss_nil) (pss_one (ps_if (pt_cmpR op_lt (pe_callB call_len_dT (by rfl) T.m_len PySem.boot_len (pa_cons (pe_dcT (own := [("pair", 5)]) (g := gName 5) (u1 hr.units) rfl sc__check_calm.nd (pi_list (pv 3)) (blkOk_by (own := [("pair", 5)]) (N := ["box", "weights", "bound", "kept", "side", "pair"]) (sc := defScope s__check_calm) (by decide +kernel)) (fun _ _ _ _ _ => (pg_name (i := 5) sc__check_calm.nd rfl (.inl rfl))) (fun _ _ _ _ _ => (pv 5)) (fun _ _ _ _ _ => pe_bl)) pa_nil)) (pe_callB call_len_seq (by rfl) T.m_len PySem.boot_len (pa_cons (pv 3) pa_nil)) (nomark _)) (pss_one ps_never) pss_nil))))), ?_⟩
    refine ⟨_, rfl, _, rfl, _, rfl, checksp_step hV hO (by decide) hI hW fun H1 s1 => ?_⟩
    refine ⟨_, rfl, checkb_step (hu.same s1) zM (Nat.le_refl _) h1 fun H2 s2 => ?_⟩
    have s12 := s1.trans s2
    have hI := hI.same s12
    have hl1 := hW.l1
    have hkl := hk.l
    obtain ⟨us, hLs, hA⟩ := hL.same s12
    have hul := hA.len
    refine ⟨_, rfl, isi_step "list" "list" true (.lst hLs (ppAll (hA.mono fun v x ⟨t, a, b⟩ => ⟨t, a, SqT.of b⟩))) rfl (by decide +kernel) ⟨_, rfl, ?_⟩⟩
    refine ⟨_, rfl, L, rfl, ⟨_, hLs⟩, fun D nD => ?_⟩
    refine lc_list (xs := us) (fun i H' => Same H2 H' ∧ H' D = some (.lst ((List.replicate i true).map V.bl))) ⟨same_new nD, upd_same⟩ (fun i H' _ z => seqL_same z.1 hLs) ?_ ?_
    · rintro i x H' hx ⟨sH, hD⟩
      obtain ⟨p, hp, t, rfl, ht⟩ := hA.get hx
      have hi := (List.getElem?_eq_some_iff.mp hp).1
      have hr := hk.r p (List.mem_of_getElem? hp)
      refine ⟨rfl, _, rfl, _, rfl, a, _, rfl, hI.same sH, ?_⟩
      rw [List.length_map]
      refine isrow_step (SqT.of (sH _ _ ht)) hr.1 hr.2.1 hr.2.2 fun H4 s4 => ?_
      refine ⟨_, s4 _ _ hD, ?_, same_write nD (sH.trans s4), ?_⟩
      · rw [List.length_map, List.length_replicate]
        exact small1000 (by omega)
      · rw [upd_same, List.replicate_succ', List.map_append]
        rfl
    rintro H3 ⟨s3, hD⟩
    refine ⟨D, _, rfl, SqL.of hD, _, rfl, ?_⟩
    rw [all_repl]
    refine iteF ?_
    have hLs3 := seqL_same s3 hLs
    refine ⟨_, rfl, L, rfl, ⟨_, hLs3⟩, fun D2 nD2 => ?_⟩
    refine dcT_it walk_list (fun i H' => Same H3 H' ∧ ∃ kvs : List (List Key × V), H' D2 = some (.dT kvs) ∧ kvs.map (·.1) = (ps.take i).map fun p => [Sum.inl p.1, Sum.inl p.2]) ⟨same_new nD2, [], upd_same, rfl⟩ (fun i H' _ z => seqL_same z.1 hLs3) ?_ ?_
    · rintro i x H' H4 hi ⟨sH, kvs, hD2, hks⟩ ⟨rfl, hx⟩
      obtain ⟨p, hp, t, rfl, ht⟩ := hA.get hx
      have hil := (List.getElem?_eq_some_iff.mp hp).1
      have hkl2 := congrArg List.length hks
      rw [List.length_map, List.length_map, List.length_take] at hkl2
      refine ⟨rfl, _, rfl, kvs, [Sum.inl p.1, Sum.inl p.2], t, rfl, ?_, hD2, small1000 (by omega), same_write nD2 sH, _, upd_same, ?_⟩
      · exact (s3.trans sH) _ _ ht
      · have new : valV kvs [Sum.inl p.1, Sum.inl p.2] = none := by
          cases e : valV kvs [Sum.inl p.1, Sum.inl p.2] with
          | none => rfl
          | some w =>
            obtain ⟨kv, h1, h2⟩ := valV_mem e
            have h3 : kv.1 ∈ kvs.map (·.1) := List.mem_map.mpr ⟨kv, h1, rfl⟩
            rw [hks, h2] at h3
            obtain ⟨p2, h4, h5⟩ := List.mem_map.mp h3
            simp only [List.cons.injEq, Sum.inl.injEq, and_true] at h5
            have h6 : p2 = p := Prod.ext h5.1 h5.2
            rw [h6] at h4
            obtain ⟨j, hj⟩ := List.getElem?_of_mem h4
            rw [List.getElem?_take] at hj
            split at hj
            · rename_i lt
              obtain ⟨l1, g1⟩ := List.getElem?_eq_some_iff.mp hj
              obtain ⟨l2, g2⟩ := List.getElem?_eq_some_iff.mp hp
              exact absurd (g1.trans g2.symm) (List.pairwise_iff_getElem.mp hk.u j i l1 l2 lt)
            · cases hj
        rw [putK_new _ new, List.map_append, hks, List.take_add_one, hp, List.map_append]
        rfl
    rintro H4 ⟨s4, kvs, hD2, hks⟩
    have hkl2 := congrArg List.length hks
    rw [List.length_map, List.length_map, List.length_take] at hkl2
    refine ⟨D2, kvs, rfl, hD2, _, rfl, L, us, rfl, .inl (seqL_same s4 hLs3), ?_⟩
    refine ⟨_, _, rfl, rfl, _, rfl, iteDF (by omega) ?_⟩
    exact q H4 (s12.trans (s3.trans s4))
theorem ok_costs_behind (T : Tops K mg)  : DefOk P w K mg base 1 "_costs_behind" ps__costs_behind (spBehind K) := by
  refine T.d_costs_behind.ok sc__costs_behind (fun vs H Q E h => ?_) (fun f cdv A outer s H vs Q E hr h => ?_)
  · unfold spBehind at h
    obtain ⟨_, _, _, _, _, rfl, _⟩ := h
    rfl
  · unfold spBehind at h
    obtain ⟨D, n, g, M, ps, rfl, hD, hn, q⟩ := h
    refine ⟨_, (pss_cons (ps_set (i := 2) sc__costs_behind.nd rfl (.inr rfl) (pe_op op_cat (pe_op op_rep (pe_lst (pa_cons pe_non pa_nil)) (pv 1)) (pe_lst (pa_cons pe_int pa_nil)))) (pss_cons (ps_for PassesOwn.never rfl (pi_revR rfl T.m_reversed (prg_1 rfl T.m_range (pv 1))) (pg_name (i := 3) sc__costs_behind.nd rfl (.inr rfl)) (pss_cons (ps_setLc (i := 4) (own := [("end", 5)]) (g := gName 5) (by rfl) sc__costs_behind.nd rfl rfl (sw_true rfl rfl rfl (by decide +kernel)) (pi_range2 rfl T.m_range (pa_cons (pe_op op_add (pv 3) pe_int) (pa_cons (pe_op op_add (pv 1) pe_int) pa_nil))) (blkOk_by (own := [("end", 5)]) (N := ["costs", "many", "found", "begin", "leading", "end"]) (sc := defScope s__costs_behind) (by decide +kernel)) (fun _ _ _ _ _ => (pg_name (i := 5) sc__costs_behind.nd rfl (.inl rfl))) (fun _ _ _ _ _ => (pts_one (PW.pt (pw_and (pt_cmpR op_notN (pe_ix (kk_ix (K := K) (r := rIxL) rfl ix_list) (pv 2) (pv 5) (fun _ _ => rfl)) pe_non (nomark _)) (pw_and1 (pt_cmp (pc_din (u1 hr.units) (pe_tup (pa_cons (pv 3) (pa_cons (pv 5) pa_nil))) (pv 0)) (by rfl))))))) (fun _ _ _ _ _ => (pv 5))) (pss_one (ps_asg (pe_callBK (cr_minDef rfl hr.units) (by rfl) T.m_min (by decide +kernel) (pa_cons (pe_lc (own := [("end", 5)]) (g := gName 5) (by rfl) sc__costs_behind.nd (pi_list (pv 4)) (blkOk_by (own := [("end", 5)]) (N := ["costs", "many", "found", "begin", "leading", "end"]) (sc := defScope s__costs_behind) (by decide +kernel)) (fun _ _ _ _ _ => (pg_name (i := 5) sc__costs_behind.nd rfl (.inl rfl))) (fun _ _ _ _ _ => pts_nil) (fun _ _ _ _ _ => (pe_op op_add (pe_dget (u1 hr.units) (pv 0) (pe_tup (pa_cons (pv 3) (pa_cons (pv 5) pa_nil))) (fun _ _ => rfl)) (pe_ix (kk_ix (K := K) (r := rIxL) rfl ix_list) (pv 2) (pv 5) (fun _ _ => rfl))))) pa_nil) (pk_cons pe_non pk_nil)) (pg_sub (pv 2) (pv 3) set_list))))) (pss_one (ps_ret (pv 2))))), ?_⟩
    refine ⟨(show 1 ≤ sizeLine by decide), fun p np => ?_⟩
    have sp := same_new (o := .lst [.non]) np
    refine ⟨_, rfl, p, (n : Int), [.non], rfl, rfl, upd_same, by omega, by omega, by have : (1000 : Nat) ≤ sizeLine := (by decide); rw [List.length_singleton]; omega, fun F0 nF0 => ?_⟩
    rw [rep1]
    have sF0 := same_new (o := .lst (List.replicate ((n : Int)).toNat V.non)) nF0
    refine ⟨(show 1 ≤ sizeLine by decide), fun p1 np1 => ?_⟩
    have sp1 := same_new (o := .lst [.int 0]) np1
    refine ⟨F0, p1, List.replicate ((n : Int)).toNat V.non, [.int 0], rfl, rfl, sp1 _ _ upd_same, upd_same, by have : (1000 : Nat) ≤ sizeLine := (by decide); rw [List.length_replicate]; show _ + 1 ≤ sizeLine; omega, fun F nF => ?_⟩
    have sF := same_new (o := .lst (List.replicate ((n : Int)).toNat V.non ++ [.int 0])) nF
    have nHF : H F = none := (sp.trans (sF0.trans sp1)).free nF
    have hF : (upd (upd (upd (upd H p (.lst [.non])) F0 (.lst (List.replicate ((n : Int)).toNat V.non))) p1 (.lst [.int 0])) F (.lst (List.replicate ((n : Int)).toNat V.non ++ [.int 0]))) F = some (.lst ((List.replicate n none ++ [some 0] : List (Option Int)).map oV)) := by
      rw [upd_same, List.map_append, List.map_replicate]
      rfl
    have s0 := sp.trans (sF0.trans (sp1.trans sF))
    generalize upd (upd (upd (upd H p (.lst [.non])) F0 (.lst (List.replicate ((n : Int)).toNat V.non))) p1 (.lst [.int 0])) F (.lst (List.replicate ((n : Int)).toNat V.non ++ [.int 0])) = H1 at *
    refine ⟨_, rfl, (n : Int), rfl, by omega, by omega, by omega, by omega, ?_⟩
    refine for_rangeC (n := ((n : Int) - 0).toNat) (fun k σ H' => ∃ (v3 v4 : Option V) (us : List (Option Int)), σ = [some (.ref D), some (.int n), some (.ref F), v3, v4, none] ∧ Same H H' ∧ H' F = some (.lst (us.map oV)) ∧ us.length = n + 1 ∧ Bco g M ps n (n - k) (fun e => us.getD e none)) ⟨none, none, _, rfl, s0, hF, by rw [List.length_append, List.length_replicate]; rfl, ⟨?_, fun b h1 h2 => by omega, fun b h1 h2 => by omega⟩⟩ ?_ ?_
    · try dsimp only
      rw [List.getD_eq_getElem?_getD, List.getElem?_append_right (by rw [List.length_replicate]; exact Nat.le_refl _), List.length_replicate, Nat.sub_self]
      rfl
    · rintro k σ H2 hk ⟨v3, v4, us, rfl, s2, hF2, hul, hB⟩
      have hk' : k < n := by omega
      obtain ⟨b, hb⟩ : ∃ b, b = n - 1 - k := ⟨_, rfl⟩
      have ev : (0 : Int) + ((((n : Int) - 0).toNat : Nat) : Int) - 1 + (k : Nat) * (-1) = ((b : Nat) : Int) := by omega
      rw [ev]
      have hx : ∀ i, i ≤ n → (us.map oV)[i]? = some (oV (us.getD i none)) := fun i hi => by
        rw [List.getElem?_map, List.getD_eq_getElem?_getD, List.getElem?_eq_getElem (by omega)]
        rfl
      refine ⟨_, rfl, _, _, rfl, rfl, _, rfl, _, _, rfl, rfl, (b : Int) + 1, (n : Int) + 1, rfl, ⟨by omega, by omega, by omega, by omega⟩, fun C nC => ?_⟩
      have hD2 := hD.same s2
      refine lc_range (lo := (b : Int) + 1) (n := ((n : Int) + 1 - ((b : Int) + 1)).toNat) (fun i H' => Same H2 H' ∧ H' C = some (.lst (natV (leadsE g M us b i)))) ⟨same_new nC, upd_same⟩ ?_ ?_
      · rintro i H5 hi ⟨s5, hR⟩
        have ee : (b : Int) + 1 + (i : Int) = ((b + 1 + i : Nat) : Int) := by omega
        rw [ee]
        have hAR : AllR n b (b + 1 + i) := ⟨by omega, by omega⟩
        have hll := leadsE_len (f := g) (M := M) us b i
        refine ⟨rfl, _, rfl, _, rfl, F, _, ((b + 1 + i : Nat) : Int), _, rfl, rfl, SqL.of (s5 _ _ hF2), atI_nat (hx (b + 1 + i) (by omega)), rfl, _, rfl, ?_⟩
        cases hw : us.getD (b + 1 + i) none with
        | none =>
          refine iteF ?_
          refine ⟨s5, ?_⟩
          rw [leadsE_succ, if_neg (by unfold leadE; rw [hw]; simp), List.append_nil]
          exact hR
        | some w =>
          refine iteT ?_
          refine ⟨_, rfl, _, rfl, (show 2 ≤ sizeLine by decide), fun p np => ?_⟩
          have sp := same_new (o := .tup [.int (b : Nat), .int ((b + 1 + i : Nat) : Int)]) np
          obtain ⟨kvs, g1, g2, g3, g4⟩ := (hD2.same s5).same sp
          refine ⟨_, rfl, D, _, rfl, DGet.t (k := ky b (b + 1 + i)) g1 upd_same, ?_⟩
          rw [g4 b (b + 1 + i) hAR]
          by_cases c : M < g b (b + 1 + i)
          · rw [if_pos c]
            refine ⟨_, rfl, iteF ?_⟩
            refine ⟨s5.trans sp, ?_⟩
            rw [leadsE_succ, if_neg (by unfold leadE; rw [decide_eq_true c]; simp), List.append_nil]
            exact sp _ _ hR
          · rw [if_neg c]
            refine ⟨_, rfl, iteT ?_⟩
            refine ⟨_, rfl, _, sp _ _ hR, small1000 (by unfold natV; rw [List.length_map]; omega), same_write nC (s5.trans sp), ?_⟩
            rw [leadsE_succ, if_pos (by unfold leadE; rw [hw, decide_eq_false c]; rfl), upd_same]
            unfold natV
            rw [List.map_append]
            rfl
      rintro H5 ⟨s5, hR⟩
      rw [show ((n : Int) + 1 - ((b : Int) + 1)).toNat = n - b by omega] at hR
      have hll := leadsE_len (f := g) (M := M) us b (n - b)
      have hlm : ∀ e, e ∈ leadsE g M us b (n - b) ↔ (b + 1 ≤ e ∧ e < b + 1 + (n - b)) ∧ leadE g M us b e = true := fun e => leadsE_mem
      generalize leadsE g M us b (n - b) = ls at *
      have hF5 := s5 _ _ hF2
      have hD5 := hD2.same s5
      refine ⟨_, rfl, C, rfl, ⟨_, SqL.of hR⟩, fun C3 nC3 => ?_⟩
      refine lc_list (xs := natV ls) (fun i H' => Same H5 H' ∧ H' C3 = some (.lst (((ls.take i).map (valE ps us b)).map V.int))) ⟨same_new nC3, upd_same⟩ (fun i H' _ z => SqL.of (z.1 _ _ hR)) ?_ ?_
      · rintro i x H6 hx0 ⟨s6, hT⟩
        obtain ⟨e0, rfl, he0⟩ : ∃ e0 : Nat, x = V.int (e0 : Int) ∧ ls[i]? = some e0 := by
          unfold natV at hx0
          rw [List.getElem?_map] at hx0
          obtain ⟨e0, h1, h2⟩ := Option.map_eq_some_iff.mp hx0
          exact ⟨e0, h2.symm, h1⟩
        have hil := (List.getElem?_eq_some_iff.mp he0).1
        obtain ⟨⟨r1, r2⟩, r3⟩ := (hlm e0).mp (List.mem_of_getElem? he0)
        obtain ⟨w, hw, hM⟩ := leadE_iff.mp r3
        have hx1 := hx e0 (by omega)
        rw [hw] at hx1
        refine ⟨rfl, _, rfl, _, rfl, _, rfl, (show 2 ≤ sizeLine by decide), fun p np => ?_⟩
        have sp := same_new (o := .tup [.int (b : Nat), .int (e0 : Nat)]) np
        obtain ⟨kvs, g1, g2, g3, g4⟩ := (hD5.same s6).same sp
        have g5 := g4 b e0 ⟨by omega, by omega⟩
        rw [if_neg hM] at g5
        have g6 : DGet (upd H6 p (.tup [.int (b : Nat), .int (e0 : Nat)])) D (.ref p) (some (.int (cst ps (b : Nat) (e0 : Nat)))) := by
          rw [← g5]
          exact DGet.t (k := ky b e0) g1 upd_same
        refine ⟨D, _, rfl, g6, _, rfl, _, rfl, F, _, (e0 : Int), _, rfl, rfl, SqL.of (sp _ _ (s6 _ _ hF5)), atI_nat hx1, _, _, rfl, rfl, ?_⟩
        refine ⟨_, sp _ _ hT, small1000 (by rw [List.length_map, List.length_map, List.length_take]; omega), same_write nC3 (s6.trans sp), ?_⟩
        rw [upd_same, List.take_add_one, he0, List.map_append, List.map_append]
        have e : valE ps us b e0 = cst ps (b : Nat) (e0 : Nat) + w := by
          unfold valE
          rw [hw]
          rfl
        show some (HO.lst _) = some (HO.lst (_ ++ [V.int (valE ps us b e0)]))
        rw [e]
      rintro H6 ⟨s6, hT⟩
      have enl : (natV ls).length = ls.length := by
        unfold natV
        rw [List.length_map]
      rw [enl, List.take_length] at hT
      have hF6 := s6 _ _ hF5
      have s26 := s5.trans s6
      have fin : ∀ x : Option Int, (∀ k, x = some k → ∃ e k', b < e ∧ e ≤ n ∧ ¬ M < g b e ∧ us.getD e none = some k' ∧ k = cst ps b e + k') → (∀ e k', b < e → e ≤ n → ¬ M < g b e → us.getD e none = some k' → ∃ k, x = some k ∧ k ≤ cst ps b e + k') → Bco g M ps n (n - (k + 1)) (fun e => (us.set b x).getD e none) := fun x h1 h2 => by
        rw [show n - (k + 1) = b by omega]
        exact Bco.step (by omega) hul (by rw [show b + 1 = n - k by omega]; exact hB) h1 h2
      refine ⟨C3, _, rfl, rfl, SqL.of hT, fun e => ?_, fun m hm hle => ?_⟩
      · refine ⟨_, rfl, _, rfl, ?_⟩
        refine setL_step (j := b) (ys := (us.set b none).map oV) hF6 (by rw [List.length_map, hul]; exact ixN_n (by omega)) (by rw [List.map_set]; rfl) fun H7 hF7 k7 => ?_
        refine ⟨_, _, us.set b none, rfl, same_kp nHF (s2.trans s26) k7, hF7, by rw [List.length_set]; exact hul, fin none (fun k h => nomatch h) fun e1 k' q1 q2 q3 q4 => ?_⟩
        have hin := (hlm e1).mpr ⟨⟨by omega, by omega⟩, leadE_iff.mpr ⟨k', q4, q3⟩⟩
        have hls : ls = [] := List.map_eq_nil_iff.mp e
        rw [hls] at hin
        cases hin
      · refine ⟨_, rfl, _, rfl, ?_⟩
        refine setL_step (j := b) (ys := (us.set b (some m)).map oV) hF6 (by rw [List.length_map, hul]; exact ixN_n (by omega)) (by rw [List.map_set]; rfl) fun H7 hF7 k7 => ?_
        refine ⟨_, _, us.set b (some m), rfl, same_kp nHF (s2.trans s26) k7, hF7, by rw [List.length_set]; exact hul, fin (some m) (fun k h => ?_) fun e1 k' q1 q2 q3 q4 => ?_⟩
        · cases h
          obtain ⟨e1, he1, rfl⟩ := List.mem_map.mp hm
          obtain ⟨⟨r1, r2⟩, r3⟩ := (hlm e1).mp he1
          obtain ⟨w, hw, hM⟩ := leadE_iff.mp r3
          refine ⟨e1, w, by omega, by omega, hM, hw, ?_⟩
          unfold valE
          rw [hw]
          rfl
        · refine ⟨m, rfl, ?_⟩
          have hin := (hlm e1).mpr ⟨⟨by omega, by omega⟩, leadE_iff.mpr ⟨k', q4, q3⟩⟩
          have := hle _ (List.mem_map.mpr ⟨e1, hin, rfl⟩)
          unfold valE at this
          rw [q4] at this
          exact this
    · rintro σ H2 ⟨v3, v4, us, rfl, s2, hF2, hul, hB⟩
      exact ⟨_, rfl, q F us H2 nHF s2 hF2 hul (by rw [show n - ((n : Int) - 0).toNat = 0 by omega] at hB; exact hB)⟩
theorem ok_is_as_cheap (T : Tops K mg)  : DefOk P w K mg base 1 "_is_as_cheap" ps__is_as_cheap (spCheap K) := by
  refine T.d_is_as_cheap.ok sc__is_as_cheap (fun vs H Q E h => ?_) (fun f cdv A outer s H vs Q E hr h => ?_)
  · unfold spCheap at h
    obtain ⟨_, _, _, _, _, _, _, _, _, _, rfl, _⟩ := h
    rfl
  · unfold spCheap at h
    obtain ⟨D, F, n, b, e, k, g, M, ps, us, rfl, hD, hF, hl, hbe, hen, hk, q⟩ := h
    refine ⟨_, (pss_cons (ps_if (PW.pt (pw_or (pt_cmpR op_isN (pe_ix ix_list (pv 1) (pv 3) (fun _ _ => rfl)) pe_non (nomark _)) (pw_or1 (pt_cmp (pc_dnotin (u1 hr.units) (pe_tup (pa_cons (pv 2) (pa_cons (pv 3) pa_nil))) (pv 0)) (by rfl))))) (pss_one (ps_ret pe_bl)) pss_nil) (pss_one (ps_ret (pe_cmpR op_eq (pe_op op_add (pe_dget (u1 hr.units) (pv 0) (pe_tup (pa_cons (pv 2) (pa_cons (pv 3) pa_nil))) (fun _ _ => rfl)) (pe_ix ix_list (pv 1) (pv 3) (fun _ _ => rfl))) (pe_ix ix_list (pv 1) (pv 2) (fun _ _ => rfl)) (nomark _))))), ?_⟩
    have hx : ∀ i, i ≤ n → (us.map oV)[i]? = some (oV (us.getD i none)) := fun i hi => by
      rw [List.getElem?_map, List.getD_eq_getElem?_getD, List.getElem?_eq_getElem (by omega)]
      rfl
    refine ⟨_, rfl, _, rfl, F, _, (e : Int), _, rfl, rfl, SqL.of hF, atI_nat (hx e hen), rfl, ?_⟩
    cases hw : us.getD e none with
    | none =>
      refine ⟨true, rfl, ?_⟩
      have z := q H (Same.refl _)
      unfold cheap at z
      rw [show (fun e => us.getD e none) e = none from hw] at z
      exact z
    | some w =>
      refine ⟨false, rfl, ?_⟩
      refine ⟨_, rfl, _, rfl, (show 2 ≤ sizeLine by decide), fun p np => ?_⟩
      have sp := same_new (o := .tup [.int (b : Nat), .int (e : Nat)]) np
      obtain ⟨kvs, g1, g2, g3, g4⟩ := hD.same sp
      refine ⟨_, rfl, D, _, rfl, DGet.t (k := ky b e) g1 upd_same, ?_⟩
      have g5 := g4 b e ⟨hbe, hen⟩
      rw [g5]
      by_cases c : M < g b e
      · rw [if_pos c]
        refine ⟨true, rfl, ?_⟩
        have z := q _ sp
        unfold cheap at z
        rw [decide_eq_true c, Bool.not_true, Bool.and_false, Bool.false_and] at z
        exact z
      · rw [if_neg c] at g5 ⊢
        refine ⟨false, rfl, ?_⟩
        refine ⟨_, rfl, _, rfl, _, rfl, (show 2 ≤ sizeLine by decide), fun p2 np2 => ?_⟩
        have sp2 := same_new (o := .tup [.int (b : Nat), .int (e : Nat)]) np2
        have g6 : DGet (upd (upd H p (.tup [.int (b : Nat), .int (e : Nat)])) p2 (.tup [.int (b : Nat), .int (e : Nat)])) D (.ref p2) (some (.int (cst ps (b : Nat) (e : Nat)))) := by
          rw [← g5]
          exact DGet.t (k := ky b e) (sp2 _ _ g1) upd_same
        have hx1 := hx e hen
        have hx2 := hx b (by omega)
        rw [hw] at hx1
        rw [hk] at hx2
        have hF2 := sp2 _ _ (sp _ _ hF)
        refine ⟨D, _, rfl, g6, _, rfl, _, rfl, F, _, (e : Int), _, rfl, rfl, SqL.of hF2, atI_nat hx1, _, _, rfl, rfl, ?_⟩
        refine ⟨_, rfl, _, rfl, F, _, (b : Int), _, rfl, rfl, SqL.of hF2, atI_nat hx2, rfl, ?_⟩
        have z := q _ (sp.trans sp2)
        have ec := cheap_val (f := g) (M := M) (ps := ps) (B := fun e => us.getD e none) (b := b) (e := e) hw hk c
        rw [ec] at z
        exact z
theorem ok_row_cost (T : Tops K mg)  : DefOk P w K mg base 1 "_row_cost" ps__row_cost (spRowCost K) := by
  refine T.d_row_cost.ok sc__row_cost (fun vs H Q E h => ?_) (fun f cdv A outer s H vs Q E hr h => ?_)
  · unfold spRowCost at h
    obtain ⟨_, _, _, _, rfl, _⟩ := h
    rfl
  · unfold spRowCost at h
    obtain ⟨b, e, L, ps, rfl, hL, q⟩ := h
    refine ⟨_, (pss_one (ps_ret (pe_ifExp (pt_cmpR (op_inD (units65 hr)) (pe_tup (pa_cons (pv 0) (pa_cons (pe_op op_sub (pv 1) (pv 0)) pa_nil))) (pv 2) (by rfl)) pe_int pe_int))), ?_⟩
    refine ⟨_, rfl, _, rfl, _, rfl, _, _, rfl, rfl, (show 2 ≤ sizeLine by decide), fun p np => ?_⟩
    have sp := same_new (o := .tup [.int b, .int (e - b)]) np
    refine ⟨_, rfl, inD_any (hL.same sp) (SqT.of upd_same) ⟨_, rfl, ?_⟩⟩
    have z := q _ sp
    unfold cst at z
    by_cases c : (b, e - b) ∈ ps
    · rw [if_pos c] at z
      refine iteDT c ?_
      exact z
    · rw [if_neg c] at z
      refine iteDF c ?_
      exact z
theorem ok_row_costs (T : Tops K mg) (D_less : DefOk P w K mg base 1 "less" ps_less (spLess K)) (D_row_shapes : DefOk P w K mg base 4 "row_shapes" ps_row_shapes (spShapesI K)) (D_row_cost : DefOk P w K mg base 1 "_row_cost" ps__row_cost (spRowCost K)) : DefOk P w K mg base 5 "_row_costs" ps__row_costs (spRowCosts K) := by
  refine T.d_row_costs.ok sc__row_costs (fun vs H Q E h => ?_) (fun f cdv A outer s H vs Q E hr h => ?_)
  · unfold spRowCosts at h
    obtain ⟨_, _, _, _, _, _, _, _, _, rfl, _⟩ := h
    rfl
  · unfold spRowCosts at h
    obtain ⟨v, u, a, L, b, ws, M, ps, d, rfl, hV, hO, hI, hW, hu, zM, hL, q⟩ := h
    refine ⟨_, (pss_cons (ps_set (i := 5) sc__row_costs.nd rfl (.inl rfl) pe_dnewT) (pss_cons (ps_for PassesOwn.never rfl (pi_itemsT (pe_callD D_row_shapes hr (by decide) (by rfl) (pa_cons (pv 0) (pa_cons (pv 1) (pa_cons (pv 4) pa_nil))))) (pg_tup rfl (pgs_cons (pg_tup rfl (pgs_cons (pg_name (i := 6) sc__row_costs.nd rfl (.inl rfl)) (pgs_cons (pg_name (i := 7) sc__row_costs.nd rfl (.inl rfl)) pgs_nil))) (pgs_cons (pg_name (i := 8) sc__row_costs.nd rfl (.inl rfl)) pgs_nil))) (pss_one (ps_if (pt_not (pt_val (pe_callD D_less hr (by decide) (by rfl) (pa_cons (pv 2) (pa_cons (pv 8) pa_nil))))) (pss_one (ps_dput (u1 hr.units) (pv 5) (pe_tup (pa_cons (pv 6) (pa_cons (pv 7) pa_nil))) (pe_callD D_row_cost hr (by decide) (by rfl) (pa_cons (pv 6) (pa_cons (pv 7) (pa_cons (pv 3) pa_nil)))) rfl)) pss_nil))) (pss_one (ps_ret (pv 5))))), ?_⟩
    refine fun F nF => ?_
    have sF := same_new (o := .dT []) nF
    have hF : (upd H F (.dT [])) F = some (.dT []) := upd_same
    refine ⟨_, rfl, _, rfl, _, rfl, shapesI_step (d := d) (hV.same sF) hO (by decide) (hI.same sF) hW fun D H1 nD s1 hD => ?_⟩
    have hF1 := s1 _ _ hF
    have hFD : F ≠ D := fun z => by
      rw [← z, hF] at nD
      cases nD
    obtain ⟨kvs, hk1, hk2, hk3, hk4⟩ := hD
    refine ⟨D, kvs, rfl, hk1, fun one o => ?_⟩
    have sFD : Same H (upd H1 D (.frz o (.dT kvs))) := same_write (by rw [upd_ne hFD.symm] at nD; exact nD) (sF.trans s1)
    have hu1 : PtV K (upd H1 D (.frz o (.dT kvs))) u M := hu.same sFD
    have hL1 : SpD K (upd H1 D (.frz o (.dT kvs))) L ps := hL.same sFD
    have hF2 : (upd H1 D (.frz o (.dT kvs))) F = some (.dT []) := by
      rw [upd_ne hFD]
      exact hF1
    have hv1 : ∀ (i j : Nat) (w : V), AllR ws.length i j → valV kvs (ky i j) = some w → PtV K (upd H1 D (.frz o (.dT kvs))) w (fSh b ws d i j) := fun i j w hij hw => by
      obtain ⟨w', g1, g2⟩ := hk4 i j hij
      rw [hw] at g1
      cases g1
      exact g2.kpD (b := D) (kvs := kvs) Kp.upd hk1
    have hD2 : (upd H1 D (.frz o (.dT kvs))) D = some (.frz o (.dT kvs)) := upd_same
    have zf := sz_fSh hO hW d (by decide)
    generalize upd H1 D (.frz o (.dT kvs)) = G at *
    refine for_it walk_itemsT (fun i σ H' => ∃ (v6 v7 v8 : Option V) (kvs2 : List (List Key × V)), σ = [some v, some (.ref a), some u, some (.ref L), some (.str (sd d)), some (.ref F), v6, v7, v8] ∧ Kp F G H' ∧ H' F = some (.dT kvs2) ∧ kvs2.length ≤ i ∧ (∀ kv ∈ kvs2, ∃ i' j', kv.1 = ky i' j' ∧ AllR ws.length i' j' ∧ ¬ M < fSh b ws d i' j') ∧ ∀ i' j', AllR ws.length i' j' → (∃ kv ∈ kvs.take i, kv.1 = ky i' j') → ¬ M < fSh b ws d i' j' → valV kvs2 (ky i' j') = some (.int (cst ps i' j'))) ⟨none, none, none, [], rfl, Kp.refl _ _, hF2, Nat.le_refl _, (fun kv h => nomatch h), (fun i' j' _ ⟨kv, h, _⟩ => absurd h (by simp))⟩ (fun i σ H' _ ⟨_, _, _, _, _, k, _⟩ => k _ _ hD2 hFD.symm) ?_ ?_
    · rintro i x σ H' H4 hi ⟨v6, v7, v8, kvs2, rfl, k, hF', hl2, hB, hA⟩ ⟨t, ke, w, p, hkv, hp, rfl, nt, rfl⟩
      have hmem := List.mem_of_getElem? hkv
      obtain ⟨i', j', e1, hij⟩ := hk3 _ hmem
      dsimp only at e1
      subst e1
      have hw := hv1 i' j' w hij (valV_at one hkv)
      have hwk := hw.kpD k hF2
      have huk := hu1.kpD k hF2
      have hLk := hL1.kpD k hF2
      have st := same_new (o := .tup [.ref p, w]) nt
      have hp4 := st _ _ hp
      refine ⟨t, _, rfl, SqT.of upd_same, rfl, _, _, rfl, p, _, rfl, SqT.of hp4, rfl, _, _, rfl, _, _, rfl, rfl, _, _, rfl, rfl, ?_⟩
      have hF4 := st _ _ hF'
      have kG : Kp F G (upd H' t (.tup [.ref p, w])) := k.trans (Kp.of st)
      refine ⟨_, rfl, _, rfl, less_step (huk.same st) (hwk.same st) zM (zf _ _ hij) (Nat.le_refl _) (Nat.le_refl _) ⟨_, rfl, ?_⟩⟩
      by_cases c : M < fSh b ws d i' j'
      · rw [decide_eq_true c]
        refine iteF ?_
        refine ⟨_, _, _, kvs2, rfl, kG, hF4, by omega, hB, fun a' b' hab h hM => ?_⟩
        obtain ⟨kv, g1, g2⟩ := h
        rw [List.take_add_one, hkv] at g1
        rcases List.mem_append.mp g1 with g1 | g1
        · exact hA a' b' hab ⟨kv, g1, g2⟩ hM
        · rw [List.mem_singleton.mp (show kv ∈ [(ky i' j', w)] from g1)] at g2
          obtain ⟨r1, r2⟩ := ky_inj g2
          subst r1 r2
          exact absurd c hM
      · rw [decide_eq_false c]
        refine iteT ?_
        refine ⟨_, rfl, _, rfl, _, rfl, rowcost_step (hLk.same st) fun H5 s5 => ?_⟩
        refine ⟨_, rfl, _, rfl, _, rfl, (show 2 ≤ sizeLine by decide), fun p2 np2 => ?_⟩
        have s6 := same_new (o := .tup [.int (i' : Nat), .int (j' : Nat)]) np2
        have hF6 := s6 _ _ (s5 _ _ hF4)
        refine ⟨F, _, rfl, DPut.t (k := ky i' j') hF6 upd_same (small1000 (by omega)), ?_⟩
        refine ⟨_, _, _, _, rfl, kG.trans ((Kp.of (s5.trans s6)).trans Kp.upd), upd_same, Nat.le_trans putK_len' (by omega), ?_, ?_⟩
        · intro kv hkv2
          rcases mem_putK hkv2 with e | e
          · exact ⟨i', j', e, hij, c⟩
          · obtain ⟨kv', g1, g2⟩ := List.mem_map.mp e
            obtain ⟨a', b', g3, g4⟩ := hB kv' g1
            exact ⟨a', b', by rw [← g2]; exact g3, g4⟩
        · intro a' b' hab h hM
          rw [valV_put]
          by_cases e : ky a' b' = ky i' j'
          · obtain ⟨r1, r2⟩ := ky_inj e
            subst r1 r2
            rw [if_pos rfl]
          · rw [if_neg e]
            obtain ⟨kv, g1, g2⟩ := h
            rw [List.take_add_one, hkv] at g1
            rcases List.mem_append.mp g1 with g1 | g1
            · exact hA a' b' hab ⟨kv, g1, g2⟩ hM
            · rw [List.mem_singleton.mp (show kv ∈ [(ky i' j', w)] from g1)] at g2
              exact absurd g2.symm e
    · rintro σ H' ⟨v6, v7, v8, kvs2, rfl, k, hF', hl2, hB, hA⟩
      refine ⟨_, rfl, q F H' nF ?_ ⟨kvs2, hF', by omega, fun kv h => ?_, fun i j hij => ?_⟩⟩
      · intro c ob hc
        exact k _ _ (sFD _ _ hc) (ne_of_none hc nF)
      · obtain ⟨i', j', g1, g2, _⟩ := hB kv h
        exact ⟨i', j', g1, g2⟩
      · by_cases c : M < fSh b ws d i j
        · rw [if_pos c]
          cases e : valV kvs2 (ky i j) with
          | none => rfl
          | some w =>
            obtain ⟨kv, g1, g2⟩ := valV_mem e
            obtain ⟨i', j', g3, g4, g5⟩ := hB kv g1
            rw [g2] at g3
            obtain ⟨r1, r2⟩ := ky_inj g3
            subst r1 r2
            exact absurd c g5
        · rw [if_neg c]
          obtain ⟨w, g1, _⟩ := hk4 i j hij
          obtain ⟨kv, g2, g3⟩ := valV_mem g1
          exact hA i j hij ⟨kv, by rw [List.take_length]; exact g2, g3⟩ c
theorem ok_calm (T : Tops K mg) (D_check_calm : DefOk P w K mg base 6 "_check_calm" ps__check_calm (spCheckCalm K)) (D_costs_behind : DefOk P w K mg base 1 "_costs_behind" ps__costs_behind (spBehind K)) (D_is_as_cheap : DefOk P w K mg base 1 "_is_as_cheap" ps__is_as_cheap (spCheap K)) (D_row_costs : DefOk P w K mg base 5 "_row_costs" ps__row_costs (spRowCosts K)) : DefOkS P w K mg base 7 "calm" ps_calm 4 (.str "down") (spCalm K) := by
  refine T.d_calm.ok sc_calm (fun vs H Q E h => ?_) (fun f cdv A outer s H vs Q E hr h => ?_)
  · unfold spCalm at h
    obtain ⟨_, _, _, _, _, _, _, _, _, rfl, _⟩ := h
    rfl
  · unfold spCalm at h
    obtain ⟨v, u, a, L, b0, ws, M, ps, d, rfl, hV, hO, hI, hW, hu, zM, h1, hL, hk, q⟩ := h
    refine ⟨_, (pss_cons (ps_expr (pe_callD D_check_calm hr (by decide) (by rfl) (pa_cons (pv 0) (pa_cons (pv 1) (pa_cons (pv 2) (pa_cons (pv 3) (pa_cons (pv 4) pa_nil))))))) (pss_cons (ps_set (i := 5) sc_calm.nd rfl (.inl rfl) (pe_callB call_len_seq (by rfl) T.m_len PySem.boot_len (pa_cons (pv 1) pa_nil))) (pss_cons (ps_set (i := 6) sc_calm.nd rfl (.inl rfl) (pe_callD D_row_costs hr (by decide) (by rfl) (pa_cons (pv 0) (pa_cons (pv 1) (pa_cons (pv 2) (pa_cons (pv 3) (pa_cons (pv 4) pa_nil))))))) (pss_cons (ps_set (i := 7) sc_calm.nd rfl (.inl rfl) (pe_callD D_costs_behind hr (by decide) (by rfl) (pa_cons (pv 6) (pa_cons (pv 5) pa_nil)))) (pss_cons (ps_if (pt_cmpR op_isN (pe_ix ix_list (pv 7) pe_int (fun _ _ => rfl)) pe_non (nomark _)) (pss_one (ps_ret pe_non)) pss_nil) (pss_cons (ps_set (i := 8) sc_calm.nd rfl (.inl rfl) (pe_lst pa_nil)) (pss_cons (ps_set (i := 9) sc_calm.nd rfl (.inl rfl) pe_int) (pss_cons (ps_while PassesOwn.never (pt_cmpR op_lt (pv 9) (pv 5) (nomark _)) (pss_cons (ps_set (i := 10) sc_calm.nd rfl (.inl rfl) (pe_op op_add (pv 9) pe_int)) (pss_cons (ps_while PassesOwn.never (pt_not (pt_val (pe_callD D_is_as_cheap hr (by decide) (by rfl) (pa_cons (pv 6) (pa_cons (pv 7) (pa_cons (pv 9) (pa_cons (pv 10) pa_nil))))))) (pss_one (ps_aug (i := 10) sc_calm.nd rfl (.inl rfl) pe_int ip_add))) (pss_cons (ps_expr (pe_bm PySem.F.plainAttrs_list PySem.F.slot_list_append PySem.F.type_list_append mt_append (pv 8) (pa_cons (pe_op op_sub (pv 10) (pv 9)) pa_nil))) (pss_one (ps_set (i := 9) sc_calm.nd rfl (.inl rfl) (pv 10))))))) (pss_one (ps_ret (pe_tup (pa_cons (pe_callTy call_tuple_of (by rfl) T.m_tuple (by decide +kernel) (pa_cons (pv 8) pa_nil)) (pa_cons (pe_ix ix_list (pv 7) pe_int (fun _ _ => rfl)) pa_nil))))))))))))), ?_⟩
    refine ⟨_, rfl, _, rfl, _, rfl, _, rfl, _, rfl, checkcalm_step (d := d) hV hO (Nat.le_refl _) hI hW hu zM (Nat.le_refl _) h1 hL hk fun H1 s1 => ?_⟩
    refine ⟨_, rfl, a, _, rfl, hI.same s1, ?_⟩
    rw [List.length_map]
    refine ⟨_, rfl, _, rfl, _, rfl, _, rfl, _, rfl, rowcosts_step (d := d) (hV.same s1) hO (Nat.le_refl _) (hI.same s1) hW (hu.same s1) zM (Nat.le_refl _) (hL.same s1).spD fun D H2 nD s2 hD => ?_⟩
    have hl1 := hW.l1
    have s12 := s1.trans s2
    generalize fSh b0 ws d = g at *
    obtain ⟨n, en⟩ : ∃ n, n = ws.length := ⟨_, rfl⟩
    rw [← en] at hD q hl1 ⊢
    refine ⟨_, rfl, _, rfl, behind_step (n := n) hD hl1 fun F us H3 nF s3 hF hul hB => ?_⟩
    have s13 := s12.trans s3
    have hD := hD.same s3
    have hx : ∀ i, i ≤ n → (us.map oV)[i]? = some (oV (us.getD i none)) := fun i hi => by
      rw [List.getElem?_map, List.getD_eq_getElem?_getD, List.getElem?_eq_getElem (by omega)]
      rfl
    refine ⟨_, rfl, F, _, 0, _, rfl, rfl, SqL.of hF, atI_nat (j := 0) (hx 0 (by omega)), rfl, _, rfl, ?_⟩
    cases hk0 : us.getD 0 none with
    | none =>
      refine iteT ?_
      exact (q _ hB).1 hk0 H3 s13
    | some k =>
      refine iteF ?_
      have hq := (q _ hB).2 k hk0
      have hx0 := hx 0 (by omega)
      rw [hk0] at hx0
      obtain ⟨B, eB⟩ : ∃ B : Nat → Option Int, B = fun e => us.getD e none := ⟨_, rfl⟩
      rw [← eB] at hB hq
      have hgl := (calm_sok (f := g) (M := M) (ps := ps) (B := B) (n := n)).len
      refine ⟨Nat.zero_le _, fun S nS => ?_⟩
      have sS : Same H3 (upd H3 S (.lst [])) := same_new nS
      refine ⟨fun mm σ H' => ∃ (v10 : Option V) (b : Nat) (ss : List Int), σ = [some v, some (.ref a), some u, some (.ref L), some (.str (sd d)), some (.int n), some (.ref D), some (.ref F), some (.ref S), some (.int b), v10] ∧ b ≤ n ∧ (∃ kb, B b = some kb) ∧ ss ++ calmL g M ps B n b = calmL g M ps B n 0 ∧ Same H3 H' ∧ H' S = some (.lst (ss.map V.int)) ∧ mm = n - b, ⟨_, none, 0, [], rfl, by omega, ⟨k, by rw [eB]; exact hk0⟩, rfl, sS, upd_same, rfl⟩, ?_⟩
      rintro mm σ H4 ⟨v10, b, ss, rfl, hb, ⟨kb, hkb⟩, hss, s4, hS, hm⟩
      have hssl := congrArg List.length hss
      rw [List.length_append] at hssl
      refine ⟨_, rfl, _, rfl, _, _, rfl, rfl, _, rfl, ?_⟩
      refine ite2 (fun hd => ?_) (fun hd => ?_)
      · have hb' : b < n := by
          have := of_decide_eq_true hd
          omega
        refine ⟨fun σ' H'' => ∃ (v10 : Option V) (b' : Nat) (ss : List Int), σ' = [some v, some (.ref a), some u, some (.ref L), some (.str (sd d)), some (.int n), some (.ref D), some (.ref F), some (.ref S), some (.int b'), v10] ∧ b' ≤ n ∧ (∃ kb, B b' = some kb) ∧ ss ++ calmL g M ps B n b' = calmL g M ps B n 0 ∧ Same H3 H'' ∧ H'' S = some (.lst (ss.map V.int)) ∧ n - b' < mm, fun σ' H'' h => ?_, ?_⟩
        · obtain ⟨v10, b', ss, rfl, h1, h2, h3, h4, h5, h6⟩ := h
          exact ⟨_, h6, v10, b', ss, rfl, h1, h2, h3, h4, h5, rfl⟩
        have hon := hB.cheap hb' hkb
        have hhit := cEnd_hit (f := g) (M := M) (ps := ps) (B := B) (n := n) (b := b) (n - (b + 1)) (b + 1) (Nat.le_refl _) (by omega) hon
        refine ⟨_, rfl, _, _, rfl, rfl, ?_⟩
        refine ⟨fun m2 σ H'' => ∃ e : Nat, σ = [some v, some (.ref a), some u, some (.ref L), some (.str (sd d)), some (.int n), some (.ref D), some (.ref F), some (.ref S), some (.int b), some (.int e)] ∧ Same H3 H'' ∧ H'' S = some (.lst (ss.map V.int)) ∧ b < e ∧ e ≤ n ∧ cEnd g M ps B n b (b + 1) = cEnd g M ps B n b e ∧ m2 = n - e, ⟨_, b + 1, rfl, s4, hS, by omega, by omega, rfl, rfl⟩, ?_⟩
        rintro m2 σ H5 ⟨e, rfl, s5, hS5, hbe, hen, hg, hm2⟩
        refine ⟨_, rfl, _, rfl, _, rfl, _, rfl, cheap_step (us := us) (hD.same s5) (s5 _ _ hF) hul hbe hen (by rw [eB] at hkb; exact hkb) fun H6 s6 => ?_⟩
        rw [← eB]
        have hS6 := s6 _ _ hS5
        have s36 := s5.trans s6
        refine ⟨_, rfl, ?_⟩
        cases hc : cheap g M ps B b e with
        | false =>
          have hlt : e < n := by
            by_cases z : e = n
            · rw [hg, cEnd_stop (by omega), hc] at hhit
              cases hhit
            · omega
          refine iteT ?_
          refine ⟨fun σ' H'' => ∃ e : Nat, σ' = [some v, some (.ref a), some u, some (.ref L), some (.str (sd d)), some (.int n), some (.ref D), some (.ref F), some (.ref S), some (.int b), some (.int e)] ∧ Same H3 H'' ∧ H'' S = some (.lst (ss.map V.int)) ∧ b < e ∧ e ≤ n ∧ cEnd g M ps B n b (b + 1) = cEnd g M ps B n b e ∧ n - e < m2, fun σ' H'' h => ?_, ?_⟩
          · obtain ⟨e, rfl, a1, a2, a3, a4, a5, a6⟩ := h
            exact ⟨_, a6, e, rfl, a1, a2, a3, a4, a5, rfl⟩
          refine ⟨_, rfl, _, _, rfl, rfl, e + 1, rfl, s36, hS6, by omega, by omega, ?_, by omega⟩
          rw [hg]
          exact cEnd_go ⟨hlt, hc⟩
        | true =>
          refine iteF ?_
          have he : cEnd g M ps B n b (b + 1) = e := hg.trans (cEnd_stop (fun z => by rw [hc] at z; cases z.2))
          have hgo := calmL_go (f := g) (M := M) (ps := ps) (B := B) hb'
          rw [he] at hgo
          obtain ⟨k', q1, q2, q3⟩ := cheap_some hc
          refine ⟨_, rfl, .inl ⟨rfl, _, SqL.of hS6⟩, _, rfl, _, rfl, _, _, rfl, rfl, S, ss.map V.int, _, rfl, rfl, hS6, small1000 (by rw [List.length_map]; omega), ?_⟩
          refine ⟨_, rfl, _, e, ss ++ [((e - b : Nat) : Int)], rfl, hen, ⟨k', q1⟩, ?_, same_write nS s36, ?_, by omega⟩
          · rw [← hss, hgo, List.append_assoc]
            rfl
          · rw [upd_same, List.map_append, show ((e - b : Nat) : Int) = (e : Int) - b by omega]
            rfl
      · have hb' : b = n := by
          have : ¬ (b : Int) < (n : Int) := fun z => hd (decide_eq_true z)
          omega
        rw [calmL_stop (by omega), List.append_nil] at hss
        refine ⟨_, rfl, S, _, rfl, .inl ⟨SqL.of hS, fun l nl => ?_⟩⟩
        have sl := same_new (o := .tup (ss.map V.int)) nl
        refine ⟨_, rfl, F, _, 0, _, rfl, rfl, SqL.of (sl _ _ (s4 _ _ hF)), atI_nat (j := 0) hx0, (show 2 ≤ sizeLine by decide), fun p np => ?_⟩
        have sp := same_new (o := .tup [.ref l, .int k]) np
        exact hq p l _ (s13.trans (s4.trans (sl.trans sp))) upd_same (by rw [← hss]; exact sp _ _ upd_same)
theorem ok_law_bag (T : Tops K mg)  : DefOk P w K mg base 1 "_law_bag" ps__law_bag (spBag K) := by
  refine T.d_law_bag.ok sc__law_bag (fun vs H Q E h => ?_) (fun f cdv A outer s H vs Q E hr h => ?_)
  · obtain ⟨a, ns, rfl, _⟩ := h
    rfl
  · obtain ⟨a, ns, rfl, hS, hlen, q⟩ := h
    refine ⟨_, (pss_one (ps_ret (pe_lst (pa_cons (pe_callTy call_list_of (by rfl) T.m_list (by decide +kernel) (pa_cons (pe_slice sl_list (pv 0) po_none (po_some pe_int)) pa_nil)) (pa_cons pe_int (pa_cons pe_int (pa_cons (pe_op op_add pe_int (pe_callB call_len_seq (by rfl) T.m_len PySem.boot_len (pa_cons (pe_slice sl_list (pv 0) po_none (po_some pe_int)) pa_nil))) (pa_cons pe_int pa_nil)))))))), ?_⟩
    have ec : cutV (ns.map V.int) none (some 63) = ns.map V.int := cut63 (by rw [List.length_map]; exact hlen)
    refine ⟨_, rfl, _, rfl, a, _, rfl, hS, fun p np => ⟨p, _, rfl, .inl (SqL.of upd_same), fun l nl => ?_⟩⟩
    rw [ec] at nl ⊢
    have s1 : Same H (upd H p (.lst (ns.map V.int))) := same_new np
    have s2 := s1.trans (same_new (o := .lst (ns.map V.int)) nl)
    refine ⟨_, rfl, _, rfl, a, _, rfl, s2.seq hS, fun p2 np2 => ⟨p2, _, rfl, .inl (SqL.of upd_same), ?_⟩⟩
    refine ⟨_, _, rfl, rfl, (show 5 ≤ sizeLine by decide), fun b nb => q b _ ?_ ?_ ?_⟩
    · exact (s2.trans (same_new np2)).free nb
    · exact (s2.trans (same_new np2)).trans (same_new nb)
    · have hl0 : (upd (upd H p (.lst (ns.map V.int))) l (.lst (ns.map V.int))) l = some (.lst (ns.map V.int)) := upd_same
      have s3 := (same_new (o := .lst (cutV (ns.map V.int) none (some 63))) np2).trans (same_new (o := HO.lst [V.ref l, V.int 0, V.int 0, V.int (9103 + ((cutV (ns.map V.int) none (some 63)).length : Nat)), V.int 0]) nb)
      refine ⟨l, ns, 0, 0, _, 0, upd_same, s3 _ _ hl0, ?_, hlen, Int.le_refl 0, ?_, ?_⟩
      · exact ne_of_none (same_new np2 _ _ hl0) nb
      all_goals
        rw [ec, List.length_map]
        omega
theorem ok_law_get (T : Tops K mg)  : DefOk P w K mg base 1 "_law_get" ps__law_get spGet := by
  refine T.d_law_get.ok sc__law_get (fun vs H Q E h => ?_) (fun f cdv A outer s H vs Q E hr h => ?_)
  · obtain ⟨a, c, rfl, _⟩ := h
    rfl
  · obtain ⟨b, m, rfl, hB, hm0, hm1, q⟩ := h
    refine ⟨_, (C8.pss_cut (ps_if (PW.pt (pw_and (pt_cmpR op_lt (pe_ix ix_list (pv 0) pe_int (fun _ _ => rfl)) (pv 1) (nomark _)) (pw_and1 (pt_cmpR op_lt (pe_ix ix_list (pv 0) pe_int (fun _ _ => rfl)) (pe_callB call_len_seq (by rfl) T.m_len PySem.boot_len (pa_cons (pe_ix ix_list (pv 0) pe_int (fun _ _ => rfl)) pa_nil)) (nomark _))))) (pss_cons (ps_set (i := 2) sc__law_get.nd rfl (.inl rfl) (pe_ix ix_list (pe_ix ix_list (pv 0) pe_int (fun _ _ => rfl)) (pe_ix ix_list (pv 0) pe_int (fun _ _ => rfl)) (fun _ _ => rfl))) (pss_cons (ps_asg (pe_op op_add (pe_ix ix_list (pv 0) pe_int (fun _ _ => rfl)) pe_int) (pg_sub (pv 0) pe_int set_list)) (pss_cons (ps_asg (pe_ifExp (pt_cmpR op_ge (pv 2) (pe_op op_pow pe_int pe_int) (nomark _)) (pe_op op_sub (pv 2) (pe_op op_pow pe_int pe_int)) pe_int) (pg_sub (pv 0) pe_int set_list)) (pss_one (ps_asg (pe_op op_mod (pe_op op_add (pe_op op_add (pe_op op_mulA (pe_ix ix_list (pv 0) pe_int (fun _ _ => rfl)) pe_int) (pe_op op_mulA (pv 2) pe_int)) (pe_op op_mulA pe_int (pe_ix ix_list (pv 0) pe_int (fun _ _ => rfl)))) pe_int) (pg_sub (pv 0) pe_int set_list)))))) pss_nil) (pss_cons (ps_if (pt_cmpR op_ge (pe_ix ix_list (pv 0) pe_int (fun _ _ => rfl)) (pv 1) (nomark _)) (pss_cons (ps_set (i := 3) sc__law_get.nd rfl (.inl rfl) (pe_op op_mod (pe_ix ix_list (pv 0) pe_int (fun _ _ => rfl)) (pv 1))) (pss_cons (ps_asg (pe_op op_fdiv (pe_ix ix_list (pv 0) pe_int (fun _ _ => rfl)) (pv 1)) (pg_sub (pv 0) pe_int set_list)) (pss_one (ps_ret (pv 3))))) pss_nil) (pss_cons (ps_asg (pe_op op_add (pe_ix ix_list (pv 0) pe_int (fun _ _ => rfl)) pe_int) (pg_sub (pv 0) pe_int set_list)) (pss_cons (ps_set (i := 4) sc__law_get.nd rfl (.inl rfl) (pe_ix ix_list (pv 0) pe_int (fun _ _ => rfl))) (pss_cons (ps_asg (pe_op op_mod (pe_op op_add (pe_op op_add (pe_op op_add (pe_op op_mulA (pv 4) (pv 4)) (pe_op op_mulA pe_int (pv 4))) (pe_op op_mulA pe_int (pe_ix ix_list (pv 0) pe_int (fun _ _ => rfl)))) pe_int) pe_int) (pg_sub (pv 0) pe_int set_list)) (pss_one (ps_ret (pe_op op_mod (pe_op op_add (pe_op op_fdiv (pe_ix ix_list (pv 0) pe_int (fun _ _ => rfl)) pe_int) (pe_op op_mulA (pe_op op_fdiv (pv 4) pe_int) pe_int)) (pv 1))))))))), ?_⟩
    obtain ⟨c, ns, p, r, x, z, hb, hc, hcb, hl, hp, hx0, hx1⟩ := id hB
    refine ⟨fun σ' H' => ∃ v2, σ' = [some (.ref b), some (.int m), v2, none, none] ∧ Bag H' b ∧ KpG b H H', ?_, ?_⟩
    · repeat (walk_at "rd")
      refine iteD (fun hd => ?_) (fun hd => ?_)
      · repeat (walk_at "rd")
        refine iteD (fun hd2 => ?_) (fun hd2 => ?_)
        · rw [List.length_map] at hd2
          have hp2 : p.toNat < ns.length := by omega
          have ecell : atI (ns.map V.int) p = some (.int ns[p.toNat]) := by
            have e : p = ((p.toNat : Nat) : Int) := by omega
            have h := atI_nat (xs := ns.map V.int) (j := p.toNat) (v := .int ns[p.toNat]) (by rw [List.getElem?_map, List.getElem?_eq_getElem hp2]; rfl)
            rw [← e] at h
            exact h
          repeat (walk_at "rd")
          refine setL_step (ys := [.ref c, .int (p + 1), .int r, .int x, .int z]) hb (by rfl) (by rfl) fun H1 hb1 k1 => ?_
          repeat (walk_at "rd")
          refine iteD (fun hd3 => ?_) (fun hd3 => ?_)
          all_goals
            repeat (walk_at "rd")
            refine setL_step (ys := [.ref c, .int (p + 1), .int _, .int x, .int z]) hb1 (by rfl) (by rfl) fun H2 hb2 k2 => ?_
            repeat (walk_at "rd")
            refine setL_step (ys := [.ref c, .int (p + 1), .int _, .int _, .int z]) hb2 (by rfl) (by rfl) fun H3 hb3 k3 => ?_
            exact ⟨_, rfl, ⟨c, ns, p + 1, _, _, z, hb3, k3 _ _ (k2 _ _ (k1 _ _ hc hcb) hcb) hcb, hcb, hl, by omega, Int.emod_nonneg _ (by decide), Int.emod_lt_of_pos _ (by decide)⟩, k1.trans (k2.trans k3), fun c' ⟨r', e⟩ => by rw [hb] at e; cases e; exact ⟨_, hb3⟩⟩
        · exact ⟨_, rfl, hB, Kp.refl _ _, fun _ h => h⟩
      · repeat (walk_at "rd")
        exact ⟨Kp.refl _ _, fun _ h => h⟩
    · rintro σ' H' ⟨v2, rfl, hB', kp⟩
      obtain ⟨c, ns, p, r, x, z, hb, hc, hcb, hl, hp, hx0, hx1⟩ := hB'
      repeat (walk_at "rd")
      refine iteD (fun hd => ?_) (fun hd => ?_)
      · repeat (walk_at "rd")
        refine setL_step (ys := [.ref c, .int p, .int _, .int x, .int z]) hb (by rfl) (by rfl) fun H1 hb1 k1 => ?_
        refine ⟨_, rfl, q _ H1 (Int.emod_nonneg _ (by omega)) (Int.emod_lt_of_pos _ hm0) ⟨c, ns, p, _, x, z, hb1, k1 _ _ hc hcb, hcb, hl, hp, hx0, hx1⟩ ⟨kp.trans k1, fun c' h => by obtain ⟨r', e⟩ := kp.hd c' h; rw [hb] at e; cases e; exact ⟨_, hb1⟩⟩⟩
      · refine ⟨_, rfl, ?_⟩
        repeat (walk_at "rd")
        refine setL_step (ys := [.ref c, .int p, .int r, .int x, .int (z + 1)]) hb (by rfl) (by rfl) fun H1 hb1 k1 => ?_
        repeat (walk_at "rd")
        refine setL_step (ys := [.ref c, .int p, .int r, .int _, .int (z + 1)]) hb1 (by rfl) (by rfl) fun H2 hb2 k2 => ?_
        repeat (walk_at "rd")
        refine q _ H2 (Int.emod_nonneg _ (by omega)) (Int.emod_lt_of_pos _ hm0) ⟨c, ns, p, r, _, _, hb2, k2 _ _ (k1 _ _ hc hcb) hcb, hcb, hl, hp, Int.emod_nonneg _ (by decide), Int.emod_lt_of_pos _ (by decide)⟩ ⟨kp.trans (k1.trans k2), fun c' h => by obtain ⟨r', e⟩ := kp.hd c' h; rw [hb] at e; cases e; exact ⟨_, hb2⟩⟩
theorem ok_law_far (T : Tops K mg) (D_law_get : DefOk P w K mg base 1 "_law_get" ps__law_get spGet) : DefOk P w K mg base 2 "_law_far" ps__law_far spFar := by
  refine T.d_law_far.ok sc__law_far (fun vs H Q E h => ?_) (fun f cdv A outer s H vs Q E hr h => ?_)
  · obtain ⟨a, c, rfl, _⟩ := h
    rfl
  · obtain ⟨b, k, rfl, hB, hk, q⟩ := h
    refine ⟨_, (pss_cons (ps_set (i := 2) sc__law_far.nd rfl (.inl rfl) pe_int) (pss_cons (ps_for PassesOwn.never rfl (pi_range1 rfl T.m_range (pa_cons (pv 1) pa_nil)) (pg_name (i := 3) sc__law_far.nd rfl (.inl rfl)) (pss_one (ps_set (i := 2) sc__law_far.nd rfl (.inl rfl) (pe_op op_add (pe_op op_mulA (pv 2) pe_int) (pe_callD D_law_get hr (by decide) (by rfl) (pa_cons (pv 0) (pa_cons pe_int pa_nil))))))) (pss_one (ps_ret (pv 2))))), ?_⟩
    refine ⟨_, rfl, (k : Int), rfl, by omega, by omega, for_range (lo := 0) (n := k) (fun i σ H' => ∃ (r : Int) (v3 : Option V), σ = [some (.ref b), some (.int k), some (.int r), v3] ∧ 0 ≤ r ∧ r < 1000 ^ i ∧ Bag H' b ∧ Kp b H H') ⟨0, none, rfl, by decide, by decide, hB, Kp.refl _ _⟩ ?_ ?_⟩
    · rintro i σ H1 hi ⟨r, v3, rfl, h0, h1, hB1, k1⟩
      repeat (walk_at "rd")
      refine ⟨b, 1000, rfl, hB1, by decide, by decide, fun r' H2 h0' h1' hB2 k2 => ?_⟩
      refine ⟨_, _, rfl, rfl, _, _, rfl, ?_, ?_, hB2, k1.trans k2⟩
      · show 0 ≤ r * 1000 + r'
        omega
      · show r * 1000 + r' < 1000 ^ (i + 1)
        rw [Int.pow_succ]
        generalize (1000 : Int) ^ i = p at *
        omega
    · rintro σ H1 ⟨r, v3, rfl, h0, h1, hB1, k1⟩
      exact ⟨_, rfl, q r H1 h0 h1 hB1 k1⟩
theorem ok_law_gcd (T : Tops K mg)  : DefOk P w K mg base 1 "_law_gcd" ps__law_gcd spGcd := by
  refine T.d_law_gcd.ok sc__law_gcd (fun vs H Q E h => ?_) (fun f cdv A outer s H vs Q E hr h => ?_)
  · obtain ⟨a, c, rfl, _⟩ := h
    rfl
  · obtain ⟨a, c, rfl, ha, hc, q⟩ := h
    refine ⟨_, (pss_cons (ps_while PassesOwn.never (pt_cmpR op_gt (pv 1) pe_int (nomark _)) (pss_one (ps_par (i := 0) (j := 1) (by rfl) sc__law_gcd.nd rfl rfl (by decide) rfl rfl (pa_cons (pv 1) (pa_cons (pe_op op_mod (pv 0) (pv 1)) pa_nil)) (by rfl)))) (pss_one (ps_ret (pv 0)))), ?_⟩
    refine ⟨fun m σ H' => H' = H ∧ ∃ x y : Int, σ = [some (.int x), some (.int y)] ∧ 0 ≤ x ∧ 0 ≤ y ∧ Int.gcd x y = Int.gcd a c ∧ m = y.toNat, ⟨_, rfl, a, c, rfl, ha, hc, rfl, rfl⟩, ?_⟩
    rintro m σ H' ⟨rfl, x, y, rfl, hx, hy, hg, hm⟩
    refine ⟨_, rfl, _, _, rfl, rfl, _, rfl, ?_⟩
    refine ite2 (fun hd => ?_) (fun hd => ?_)
    · have hy0 : 0 < y := of_decide_eq_true hd
      refine ⟨fun σ' H'' => H'' = H' ∧ ∃ x' y' : Int, σ' = [some (.int x'), some (.int y')] ∧ 0 ≤ x' ∧ 0 ≤ y' ∧ Int.gcd x' y' = Int.gcd a c ∧ y'.toNat < m, fun σ' H'' h => ?_, ?_⟩
      · obtain ⟨rfl, x', y', rfl, h1, h2, h3, h4⟩ := h
        exact ⟨_, h4, rfl, x', y', rfl, h1, h2, h3, rfl⟩
      · refine ⟨_, rfl, _, rfl, _, rfl, _, _, rfl, rfl, hy0, _, _, rfl, rfl, y, x % y, rfl, hy, Int.emod_nonneg x (by omega), ?_, ?_⟩
        · rw [← hg, gcd_step]
        · have := Int.emod_lt_of_pos x hy0
          have := Int.emod_nonneg x (show y ≠ 0 by omega)
          omega
    · have hy0 : y = 0 := by
        have : ¬ 0 < y := fun z => hd (decide_eq_true z)
        omega
      subst hy0
      refine ⟨_, rfl, ?_⟩
      have e : ((Int.gcd a c : Nat) : Int) = x := by
        rw [← hg, Int.gcd_zero_right]
        omega
      rw [e] at q
      exact q
theorem ok_law_part (T : Tops K mg) (D_law_gcd : DefOk P w K mg base 1 "_law_gcd" ps__law_gcd spGcd) : DefOk P w K mg base 2 "_law_part" ps__law_part (spPart K) := by
  refine T.d_law_part.ok sc__law_part (fun vs H Q E h => ?_) (fun f cdv A outer s H vs Q E hr h => ?_)
  · obtain ⟨a, c, rfl, _⟩ := h
    rfl
  · obtain ⟨a, c, rfl, hc0, ha, hc, q⟩ := h
    refine ⟨_, (C8.pss_cut (ps_if (pt_cmpR op_lt (pv 1) pe_int (nomark _)) (pss_one (ps_par (i := 0) (j := 1) (by rfl) sc__law_part.nd rfl rfl (by decide) rfl rfl (pa_cons (pe_op op_sub pe_int (pv 0)) (pa_cons (pe_op op_sub pe_int (pv 1)) pa_nil)) (by rfl))) pss_nil) (pss_cons (ps_set (i := 2) sc__law_part.nd rfl (.inl rfl) (pe_callD D_law_gcd hr (by decide) (by rfl) (pa_cons (pe_callB call_abs (by rfl) T.m_abs (by decide +kernel) (pa_cons (pv 0) pa_nil)) (pa_cons (pv 1) pa_nil)))) (pss_one (ps_ret (pe_tup (pa_cons (pe_op op_fdivA (pv 0) (pv 2)) (pa_cons (pe_op op_fdivA (pv 1) (pv 2)) pa_nil))))))), ?_⟩
    refine ⟨fun σ' H' => H' = H ∧ ∃ a' c' : Int, σ' = [some (.int a'), some (.int c'), none] ∧ 0 < c' ∧ Rat.divInt a' c' = Rat.divInt a c ∧ a'.natAbs = a.natAbs ∧ c'.natAbs = c.natAbs, ?_, ?_⟩
    · repeat (walk_at "rd")
      refine iteD (fun hd => ?_) (fun hd => ?_)
      · refine ⟨_, rfl, _, _, rfl, rfl, _, rfl, _, _, rfl, rfl, _, _, rfl, rfl, 0 - a, 0 - c, rfl, by omega, ?_, by omega, by omega⟩
        rw [Int.zero_sub, Int.zero_sub, Rat.neg_divInt_neg]
      · exact ⟨rfl, a, c, rfl, by omega, rfl, rfl, rfl⟩
    · rintro σ' H' ⟨rfl, a', c', rfl, hc', he, ea, ec⟩
      refine ⟨_, rfl, _, rfl, _, rfl, _, c', rfl, ?_, by omega, ?_⟩
      · split <;> omega
      have eg : Int.gcd (if a' < 0 then -a' else a') c' = Int.gcd a' c' := by
        split
        · rw [Int.neg_gcd]
        · rfl
      rw [eg]
      have g0 : (0 : Int) < ((Int.gcd a' c' : Nat) : Int) := by
        have := Int.gcd_pos_of_ne_zero_right a' (show c' ≠ 0 by omega)
        omega
      have g1 : ((Int.gcd a' c' : Nat) : Int) ≤ c' := Int.gcd_le_right a' hc'
      have gw : CDivA a' ((Int.gcd a' c' : Nat) : Int) := ⟨by omega, Nat.lt_of_le_of_lt (show _ ≤ c.natAbs by omega) (pow_mono_lt hc (by decide))⟩
      obtain ⟨e1, e2⟩ := divInt_num_eq (a := a') hc'
      refine ⟨_, rfl, _, rfl, _, _, rfl, rfl, gw, _, rfl, _, rfl, _, _, rfl, rfl, gw, (show 2 ≤ sizeLine by decide), fun p np => ?_⟩
      refine q _ _ (same_new np) (PtV.new ?_ ?_)
      · rw [← he, e1, Int.fdiv_eq_ediv_of_nonneg a' (by omega)]
      · rw [← he, e2, Int.fdiv_eq_ediv_of_nonneg c' (by omega)]
theorem ok_law_plus (T : Tops K mg) (D_law_part : DefOk P w K mg base 2 "_law_part" ps__law_part (spPart K)) : DefOk P w K mg base 3 "_law_plus" ps__law_plus (spTwo K (fun _ _ => True) fun x y => x + y) := by
  refine T.d_law_plus.ok sc__law_plus (fun vs H Q E h => ?_) (fun f cdv A outer s H vs Q E hr h => ?_)
  · unfold spTwo at h
    obtain ⟨_, _, _, _, rfl, _⟩ := h
    rfl
  · unfold spTwo at h
    obtain ⟨v, u, x, y, rfl, ⟨a, rfl, ha⟩, ⟨b, rfl, hb⟩, sx, sy, _, q⟩ := h
    refine ⟨_, (pss_one (ps_ret (pe_callD D_law_part hr (by decide) (by rfl) (pa_cons (pe_op op_add (pe_op op_mulA (pe_ix ix_tup (pv 0) pe_int (fun _ _ => rfl)) (pe_ix ix_tup (pv 1) pe_int (fun _ _ => rfl))) (pe_op op_mulA (pe_ix ix_tup (pv 1) pe_int (fun _ _ => rfl)) (pe_ix ix_tup (pv 0) pe_int (fun _ _ => rfl)))) (pa_cons (pe_op op_mulA (pe_ix ix_tup (pv 0) pe_int (fun _ _ => rfl)) (pe_ix ix_tup (pv 1) pe_int (fun _ _ => rfl))) pa_nil))))), ?_⟩
    obtain ⟨x1, x2⟩ := sz_abs sx
    obtain ⟨y1, y2⟩ := sz_abs sy
    repeat (walk_at "rd")
    refine ⟨_, _, rfl, Int.ne_of_gt (Int.mul_pos (den_pos x) (den_pos y)), pow_mono_lt (natAbs_add_lt (natAbs_mul_lt x1 y2) (natAbs_mul_lt y1 x2)) (by decide), pow_mono_lt (natAbs_mul_lt x2 y2) (by decide), fun v H' s hv => q v H' s ?_⟩
    rw [dv_add] at hv
    exact hv
theorem ok_law_times (T : Tops K mg) (D_law_part : DefOk P w K mg base 2 "_law_part" ps__law_part (spPart K)) : DefOk P w K mg base 3 "_law_times" ps__law_times (spTwo K (fun _ _ => True) fun x y => x * y) := by
  refine T.d_law_times.ok sc__law_times (fun vs H Q E h => ?_) (fun f cdv A outer s H vs Q E hr h => ?_)
  · unfold spTwo at h
    obtain ⟨_, _, _, _, rfl, _⟩ := h
    rfl
  · unfold spTwo at h
    obtain ⟨v, u, x, y, rfl, ⟨a, rfl, ha⟩, ⟨b, rfl, hb⟩, sx, sy, _, q⟩ := h
    refine ⟨_, (pss_one (ps_ret (pe_callD D_law_part hr (by decide) (by rfl) (pa_cons (pe_op op_mulA (pe_ix ix_tup (pv 0) pe_int (fun _ _ => rfl)) (pe_ix ix_tup (pv 1) pe_int (fun _ _ => rfl))) (pa_cons (pe_op op_mulA (pe_ix ix_tup (pv 0) pe_int (fun _ _ => rfl)) (pe_ix ix_tup (pv 1) pe_int (fun _ _ => rfl))) pa_nil))))), ?_⟩
    obtain ⟨x1, x2⟩ := sz_abs sx
    obtain ⟨y1, y2⟩ := sz_abs sy
    repeat (walk_at "rd")
    refine ⟨_, _, rfl, Int.ne_of_gt (Int.mul_pos (den_pos x) (den_pos y)), pow_mono_lt (natAbs_mul_lt x1 y1) (by decide), pow_mono_lt (natAbs_mul_lt x2 y2) (by decide), fun v H' s hv => q v H' s ?_⟩
    rw [dv_mul] at hv
    exact hv
theorem ok_law_number (T : Tops K mg) (D_law_get : DefOk P w K mg base 1 "_law_get" ps__law_get spGet) (D_law_far : DefOk P w K mg base 2 "_law_far" ps__law_far spFar) : DefOk P w K mg base 3 "_law_number" ps__law_number spNumber := by
  refine T.d_law_number.ok sc__law_number (fun vs H Q E h => ?_) (fun f cdv A outer s H vs Q E hr h => ?_)
  · obtain ⟨a, rfl, _⟩ := h
    rfl
  · obtain ⟨b, rfl, hB, q⟩ := h
    refine ⟨_, (pss_cons (ps_set (i := 1) sc__law_number.nd rfl (.inl rfl) (pe_callD D_law_get hr (by decide) (by rfl) (pa_cons (pv 0) (pa_cons pe_int pa_nil)))) (pss_cons (ps_if (pt_cmpR op_lt (pv 1) pe_int (nomark _)) (pss_one (ps_ret (pe_op op_sub (pe_callD D_law_get hr (by decide) (by rfl) (pa_cons (pv 0) (pa_cons pe_int pa_nil))) pe_int))) pss_nil) (pss_cons (ps_if (pt_cmpR op_eq (pv 1) pe_int (nomark _)) (pss_one (ps_ret (pe_op op_sub (pe_callD D_law_get hr (by decide) (by rfl) (pa_cons (pv 0) (pa_cons pe_int pa_nil))) pe_int))) pss_nil) (pss_one (ps_ret (pe_op op_mulA (pe_op op_add (pe_callD D_law_far hr (by decide) (by rfl) (pa_cons (pv 0) (pa_cons (pe_ix ix_list (pe_lst (pa_cons pe_int (pa_cons pe_int pa_nil))) (pe_op op_sub (pv 1) pe_int) (fun _ _ => rfl)) pa_nil))) pe_int) (pe_op op_sub pe_int (pe_op op_mulA pe_int (pe_callD D_law_get hr (by decide) (by rfl) (pa_cons (pv 0) (pa_cons pe_int pa_nil))))))))))), ?_⟩
    have small : ∀ r : Int, -1000 ≤ r → r ≤ 2000 → r.natAbs < 2 ^ 200 := fun r h1 h2 => Nat.lt_of_lt_of_le (show r.natAbs < 2 ^ 11 by omega) (Nat.pow_le_pow_right (by decide) (by decide))
    refine ⟨_, rfl, b, 5, rfl, hB, by decide, by decide, fun r H1 h0 h1 hB1 k1 => ?_⟩
    repeat (walk_at "rd")
    refine iteD (fun hd => ?_) (fun hd => ?_)
    · refine ⟨_, rfl, b, 9, rfl, hB1, by decide, by decide, fun r2 H2 h2 h3 hB2 k2 => ?_⟩
      refine ⟨_, _, rfl, rfl, q _ H2 (small _ (by omega) (by omega)) hB2 (k1.trans k2)⟩
    · refine ⟨_, rfl, rfl, _, rfl, ?_⟩
      refine iteD (fun hd2 => ?_) (fun hd2 => ?_)
      · refine ⟨_, rfl, b, 2001, rfl, hB1, by decide, by decide, fun r2 H2 h2 h3 hB2 k2 => ?_⟩
        refine ⟨_, _, rfl, rfl, q _ H2 (small _ (by omega) (by omega)) hB2 (k1.trans k2)⟩
      · have hr3 : r = 3 ∨ r = 4 := by
          have : ¬ r = 2 := fun z => hd2 (by rw [z])
          omega
        refine ⟨_, rfl, (show 2 ≤ sizeLine by decide), fun p np => ?_⟩
        have hBp := hB1.same (same_new (o := .lst [.int 3, .int 20]) np)
        refine ⟨_, rfl, _, _, rfl, rfl, ?_⟩
        rcases hr3 with rfl | rfl
        all_goals
          refine ⟨p, _, _, _, rfl, rfl, SqL.of upd_same, rfl, b, _, rfl, hBp, (by decide), fun r2 H2 h2 h3 hB2 k2 => ?_⟩
          refine ⟨_, _, rfl, rfl, _, rfl, b, 2, rfl, hB2, by decide, by decide, fun r3 H3 h4 h5 hB3 k3 => ?_⟩
          refine ⟨_, _, rfl, rfl, cmul_l ⟨by decide, by decide⟩, _, _, rfl, rfl, _, _, rfl, rfl, cmul_r ⟨by omega, by omega⟩, ?_⟩
          refine q _ H3 ?_ hB3 (k1.trans ((Kp.of (same_new np)).trans (k2.trans k3)))
          exact far_size h2 h3 (by decide) (by omega)
theorem ok_law_some_part (T : Tops K mg) (D_law_get : DefOk P w K mg base 1 "_law_get" ps__law_get spGet) (D_law_part : DefOk P w K mg base 2 "_law_part" ps__law_part (spPart K)) (D_law_number : DefOk P w K mg base 3 "_law_number" ps__law_number spNumber) : DefOk P w K mg base 4 "_law_some_part" ps__law_some_part (spSomePart K) := by
  refine T.d_law_some_part.ok sc__law_some_part (fun vs H Q E h => ?_) (fun f cdv A outer s H vs Q E hr h => ?_)
  · obtain ⟨a, rfl, _⟩ := h
    rfl
  · obtain ⟨b, rfl, hB, q⟩ := h
    refine ⟨_, (pss_cons (ps_set (i := 1) sc__law_some_part.nd rfl (.inl rfl) (pe_op op_add (pe_callB call_abs (by rfl) T.m_abs (by decide +kernel) (pa_cons (pe_callD D_law_number hr (by decide) (by rfl) (pa_cons (pv 0) pa_nil)) pa_nil)) pe_int)) (pss_one (ps_ret (pe_callD D_law_part hr (by decide) (by rfl) (pa_cons (pe_callD D_law_number hr (by decide) (by rfl) (pa_cons (pv 0) pa_nil)) (pa_cons (pe_ifExp (pt_cmpR op_gt (pe_callD D_law_get hr (by decide) (by rfl) (pa_cons (pv 0) (pa_cons pe_int pa_nil))) pe_int (nomark _)) (pv 1) pe_int) pa_nil)))))), ?_⟩
    refine ⟨_, rfl, b, rfl, hB, fun r H1 hr1 hB1 k1 => ?_⟩
    refine ⟨_, rfl, _, _, rfl, rfl, ?_⟩
    refine ⟨_, rfl, b, rfl, hB1, fun r2 H2 hr2 hB2 k2 => ?_⟩
    refine ⟨_, rfl, b, 3, rfl, hB2, by decide, by decide, fun r3 H3 h4 h5 hB3 k3 => ?_⟩
    have k := k1.trans (k2.trans k3.k0)
    have p201 : (2 : Nat) ^ 201 = 2 ^ 200 * 2 := by rw [← Nat.pow_succ]
    have p0 : 0 < (2 : Nat) ^ 200 := Nat.pow_pos (by decide)
    have b1 : (if r < 0 then -r else r) + 1 ≠ 0 ∧ ((if r < 0 then -r else r) + 1).natAbs < 2 ^ 201 := by
      rw [p201]
      generalize (2 : Nat) ^ 200 = N at *
      split <;> omega
    have b2 : r2.natAbs < 2 ^ 201 := pow_mono_lt hr2 (by decide)
    have b3 : (1 : Int) ≠ 0 ∧ (1 : Int).natAbs < 2 ^ 201 := ⟨by decide, by
      rw [p201]
      generalize (2 : Nat) ^ 200 = N at *
      omega⟩
    repeat (walk_at "rd")
    refine iteD (fun hd => ?_) (fun hd => ?_)
    · refine ⟨_, rfl, _, _, rfl, b1.1, pow_mono_lt b2 (by decide), pow_mono_lt b1.2 (by decide), fun v H4 s4 hv => ?_⟩
      exact q v _ H4 hv (size_divInt b1.1 b2 b1.2) (hB3.same s4) (k.trans (Kp.of s4))
    · refine ⟨_, _, rfl, b3.1, pow_mono_lt b2 (by decide), pow_mono_lt b3.2 (by decide), fun v H4 s4 hv => ?_⟩
      exact q v _ H4 hv (size_divInt b3.1 b2 b3.2) (hB3.same s4) (k.trans (Kp.of s4))
theorem ok_law_above (T : Tops K mg) (D_law_part : DefOk P w K mg base 2 "_law_part" ps__law_part (spPart K)) (D_law_some_part : DefOk P w K mg base 4 "_law_some_part" ps__law_some_part (spSomePart K)) : DefOk P w K mg base 5 "_law_above" ps__law_above (spAbove K) := by
  refine T.d_law_above.ok sc__law_above (fun vs H Q E h => ?_) (fun f cdv A outer s H vs Q E hr h => ?_)
  · unfold spAbove at h
    obtain ⟨_, rfl, _⟩ := h
    rfl
  · unfold spAbove at h
    obtain ⟨c, rfl, hC, q⟩ := h
    refine ⟨_, (pss_cons (ps_set (i := 1) sc__law_above.nd rfl (.inl rfl) (pe_callD D_law_some_part hr (by decide) (by rfl) (pa_cons (pv 0) pa_nil))) (pss_one (ps_ret (pe_callD D_law_part hr (by decide) (by rfl) (pa_cons (pe_op op_add (pe_callB call_abs (by rfl) T.m_abs (by decide +kernel) (pa_cons (pe_ix ix_tup (pv 1) pe_int (fun _ _ => rfl)) pa_nil)) pe_int) (pa_cons (pe_ix ix_tup (pv 1) pe_int (fun _ _ => rfl)) pa_nil)))))), ?_⟩
    refine ⟨_, rfl, c, rfl, hC, fun v x H1 hx sx hC1 k1 => ?_⟩
    obtain ⟨a, rfl, ha⟩ := hx
    obtain ⟨x1, x2⟩ := sz_abs sx
    refine ⟨_, rfl, a, _, _, _, rfl, rfl, ha, rfl, _, rfl, _, _, rfl, rfl, ?_⟩
    refine ⟨_, rfl, a, _, _, _, rfl, rfl, ha, rfl, ?_⟩
    have p202 : (2 : Nat) ^ 202 = 2 ^ 201 * 2 := by rw [← Nat.pow_succ]
    have e0 : 0 < (if x.num < 0 then -x.num else x.num) + 1 := by split <;> omega
    have e1 : ((if x.num < 0 then -x.num else x.num) + 1).natAbs < 2 ^ 202 := by
      rw [p202]
      have h1 := x1
      have h2 : 0 < (2 : Nat) ^ 201 := Nat.pow_pos (by decide)
      generalize (2 : Nat) ^ 201 = N at *
      split <;> omega
    have e2 : ((x.den : Nat) : Int).natAbs < 2 ^ 202 := pow_mono_lt x2 (by decide)
    have d0 : ((x.den : Nat) : Int) ≠ 0 := Int.ne_of_gt (den_pos x)
    refine ⟨_, _, rfl, d0, pow_mono_lt e1 (by decide), pow_mono_lt e2 (by decide), fun u H2 s2 hu => ?_⟩
    refine q u _ H2 hu ?_ (size_divInt d0 e1 e2) (hC1.same s2) (k1.trans (Kp.of s2))
    exact divInt_pos e0 (den_pos x)
theorem ok_law_small_box (T : Tops K mg) (D_law_get : DefOk P w K mg base 1 "_law_get" ps__law_get spGet) : DefOk P w K mg base 2 "_law_small_box" ps__law_small_box (spSomeBox K) := by
  refine T.d_law_small_box.ok sc__law_small_box (fun vs H Q E h => ?_) (fun f cdv A outer s H vs Q E hr h => ?_)
  · unfold spSomeBox at h
    obtain ⟨_, rfl, _⟩ := h
    rfl
  · unfold spSomeBox at h
    obtain ⟨c, rfl, hC, q⟩ := h
    refine ⟨_, (pss_cons (ps_par (i := 1) (j := 2) (by rfl) sc__law_small_box.nd rfl rfl (by decide) rfl rfl (pa_cons (pe_op op_sub (pe_callD D_law_get hr (by decide) (by rfl) (pa_cons (pv 0) (pa_cons pe_int pa_nil))) pe_int) (pa_cons (pe_op op_sub (pe_callD D_law_get hr (by decide) (by rfl) (pa_cons (pv 0) (pa_cons pe_int pa_nil))) pe_int) pa_nil)) (by rfl)) (pss_one (ps_ret (pe_tup (pa_cons (pe_tup (pa_cons (pv 1) (pa_cons pe_int pa_nil))) (pa_cons (pe_tup (pa_cons (pv 2) (pa_cons pe_int pa_nil))) (pa_cons (pe_tup (pa_cons (pe_op op_add pe_int (pe_callD D_law_get hr (by decide) (by rfl) (pa_cons (pv 0) (pa_cons pe_int pa_nil)))) (pa_cons pe_int pa_nil))) (pa_cons (pe_tup (pa_cons (pe_op op_add pe_int (pe_callD D_law_get hr (by decide) (by rfl) (pa_cons (pv 0) (pa_cons pe_int pa_nil)))) (pa_cons pe_int pa_nil))) pa_nil)))))))), ?_⟩
    refine ⟨_, rfl, c, 30, rfl, hC, by decide, by decide, fun x H1 hx0 hx1 hC1 k1 => ?_⟩
    refine ⟨_, _, rfl, rfl, _, rfl, c, 30, rfl, hC1, by decide, by decide, fun y H2 hy0 hy1 hC2 k2 => ?_⟩
    refine ⟨_, _, rfl, rfl, _, _, rfl, ?_⟩
    refine ⟨_, rfl, (show 2 ≤ sizeLine by decide), fun p1 n1 => ?_⟩
    have hC3 := hC2.same (same_new (o := .tup [.int (x - 9), .int 1]) n1)
    have g1 : PtV K _ _ ((x - 9 : Int) : Rat) := ptv_int n1 (x - 9)
    refine ⟨_, rfl, (show 2 ≤ sizeLine by decide), fun p2 n2 => ?_⟩
    have hC4 := hC3.same (same_new (o := .tup [.int (y - 9), .int 1]) n2)
    have g2 : PtV K _ _ ((y - 9 : Int) : Rat) := ptv_int n2 (y - 9)
    have g1 := g1.same (same_new (o := .tup [.int (y - 9), .int 1]) n2)
    refine ⟨_, rfl, c, 40, rfl, hC4, by decide, by decide, fun z H5 hz0 hz1 hC5 k5 => ?_⟩
    have g1 := g1.bag k5.k0 hC4
    have g2 := g2.bag k5.k0 hC4
    refine ⟨_, _, rfl, rfl, (show 2 ≤ sizeLine by decide), fun p3 n3 => ?_⟩
    have hC6 := hC5.same (same_new (o := .tup [.int (1 + z), .int 1]) n3)
    have g3 : PtV K _ _ ((1 + z : Int) : Rat) := ptv_int n3 (1 + z)
    have g1 := g1.same (same_new (o := .tup [.int (1 + z), .int 1]) n3)
    have g2 := g2.same (same_new (o := .tup [.int (1 + z), .int 1]) n3)
    refine ⟨_, rfl, c, 40, rfl, hC6, by decide, by decide, fun w2 H7 hw0 hw1 hC7 k7 => ?_⟩
    have g1 := g1.bag k7.k0 hC6
    have g2 := g2.bag k7.k0 hC6
    have g3 := g3.bag k7.k0 hC6
    refine ⟨_, _, rfl, rfl, (show 2 ≤ sizeLine by decide), fun p4 n4 => ?_⟩
    have hC8 := hC7.same (same_new (o := .tup [.int (1 + w2), .int 1]) n4)
    have g4 : PtV K _ _ ((1 + w2 : Int) : Rat) := ptv_int n4 (1 + w2)
    have g1 := g1.same (same_new (o := .tup [.int (1 + w2), .int 1]) n4)
    have g2 := g2.same (same_new (o := .tup [.int (1 + w2), .int 1]) n4)
    have g3 := g3.same (same_new (o := .tup [.int (1 + w2), .int 1]) n4)
    refine ⟨(show 4 ≤ sizeLine by decide), fun p5 n5 => ?_⟩
    refine q _ ⟨((x - 9 : Int) : Rat), ((y - 9 : Int) : Rat), ((1 + z : Int) : Rat), ((1 + w2 : Int) : Rat)⟩ _ (BxV.mk n5 g1 g2 g3 g4) ⟨?_, ?_, ?_, ?_, ?_, ?_⟩ (hC8.same (same_new n5)) ?_
    · exact int_pos (by omega)
    · exact int_pos (by omega)
    · exact int_sz (by omega)
    · exact int_sz (by omega)
    · exact int_sz (by omega)
    · exact int_sz (by omega)
    · exact k1.trans (k2.trans ((Kp.of (same_new n1)).trans ((Kp.of (same_new n2)).trans (k5.trans ((Kp.of (same_new n3)).trans (k7.trans ((Kp.of (same_new n4)).trans (Kp.of (same_new n5)))))))))
theorem ok_law_box (T : Tops K mg) (D_law_get : DefOk P w K mg base 1 "_law_get" ps__law_get spGet) (D_law_some_part : DefOk P w K mg base 4 "_law_some_part" ps__law_some_part (spSomePart K)) (D_law_above : DefOk P w K mg base 5 "_law_above" ps__law_above (spAbove K)) (D_law_small_box : DefOk P w K mg base 2 "_law_small_box" ps__law_small_box (spSomeBox K)) : DefOk P w K mg base 6 "_law_box" ps__law_box (spSomeBox K) := by
  refine T.d_law_box.ok sc__law_box (fun vs H Q E h => ?_) (fun f cdv A outer s H vs Q E hr h => ?_)
  · unfold spSomeBox at h
    obtain ⟨_, rfl, _⟩ := h
    rfl
  · unfold spSomeBox at h
    obtain ⟨c, rfl, hC, q⟩ := h
    refine ⟨_, (pss_cons (ps_if (pt_cmpR op_eq (pe_callD D_law_get hr (by decide) (by rfl) (pa_cons (pv 0) (pa_cons pe_int pa_nil))) pe_int (nomark _)) (pss_one (ps_ret (pe_callD D_law_small_box hr (by decide) (by rfl) (pa_cons (pv 0) pa_nil)))) pss_nil) (pss_one (ps_ret (pe_tup (pa_cons (pe_callD D_law_some_part hr (by decide) (by rfl) (pa_cons (pv 0) pa_nil)) (pa_cons (pe_callD D_law_some_part hr (by decide) (by rfl) (pa_cons (pv 0) pa_nil)) (pa_cons (pe_callD D_law_above hr (by decide) (by rfl) (pa_cons (pv 0) pa_nil)) (pa_cons (pe_callD D_law_above hr (by decide) (by rfl) (pa_cons (pv 0) pa_nil)) pa_nil)))))))), ?_⟩
    refine ⟨_, rfl, c, 2, rfl, hC, by decide, by decide, fun r H1 h0 h1 hC1 k1 => ?_⟩
    refine ⟨rfl, _, rfl, ?_⟩
    refine iteD (fun e => ?_) (fun e => ?_)
    · exact ⟨_, rfl, somebox_step hC1 fun v b H2 hv hb hC2 k2 => q v b H2 hv hb hC2 (k1.trans k2)⟩
    · refine ⟨_, rfl, c, rfl, hC1, fun v1 x1 H2 g1 z1 hC2 k2 => ?_⟩
      refine ⟨_, rfl, c, rfl, hC2, fun v2 x2 H3 g2 z2 hC3 k3 => ?_⟩
      refine ⟨_, rfl, above_step hC3 fun v3 x3 H4 g3 p3 z3 hC4 k4 => ?_⟩
      refine ⟨_, rfl, above_step hC4 fun v4 x4 H5 g4 p4 z4 hC5 k5 => ?_⟩
      refine ⟨(show 4 ≤ sizeLine by decide), fun p np => ?_⟩
      refine q _ ⟨x1, x2, x3, x4⟩ _ (BxV.mk np (((g1.bag k3 hC2).bag k4 hC3).bag k5 hC4) ((g2.bag k4 hC3).bag k5 hC4) (g3.bag k5 hC4) g4) ⟨p3, p4, z1.mono (by decide), z2.mono (by decide), z3, z4⟩ (hC5.same (same_new np)) ?_
      exact k1.trans (k2.trans (k3.trans (k4.trans (k5.trans (Kp.of (same_new np))))))
theorem ok_law_weight (T : Tops K mg) (D_law_get : DefOk P w K mg base 1 "_law_get" ps__law_get spGet) : DefOk P w K mg base 2 "_law_weight" ps__law_weight spWeight := by
  refine T.d_law_weight.ok sc__law_weight (fun vs H Q E h => ?_) (fun f cdv A outer s H vs Q E hr h => ?_)
  · unfold spWeight at h
    obtain ⟨_, _, rfl, _⟩ := h
    rfl
  · unfold spWeight at h
    obtain ⟨c, k, rfl, hC, q⟩ := h
    refine ⟨_, (pss_cons (ps_if (pt_cmpR op_eq (pv 1) pe_int (nomark _)) (pss_one (ps_ret (pe_op op_add pe_int (pe_callD D_law_get hr (by decide) (by rfl) (pa_cons (pv 0) (pa_cons pe_int pa_nil)))))) pss_nil) (pss_cons (ps_if (pt_cmpR op_eq (pv 1) pe_int (nomark _)) (pss_one (ps_ret (pe_op op_add pe_int (pe_callD D_law_get hr (by decide) (by rfl) (pa_cons (pv 0) (pa_cons pe_int pa_nil)))))) pss_nil) (pss_cons (ps_if (pt_cmpR op_eq (pv 1) pe_int (nomark _)) (pss_one (ps_ret pe_int)) pss_nil) (pss_one (ps_ret (pe_ix ix_list (pe_lst (pa_cons pe_int (pa_cons pe_int (pa_cons pe_int (pa_cons pe_int (pa_cons pe_int pa_nil)))))) (pe_callD D_law_get hr (by decide) (by rfl) (pa_cons (pv 0) (pa_cons pe_int pa_nil))) (fun _ _ => rfl))))))), ?_⟩
    refine ⟨_, rfl, rfl, _, rfl, ?_⟩
    refine iteB (fun _ => ?_) (fun _ => ?_)
    · refine ⟨_, rfl, c, 5, rfl, hC, by decide, by decide, fun r H1 h0 h1 hC1 k1 => ⟨_, _, rfl, rfl, q _ H1 (by omega) (by omega) hC1 k1⟩⟩
    refine ⟨_, rfl, rfl, _, rfl, ?_⟩
    refine iteB (fun _ => ?_) (fun _ => ?_)
    · refine ⟨_, rfl, c, 400000, rfl, hC, by decide, by decide, fun r H1 h0 h1 hC1 k1 => ⟨_, _, rfl, rfl, q _ H1 (by omega) (by omega) hC1 k1⟩⟩
    refine ⟨_, rfl, rfl, _, rfl, ?_⟩
    refine iteB (fun _ => q _ H (by decide) (by decide) hC (Kp.refl _ _)) (fun _ => ?_)
    refine ⟨(show 5 ≤ sizeLine by decide), fun p np => ?_⟩
    have s1 : Same H (upd H p (.lst [.int 1, .int 400000, .int 399999, .int 2, .int 3000])) := same_new np
    have hC1 := hC.same s1
    have hpc : p ≠ c := fun z => by
      obtain ⟨ys, hy⟩ := hC.lst
      rw [z, hy] at np
      cases np
    refine ⟨_, rfl, c, 5, rfl, hC1, by decide, by decide, fun r H2 h0 h1 hC2 k2 => ?_⟩
    have hp : H2 p = some (.lst [.int 1, .int 400000, .int 399999, .int 2, .int 3000]) := k2 _ _ upd_same hpc
    have hr : r = 0 ∨ r = 1 ∨ r = 2 ∨ r = 3 ∨ r = 4 := by omega
    have kk := (Kp.of (b := c) s1).trans k2.k0
    rcases hr with rfl | rfl | rfl | rfl | rfl
    all_goals exact ⟨p, _, _, _, rfl, rfl, SqL.of hp, rfl, q _ H2 (by decide) (by decide) hC2 kk⟩
theorem ok_law_weights (T : Tops K mg) (D_law_get : DefOk P w K mg base 1 "_law_get" ps__law_get spGet) (D_law_weight : DefOk P w K mg base 2 "_law_weight" ps__law_weight spWeight) : DefOk P w K mg base 3 "_law_weights" ps__law_weights (spWeights K) := by
  refine T.d_law_weights.ok sc__law_weights (fun vs H Q E h => ?_) (fun f cdv A outer s H vs Q E hr h => ?_)
  · unfold spWeights at h
    obtain ⟨_, _, rfl, _⟩ := h
    rfl
  · unfold spWeights at h
    obtain ⟨c, m, rfl, hC, hm0, hm1, q⟩ := h
    refine ⟨_, (pss_cons (ps_asg (pe_tup (pa_cons (pe_op op_add pe_int (pe_callD D_law_get hr (by decide) (by rfl) (pa_cons (pv 0) (pa_cons (pv 1) pa_nil)))) (pa_cons (pe_callD D_law_get hr (by decide) (by rfl) (pa_cons (pv 0) (pa_cons pe_int pa_nil))) pa_nil))) (pg_tup rfl (pgs_cons (pg_name (i := 2) sc__law_weights.nd rfl (.inl rfl)) (pgs_cons (pg_name (i := 3) sc__law_weights.nd rfl (.inr rfl)) pgs_nil)))) (pss_one (ps_ret (pe_lc (own := [("_law_k", 4)]) (g := gName 4) (by rfl) sc__law_weights.nd (pi_range1 rfl T.m_range (pa_cons (pv 2) pa_nil)) (blkOk_by (own := [("_law_k", 4)]) (N := ["_law_bag_here", "_law_most", "_law_many", "_law_kind", "_law_k"]) (sc := defScope s__law_weights) (by decide +kernel)) (fun _ _ _ _ _ => (pg_name (i := 4) sc__law_weights.nd rfl (.inl rfl))) (fun _ _ _ _ _ => pts_nil) (fun _ _ _ _ _ => (pe_callD D_law_weight hr (by decide) (by rfl) (pa_cons (pv 0) (pa_cons (pe_ifExp (pt_cmpR op_lt (pv 3) pe_int (nomark _)) (pv 3) (pe_callD D_law_get hr (by decide) (by rfl) (pa_cons (pv 0) (pa_cons pe_int pa_nil)))) pa_nil)))))))), ?_⟩
    refine ⟨_, rfl, _, rfl, c, m, rfl, hC, by omega, by omega, fun r H1 h0 h1 hC1 k1 => ?_⟩
    refine ⟨_, _, rfl, rfl, _, rfl, c, 5, rfl, hC1, by decide, by decide, fun kd H2 h2 h3 hC2 k2 => ?_⟩
    refine ⟨(show 2 ≤ sizeLine by decide), fun p np => ?_⟩
    have hC3 := hC2.same (same_new (o := .tup [.int (1 + r), .int kd]) np)
    have k3 := k1.trans (k2.trans (Kp.of (same_new (o := .tup [.int (1 + r), .int kd]) np)))
    refine ⟨p, _, rfl, SqT.of upd_same, rfl, _, _, rfl, _, _, rfl, rfl, ?_⟩
    -- the weights
    refine ⟨_, rfl, 1 + r, rfl, by omega, by omega, fun D nD => ?_⟩
    have nHD : H D = none := by
      have h2n := (same_new (H := H2) (o := .tup [.int (1 + r), .int kd]) np).free nD
      cases e : H D with
      | none => rfl
      | some o =>
        exfalso
        by_cases z : D = c
        · obtain ⟨ys, hy⟩ := hC2.lst
          rw [z, hy] at h2n
          cases h2n
        · have := (k1.trans k2.k0) _ _ e z
          rw [this] at h2n
          cases h2n
    have hDc : D ≠ c := fun z => by
      obtain ⟨ys, hy⟩ := hC3.lst
      rw [z] at nD
      exact absurd (nD.symm.trans hy) (by simp)
    refine lc_range (lo := 0) (n := (1 + r).toNat) (fun i H' => ∃ ws : List Int, ws.length = i ∧ (∀ x ∈ ws, 1 ≤ x ∧ x ≤ 400000) ∧ H' D = some (.lst (ws.map V.int)) ∧ Bag H' c ∧ Kp c H H') ⟨[], rfl, by simp, upd_same, hC3.same (same_new nD), k3.trans (Kp.of (same_new nD))⟩ ?_ ?_
    · rintro i H' hi ⟨ws, hl, hw, hD, hB, kk⟩
      refine ⟨rfl, _, rfl, ?_⟩
      have wt : ∀ (kx : Int) H4, Bag H4 c → Kp c H' H4 → spWeight [.ref c, .int kx] H4 (fun y H5 => ∃ acc, H5 D = some (.lst acc) ∧ acc.length < sizeLine ∧ ∃ ws : List Int, ws.length = i + 1 ∧ (∀ x ∈ ws, 1 ≤ x ∧ x ≤ 400000) ∧ (upd H5 D (.lst (acc ++ [y]))) D = some (.lst (ws.map V.int)) ∧ Bag (upd H5 D (.lst (acc ++ [y]))) c ∧ Kp c H (upd H5 D (.lst (acc ++ [y])))) E0 := by
        intro kx H4 hB4 k4
        refine weight_step hB4 fun w1 H5 w0 w1' hB5 k5 => ?_
        have hD5 : H5 D = some (.lst (ws.map V.int)) := k5 _ _ (k4 _ _ hD hDc) hDc
        refine ⟨_, hD5, ?_, ws ++ [w1], by rw [List.length_append, hl]; rfl, ?_, ?_, ?_, ?_⟩
        · rw [List.length_map]
          exact small1000 (by omega)
        · intro x hx
          rcases List.mem_append.mp hx with hx | hx
          · exact hw x hx
          · rw [List.mem_singleton.mp hx]
            exact ⟨w0, w1'⟩
        · rw [upd_same, List.map_append]
          rfl
        · have hz := hB5.write (D := D) (zs := ws ++ [w1]) hDc (by rw [List.length_append, hl]; show i + 1 ≤ 63; omega)
          rw [List.map_append] at hz
          exact hz
        · intro b o hb hbc
          have hbD : b ≠ D := ne_of_none hb nHD
          rw [upd_ne hbD]
          exact k5 _ _ (k4 _ _ (kk _ _ hb hbc) hbc) hbc
      refine ⟨_, rfl, _, _, rfl, rfl, _, rfl, ?_⟩
      refine iteD (fun e => ?_) (fun e => ?_)
      · exact ⟨_, rfl, wt _ H' hB (Kp.refl _ _)⟩
      · refine ⟨_, rfl, c, 4, rfl, hB, by decide, by decide, fun k4 H4 _ _ hB4 kp4 => wt _ H4 hB4 kp4⟩
    · rintro H' ⟨ws, hl, hw, hD, hB, kk⟩
      exact q D ws H' nHD hD ⟨by omega, by omega, hw⟩ hB kk
theorem ok_law_sizes (T : Tops K mg) (D_law_get : DefOk P w K mg base 1 "_law_get" ps__law_get spGet) : DefOk P w K mg base 2 "_law_sizes" ps__law_sizes (spLSizes K) := by
  refine T.d_law_sizes.ok sc__law_sizes (fun vs H Q E h => ?_) (fun f cdv A outer s H vs Q E hr h => ?_)
  · unfold spLSizes at h
    obtain ⟨_, _, rfl, _⟩ := h
    rfl
  · unfold spLSizes at h
    obtain ⟨c, n, rfl, hC, hn0, hn1, q⟩ := h
    refine ⟨_, (pss_cons (ps_set (i := 2) sc__law_sizes.nd rfl (.inl rfl) (pe_lst pa_nil)) (pss_cons (ps_set (i := 3) sc__law_sizes.nd rfl (.inl rfl) (pv 1)) (pss_cons (ps_set (i := 4) sc__law_sizes.nd rfl (.inl rfl) (pe_callD D_law_get hr (by decide) (by rfl) (pa_cons (pv 0) (pa_cons pe_int pa_nil)))) (pss_cons (ps_while PassesOwn.never (pt_cmpR op_gt (pv 3) pe_int (nomark _)) (pss_cons (ps_set (i := 5) sc__law_sizes.nd rfl (.inl rfl) (pe_ix ix_list (pe_lst (pa_cons (pe_op op_add pe_int (pe_callD D_law_get hr (by decide) (by rfl) (pa_cons (pv 0) (pa_cons (pv 3) pa_nil)))) (pa_cons pe_int (pa_cons (pe_op op_add pe_int (pe_callD D_law_get hr (by decide) (by rfl) (pa_cons (pv 0) (pa_cons (pe_callB (call_min2 rfl) (by rfl) T.m_min (by decide +kernel) (pa_cons (pv 3) (pa_cons pe_int pa_nil))) pa_nil)))) pa_nil)))) (pv 4) (fun _ _ => rfl))) (pss_cons (ps_expr (pe_bm PySem.F.plainAttrs_list PySem.F.slot_list_append PySem.F.type_list_append mt_append (pv 2) (pa_cons (pv 5) pa_nil))) (pss_one (ps_set (i := 3) sc__law_sizes.nd rfl (.inl rfl) (pe_op op_sub (pv 3) (pv 5))))))) (pss_one (ps_ret (pe_callTy call_tuple_of (by rfl) T.m_tuple (by decide +kernel) (pa_cons (pv 2) pa_nil)))))))), ?_⟩
    refine ⟨Nat.zero_le _, fun F nF => ?_⟩
    have sF : Same H (upd H F (.lst [])) := same_new nF
    have hFc : F ≠ c := fun z => by
      obtain ⟨ys, hy⟩ := hC.lst
      rw [z, hy] at nF
      cases nF
    refine ⟨_, rfl, _, rfl, c, 3, rfl, hC.same sF, by decide, by decide, fun kd H1 hk0 hk1 hB1 k1 => ?_⟩
    have hF1 : H1 F = some (.lst []) := k1 _ _ upd_same hFc
    have kk1 := (Kp.of (b := c) sF).trans k1.k0
    have hk : kd = 0 ∨ kd = 1 ∨ kd = 2 := by omega
    refine ⟨fun m σ H' => ∃ (v5 : Option V) (left : Int) (ss : List Int), σ = [some (.ref c), some (.int n), some (.ref F), some (.int left), some (.int kd), v5] ∧ 0 ≤ left ∧ ss.sum + left = n ∧ (∀ x ∈ ss, 1 ≤ x) ∧ H' F = some (.lst (ss.map V.int)) ∧ Bag H' c ∧ Kp c H H' ∧ m = left.toNat, ⟨_, none, n, [], rfl, by omega, by simp, by simp, hF1, hB1, kk1, rfl⟩, ?_⟩
    rintro m σ H' ⟨v5, left, ss, rfl, hl0, hsum, hw, hF, hB, kk, hm⟩
    refine ⟨_, rfl, _, _, rfl, rfl, _, rfl, ?_⟩
    refine ite2 (fun hd => ?_) (fun hd => ?_)
    · have hl : 0 < left := of_decide_eq_true hd
      have hsl := sum_nn hw
      refine ⟨fun σ' H'' => ∃ (v5 : Option V) (left' : Int) (ss' : List Int), σ' = [some (.ref c), some (.int n), some (.ref F), some (.int left'), some (.int kd), v5] ∧ 0 ≤ left' ∧ ss'.sum + left' = n ∧ (∀ x ∈ ss', 1 ≤ x) ∧ H'' F = some (.lst (ss'.map V.int)) ∧ Bag H'' c ∧ Kp c H H'' ∧ left'.toNat < m, fun σ' H'' h => ?_, ?_⟩
      · obtain ⟨v5, left', ss', rfl, h1, h2, h3, h4, h5, h6, h7⟩ := h
        exact ⟨_, h7, v5, left', ss', rfl, h1, h2, h3, h4, h5, h6, rfl⟩
      · refine ⟨_, rfl, _, rfl, c, left, rfl, hB, by omega, by omega, fun r1 H2 h0 h1 hB2 k2 => ?_⟩
        have hm3 : 0 < (if (3 : Int) < left then 3 else left) ∧ (if (3 : Int) < left then 3 else left) ≤ left := by split <;> omega
        refine ⟨_, _, rfl, rfl, _, rfl, _, rfl, left, 3, rfl, c, _, rfl, hB2, hm3.1, by omega, fun r2 H3 h2 h3 hB3 k3 => ?_⟩
        refine ⟨_, _, rfl, rfl, (show 3 ≤ sizeLine by decide), fun p np => ?_⟩
        have sp := same_new (o := .lst [.int (1 + r1), .int 1, .int (1 + r2)]) np
        have hB4 := hB3.same sp
        have hF4 := sp _ _ ((k2.trans k3) _ _ hF hFc)
        have k4 := kk.trans (k2.trans (k3.trans (Kp.of sp)))
        have nHF : H F = none := nF
        refine ⟨_, rfl, ?_⟩
        rcases hk with rfl | rfl | rfl
        · refine ⟨p, _, _, _, rfl, rfl, SqL.of upd_same, rfl, ?_⟩
          refine ⟨_, rfl, .inl ⟨rfl, _, SqL.of hF4⟩, _, rfl, F, _, _, rfl, rfl, hF4, small1000 (by rw [List.length_map]; omega), ?_⟩
          refine ⟨_, rfl, _, rfl, _, _, rfl, rfl, ?_⟩
          refine ⟨some _, _, ss ++ [1 + r1], rfl, ?_, ?_, ?_, ?_, ?_, ?_, ?_⟩
          · show 0 ≤ left - _
            omega
          · rw [List.sum_append, List.sum_cons, List.sum_nil]
            show _ + (left - _) = _
            omega
          · intro x hx
            rcases List.mem_append.mp hx with hx | hx
            · exact hw x hx
            · rw [List.mem_singleton.mp hx]
              omega
          · rw [upd_same, List.map_append]
            rfl
          · have hz := hB4.write (D := F) (zs := ss ++ [1 + r1]) hFc (by rw [List.length_append]; show ss.length + 1 ≤ 63; omega)
            rw [List.map_append] at hz
            exact hz
          · intro b o hb hbc
            have hbF : b ≠ F := ne_of_none hb nHF
            rw [upd_ne hbF]
            exact k4 _ _ hb hbc
          · show (left - _).toNat < m
            omega
        · refine ⟨p, _, _, _, rfl, rfl, SqL.of upd_same, rfl, ?_⟩
          refine ⟨_, rfl, .inl ⟨rfl, _, SqL.of hF4⟩, _, rfl, F, _, _, rfl, rfl, hF4, small1000 (by rw [List.length_map]; omega), ?_⟩
          refine ⟨_, rfl, _, rfl, _, _, rfl, rfl, ?_⟩
          refine ⟨some _, _, ss ++ [1], rfl, ?_, ?_, ?_, ?_, ?_, ?_, ?_⟩
          · show 0 ≤ left - _
            omega
          · rw [List.sum_append, List.sum_cons, List.sum_nil]
            show _ + (left - _) = _
            omega
          · intro x hx
            rcases List.mem_append.mp hx with hx | hx
            · exact hw x hx
            · rw [List.mem_singleton.mp hx]
              omega
          · rw [upd_same, List.map_append]
            rfl
          · have hz := hB4.write (D := F) (zs := ss ++ [1]) hFc (by rw [List.length_append]; show ss.length + 1 ≤ 63; omega)
            rw [List.map_append] at hz
            exact hz
          · intro b o hb hbc
            have hbF : b ≠ F := ne_of_none hb nHF
            rw [upd_ne hbF]
            exact k4 _ _ hb hbc
          · show (left - _).toNat < m
            omega
        · refine ⟨p, _, _, _, rfl, rfl, SqL.of upd_same, rfl, ?_⟩
          refine ⟨_, rfl, .inl ⟨rfl, _, SqL.of hF4⟩, _, rfl, F, _, _, rfl, rfl, hF4, small1000 (by rw [List.length_map]; omega), ?_⟩
          refine ⟨_, rfl, _, rfl, _, _, rfl, rfl, ?_⟩
          refine ⟨some _, _, ss ++ [1 + r2], rfl, ?_, ?_, ?_, ?_, ?_, ?_, ?_⟩
          · show 0 ≤ left - _
            omega
          · rw [List.sum_append, List.sum_cons, List.sum_nil]
            show _ + (left - _) = _
            omega
          · intro x hx
            rcases List.mem_append.mp hx with hx | hx
            · exact hw x hx
            · rw [List.mem_singleton.mp hx]
              omega
          · rw [upd_same, List.map_append]
            rfl
          · have hz := hB4.write (D := F) (zs := ss ++ [1 + r2]) hFc (by rw [List.length_append]; show ss.length + 1 ≤ 63; omega)
            rw [List.map_append] at hz
            exact hz
          · intro b o hb hbc
            have hbF : b ≠ F := ne_of_none hb nHF
            rw [upd_ne hbF]
            exact k4 _ _ hb hbc
          · show (left - _).toNat < m
            omega
    · have hl : left = 0 := by
        have : ¬ 0 < left := fun z => hd (decide_eq_true z)
        omega
      refine ⟨_, rfl, F, _, rfl, .inl ⟨SqL.of hF, fun l nl => ?_⟩⟩
      have sl := same_new (o := .tup (ss.map V.int)) nl
      exact q l ss _ upd_same ⟨hw, by omega⟩ (hB.same sl) (kk.trans (Kp.of sl))
theorem ok_law_lean (T : Tops K mg) (D_law_get : DefOk P w K mg base 1 "_law_get" ps__law_get spGet) : DefOk P w K mg base 2 "_law_lean" ps__law_lean spLean := by
  refine T.d_law_lean.ok sc__law_lean (fun vs H Q E h => ?_) (fun f cdv A outer s H vs Q E hr h => ?_)
  · unfold spLean at h
    obtain ⟨_, rfl, _⟩ := h
    rfl
  · unfold spLean at h
    obtain ⟨c, rfl, hC, q⟩ := h
    refine ⟨_, (pss_one (ps_ret (pe_ix ix_list (pe_lst (pa_cons pe_str (pa_cons pe_str pa_nil))) (pe_callD D_law_get hr (by decide) (by rfl) (pa_cons (pv 0) (pa_cons pe_int pa_nil))) (fun _ _ => rfl)))), ?_⟩
    refine ⟨(show 2 ≤ sizeLine by decide), fun p np => ?_⟩
    have s1 : Same H (upd H p (.lst [.str "down", .str "across"])) := same_new np
    have hpc : p ≠ c := fun z => by
      obtain ⟨ys, hy⟩ := hC.lst
      rw [z, hy] at np
      cases np
    refine ⟨_, rfl, c, 2, rfl, hC.same s1, by decide, by decide, fun r H2 h0 h1 hC2 k2 => ?_⟩
    have hp : H2 p = some (.lst [.str "down", .str "across"]) := k2 _ _ upd_same hpc
    have kk := (Kp.of (b := c) s1).trans k2.k0
    have hr : r = 0 ∨ r = 1 := by omega
    rcases hr with rfl | rfl
    · exact ⟨p, _, _, _, rfl, rfl, SqL.of hp, rfl, q true H2 hC2 kk⟩
    · exact ⟨p, _, _, _, rfl, rfl, SqL.of hp, rfl, q false H2 hC2 kk⟩
theorem ok_law_bound (T : Tops K mg) (D_law_get : DefOk P w K mg base 1 "_law_get" ps__law_get spGet) (D_law_part : DefOk P w K mg base 2 "_law_part" ps__law_part (spPart K)) : DefOk P w K mg base 3 "_law_bound" ps__law_bound (spBound K) := by
  refine T.d_law_bound.ok sc__law_bound (fun vs H Q E h => ?_) (fun f cdv A outer s H vs Q E hr h => ?_)
  · unfold spBound at h
    obtain ⟨_, rfl, _⟩ := h
    rfl
  · unfold spBound at h
    obtain ⟨c, rfl, hC, q⟩ := h
    refine ⟨_, (pss_cons (ps_set (i := 1) sc__law_bound.nd rfl (.inl rfl) (pe_callD D_law_get hr (by decide) (by rfl) (pa_cons (pv 0) (pa_cons pe_int pa_nil)))) (pss_cons (ps_if (pt_cmpR op_eq (pv 1) pe_int (nomark _)) (pss_one (ps_ret (pe_tup (pa_cons pe_int (pa_cons pe_int pa_nil))))) pss_nil) (pss_cons (ps_if (pt_cmpR op_eq (pv 1) pe_int (nomark _)) (pss_one (ps_ret (pe_callD D_law_part hr (by decide) (by rfl) (pa_cons (pe_op op_sub (pe_op op_sub (pe_op op_pow pe_int pe_int) pe_int) (pe_callD D_law_get hr (by decide) (by rfl) (pa_cons (pv 0) (pa_cons pe_int pa_nil)))) (pa_cons (pe_op op_add pe_int (pe_callD D_law_get hr (by decide) (by rfl) (pa_cons (pv 0) (pa_cons pe_int pa_nil)))) pa_nil))))) pss_nil) (pss_cons (ps_if (pt_cmpR op_eq (pv 1) pe_int (nomark _)) (pss_one (ps_ret (pe_callD D_law_part hr (by decide) (by rfl) (pa_cons (pe_op op_add pe_int (pe_callD D_law_get hr (by decide) (by rfl) (pa_cons (pv 0) (pa_cons pe_int pa_nil)))) (pa_cons pe_int pa_nil))))) pss_nil) (pss_cons (ps_set (i := 2) sc__law_bound.nd rfl (.inl rfl) (pe_op op_add pe_int (pe_callD D_law_get hr (by decide) (by rfl) (pa_cons (pv 0) (pa_cons pe_int pa_nil))))) (pss_one (ps_ret (pe_callD D_law_part hr (by decide) (by rfl) (pa_cons (pe_op op_add (pv 2) (pe_callD D_law_get hr (by decide) (by rfl) (pa_cons (pv 0) (pa_cons pe_int pa_nil)))) (pa_cons (pv 2) pa_nil)))))))))), ?_⟩
    have hp : ∀ {x : Int} {k : Nat}, x.natAbs < 2 ^ 120 → x.natAbs < 2 ^ 8000 := fun h => pow_mono_lt h (by decide)
    refine ⟨_, rfl, c, 5, rfl, hC, by decide, by decide, fun kd H1 hk0 hk1 hC1 k1 => ?_⟩
    refine ⟨_, rfl, rfl, _, rfl, ?_⟩
    refine iteB (fun _ => ?_) (fun _ => ?_)
    · refine ⟨(show 2 ≤ sizeLine by decide), fun p np => ?_⟩
      exact q _ 1 _ (PtV.new rfl rfl) one_ge (sz_one.mono (by decide)) (hC1.same (same_new np)) (k1.trans (Kp.of (same_new np)))
    refine ⟨_, rfl, rfl, _, rfl, ?_⟩
    refine iteB (fun _ => ?_) (fun _ => ?_)
    · refine ⟨_, _, rfl, rfl, ⟨by decide, by decide, by decide⟩, _, _, rfl, rfl, _, rfl, c, 9, rfl, hC1, by decide, by decide, fun r1 H2 a0 a1 hC2 k2 => ?_⟩
      refine ⟨_, _, rfl, rfl, _, rfl, c, 99, rfl, hC2, by decide, by decide, fun r2 H3 b0 b1 hC3 k3 => ?_⟩
      have e30 : (10 : Int) ^ (30 : Int).toNat = 1000000000000000000000000000000 := by decide
      refine ⟨_, _, rfl, rfl, (10 : Int) ^ (30 : Int).toNat - 1 - r1, 1 + r2, rfl, by omega, ?_, ?_, fun v H4 s4 hv => ?_⟩
      · rw [e30]
        exact pow_mono_lt (show (1000000000000000000000000000000 - 1 - r1 : Int).natAbs < 2 ^ 120 by omega) (by decide)
      · exact pow_mono_lt (show (1 + r2 : Int).natAbs < 2 ^ 120 by omega) (by decide)
      · refine q v _ H4 hv (divInt_ge1 (by omega) (by rw [e30]; omega)) (size_divInt (by omega) ?_ ?_) (hC3.same s4) ((k1.trans (k2.trans k3.k0)).trans (Kp.of s4))
        · rw [e30]
          exact pow_mono_lt (show (1000000000000000000000000000000 - 1 - r1 : Int).natAbs < 2 ^ 120 by omega) (by decide)
        · exact pow_mono_lt (show (1 + r2 : Int).natAbs < 2 ^ 120 by omega) (by decide)
    refine ⟨_, rfl, rfl, _, rfl, ?_⟩
    refine iteB (fun _ => ?_) (fun _ => ?_)
    · refine ⟨_, rfl, c, 40, rfl, hC1, by decide, by decide, fun r1 H2 a0 a1 hC2 k2 => ?_⟩
      refine ⟨_, _, rfl, rfl, 10 + r1, 10, rfl, by decide, ?_, ?_, fun v H4 s4 hv => ?_⟩
      · exact pow_mono_lt (show (10 + r1 : Int).natAbs < 2 ^ 120 by omega) (by decide)
      · exact pow_mono_lt (show (10 : Int).natAbs < 2 ^ 120 by decide) (by decide)
      · refine q v _ H4 hv (divInt_ge1 (by decide) (by omega)) (size_divInt (by decide) ?_ ?_) (hC2.same s4) ((k1.trans k2.k0).trans (Kp.of s4))
        · exact pow_mono_lt (show (10 + r1 : Int).natAbs < 2 ^ 120 by omega) (by decide)
        · exact pow_mono_lt (show (10 : Int).natAbs < 2 ^ 120 by decide) (by decide)
    refine ⟨_, rfl, c, 99, rfl, hC1, by decide, by decide, fun r1 H2 a0 a1 hC2 k2 => ?_⟩
    refine ⟨_, _, rfl, rfl, _, rfl, _, rfl, c, 900, rfl, hC2, by decide, by decide, fun r2 H3 b0 b1 hC3 k3 => ?_⟩
    refine ⟨_, _, rfl, rfl, _, rfl, 1 + r1 + r2, 1 + r1, rfl, by omega, ?_, ?_, fun v H4 s4 hv => ?_⟩
    · exact pow_mono_lt (show (1 + r1 + r2 : Int).natAbs < 2 ^ 120 by omega) (by decide)
    · exact pow_mono_lt (show (1 + r1 : Int).natAbs < 2 ^ 120 by omega) (by decide)
    · refine q v _ H4 hv (divInt_ge1 (by omega) (by omega)) (size_divInt (by omega) ?_ ?_) (hC3.same s4) ((k1.trans (k2.trans k3.k0)).trans (Kp.of s4))
      · exact pow_mono_lt (show (1 + r1 + r2 : Int).natAbs < 2 ^ 120 by omega) (by decide)
      · exact pow_mono_lt (show (1 + r1 : Int).natAbs < 2 ^ 120 by omega) (by decide)
theorem ok_law_turned_lean (T : Tops K mg)  : DefOk P w K mg base 1 "_law_turned_lean" ps__law_turned_lean spTurned := by
  refine T.d_law_turned_lean.ok sc__law_turned_lean (fun vs H Q E h => ?_) (fun f cdv A outer s H vs Q E hr h => ?_)
  · unfold spTurned at h
    obtain ⟨_, rfl, _⟩ := h
    rfl
  · unfold spTurned at h
    obtain ⟨d, rfl, q⟩ := h
    refine ⟨_, (pss_one (ps_ret (pe_ifExp (pt_cmpR op_eq (pv 0) pe_str (nomark _)) pe_str pe_str))), ?_⟩
    refine ⟨_, rfl, rfl, _, rfl, ?_⟩
    rw [sd_eq]
    cases d with
    | true => exact q _ rfl
    | false => exact q _ rfl
theorem ok_law_spots (T : Tops K mg)  : DefOk P w K mg base 1 "_law_spots" ps__law_spots (spSpotsH K) := by
  refine T.d_law_spots.ok sc__law_spots (fun vs H Q E h => ?_) (fun f cdv A outer s H vs Q E hr h => ?_)
  · unfold spSpotsH at h
    obtain ⟨_, _, _, rfl, _⟩ := h
    rfl
  · unfold spSpotsH at h
    obtain ⟨a, ss, n, rfl, hs, hS, hn, q⟩ := h
    refine ⟨_, (pss_cons (ps_set (i := 1) sc__law_spots.nd rfl (.inl rfl) (pe_lst pa_nil)) (pss_cons (ps_set (i := 2) sc__law_spots.nd rfl (.inl rfl) pe_int) (pss_cons (ps_for PassesOwn.never rfl (pi_tup (pv 0)) (pg_name (i := 3) sc__law_spots.nd rfl (.inl rfl)) (pss_cons (ps_expr (pe_bm PySem.F.plainAttrs_list PySem.F.slot_list_append PySem.F.type_list_append mt_append (pv 1) (pa_cons (pe_tup (pa_cons (pv 2) (pa_cons (pv 3) pa_nil))) pa_nil))) (pss_one (ps_set (i := 2) sc__law_spots.nd rfl (.inl rfl) (pe_op op_add (pv 2) (pv 3)))))) (pss_one (ps_ret (pv 1)))))), ?_⟩
    have hl := hS.len
    refine ⟨Nat.zero_le _, fun F nF => ?_⟩
    have sF : Same H (upd H F (.lst [])) := same_new nF
    refine ⟨_, rfl, a, rfl, ⟨_, seqT_same sF hs⟩, ?_⟩
    refine for_tup (xs := ss.map V.int) (fun i σ H' => ∃ (v3 : Option V) (us : List V), σ = [some (.ref a), some (.ref F), some (.int (ss.take i).sum), v3] ∧ Same H H' ∧ H' F = some (.lst us) ∧ Al (PiH H') us ((spotsM ss).take i)) ⟨none, [], rfl, sF, upd_same, .nil⟩ (fun i σ H' _ ⟨_, _, _, z, _⟩ => seqT_same z hs) ?_ ?_
    · rintro i x σ H' hx ⟨v3, us, rfl, sH, hF, hBs⟩
      obtain ⟨w1, rfl, hi, hgd⟩ : ∃ w1, x = V.int w1 ∧ i < ss.length ∧ ss.getD i 0 = w1 := by
        rw [List.getElem?_map] at hx
        obtain ⟨w1, h1, h2⟩ := Option.map_eq_some_iff.mp hx
        exact ⟨w1, h2.symm, (List.getElem?_eq_some_iff.mp h1).1, by rw [List.getD_eq_getElem?_getD, h1]; rfl⟩
      refine ⟨_, rfl, .inl ⟨rfl, _, SqL.of hF⟩, ?_⟩
      refine ⟨_, rfl, _, rfl, (show 2 ≤ sizeLine by decide), fun p np => ?_⟩
      have sp := same_new (o := .tup [.int (ss.take i).sum, .int w1]) np
      have hlen := hBs.len
      have hle : (spotsM ss).length = ss.length := by unfold spotsM; rw [List.length_map, List.length_range]
      rw [List.length_take, hle] at hlen
      refine ⟨F, us, _, rfl, rfl, sp _ _ hF, small1000 (by omega), ?_⟩
      refine ⟨_, rfl, _, rfl, _, _, rfl, rfl, ?_⟩
      refine ⟨some (.int w1), us ++ [.ref p], ?_, same_write nF (sH.trans sp), upd_same, ?_⟩
      · rw [take_sum hi, hgd]
        rfl
      · have eg : (spotsM ss)[i]? = some ((ss.take i).sum, w1) := by
          unfold spotsM
          rw [List.getElem?_map, List.getElem?_range hi, ← hgd]
          rfl
        rw [List.take_add_one, eg]
        refine Al.snoc ?_ (Al.mono (fun v x h => h.kp (c := F) Kp.upd (sp _ _ hF)) (Al.mono (fun v x h => h.same sp) hBs))
        exact PiH.kp (c := F) ⟨p, rfl, upd_same⟩ Kp.upd (sp _ _ hF)
    · rintro σ H' ⟨v3, us, rfl, sH, hF, hBs⟩
      have hle : (spotsM ss).length = ss.length := by unfold spotsM; rw [List.length_map, List.length_range]
      rw [List.length_map, List.take_of_length_le (by rw [hle]; exact Nat.le_refl _)] at hBs
      exact ⟨_, rfl, q F us H' nF sH hF hBs⟩
theorem ok_law_kept (T : Tops K mg) (D_law_get : DefOk P w K mg base 1 "_law_get" ps__law_get spGet) (D_law_sizes : DefOk P w K mg base 2 "_law_sizes" ps__law_sizes (spLSizes K)) (D_law_spots : DefOk P w K mg base 1 "_law_spots" ps__law_spots (spSpotsH K)) : DefOk P w K mg base 3 "_law_kept" ps__law_kept (spLKept K) := by
  refine T.d_law_kept.ok sc__law_kept (fun vs H Q E h => ?_) (fun f cdv A outer s H vs Q E hr h => ?_)
  · unfold spLKept at h
    obtain ⟨_, _, rfl, _⟩ := h
    rfl
  · unfold spLKept at h
    obtain ⟨c, n, rfl, hB, h0, h1, q⟩ := h
    refine ⟨_, (pss_cons (ps_if (pt_cmpR op_eq (pe_callD D_law_get hr (by decide) (by rfl) (pa_cons (pv 0) (pa_cons pe_int pa_nil))) pe_int (nomark _)) (pss_cons (ps_set (i := 2) sc__law_kept.nd rfl (.inl rfl) (pe_callD D_law_spots hr (by decide) (by rfl) (pa_cons (pe_callD D_law_sizes hr (by decide) (by rfl) (pa_cons (pv 0) (pa_cons (pv 1) pa_nil))) pa_nil))) (pss_one (ps_ret (pe_lc (own := [("_law_one", 3)]) (g := gName 3) (by rfl) sc__law_kept.nd (pi_list (pv 2)) (blkOk_by (own := [("_law_one", 3)]) (N := ["_law_bag_here", "_law_many", "_law_spots_here", "_law_one", "_law_found", "_law_k", "_law_first"]) (sc := defScope s__law_kept) (by decide +kernel)) (fun _ _ _ _ _ => (pg_name (i := 3) sc__law_kept.nd rfl (.inl rfl))) (fun _ _ _ _ _ => (pts_one (pt_cmpR op_gt (pe_callD D_law_get hr (by decide) (by rfl) (pa_cons (pv 0) (pa_cons pe_int pa_nil))) pe_int (nomark _)))) (fun _ _ _ _ _ => (pv 3)))))) pss_nil) (pss_cons (ps_set (i := 4) sc__law_kept.nd rfl (.inl rfl) (pe_lst pa_nil)) (pss_cons (ps_for PassesOwn.never rfl (pi_range1 rfl T.m_range (pa_cons (pe_callD D_law_get hr (by decide) (by rfl) (pa_cons (pv 0) (pa_cons pe_int pa_nil))) pa_nil)) (pg_name (i := 5) sc__law_kept.nd rfl (.inl rfl)) (pss_cons (ps_set (i := 6) sc__law_kept.nd rfl (.inl rfl) (pe_callD D_law_get hr (by decide) (by rfl) (pa_cons (pv 0) (pa_cons (pv 1) pa_nil)))) (pss_cons (ps_set (i := 3) sc__law_kept.nd rfl (.inl rfl) (pe_tup (pa_cons (pv 6) (pa_cons (pe_op op_add pe_int (pe_callD D_law_get hr (by decide) (by rfl) (pa_cons (pv 0) (pa_cons (pe_op op_sub (pv 1) (pv 6)) pa_nil)))) pa_nil)))) (pss_one (ps_if (pt_cmpR (op_notInD (units65 hr)) (pv 3) (pv 4) (by rfl)) (pss_one (ps_expr (pe_bm PySem.F.plainAttrs_list PySem.F.slot_list_append PySem.F.type_list_append mt_append (pv 4) (pa_cons (pv 3) pa_nil)))) pss_nil))))) (pss_one (ps_ret (pv 4)))))), ?_⟩
    have toH : ∀ {x : Addr} {Hx : Hp}, Kp c H Hx → Hx x = none → x ≠ c → H x = none := fun {x} {Hx} k nx nc => by
      cases e : H x with
      | none => rfl
      | some o =>
        have := k _ _ e nc
        rw [nx] at this
        cases this
    have fresh : ∀ {D : Addr} {G : Hp}, Bag G c → G D = none → D ≠ c := fun hB h z => by
      obtain ⟨ys, hy⟩ := hB.lst
      rw [z, hy] at h
      cases h
    refine ⟨_, rfl, c, 2, rfl, hB, by decide, by decide, fun r H1 r0 r1 hB1 k1 => ⟨rfl, _, rfl, ?_⟩⟩
    refine iteB (fun _ => ?_) (fun _ => ?_)
    · refine ⟨_, rfl, _, rfl, lsizes_step hB1 h0 h1 fun t ss H2 ht hSz hB2 k2 => ?_⟩
      refine spotsH_step (SqT.of ht) hSz h1 fun L0 us H3 nL0 s3 hL0 hA => ?_
      have hB3 := hB2.same s3
      have k13 := k1.k0.trans (k2.trans (Kp.of s3))
      obtain ⟨c2, oc, hd3, hc3⟩ := hB3.hd
      refine ⟨_, rfl, L0, rfl, ⟨_, SqL.of hL0⟩, fun D nD => ?_⟩
      have hL0c : L0 ≠ c := fresh hB2 nL0
      have hDc : D ≠ c := fresh hB3 nD
      have hDc2 : D ≠ c2 := fun z => by
        rw [z, hc3] at nD
        cases nD
      have hDL : L0 ≠ D := fun z => by
        rw [← z, hL0] at nD
        cases nD
      have sD := same_new (o := .lst []) nD
      have hul := hA.len
      have hsl := hSz.len
      rw [spots_len] at hul
      refine lc_list (xs := us) (fun i H' => ∃ (vs' : List V) (ps : List (Int × Int)), H' D = some (.lst vs') ∧ Al (PiH H') vs' ps ∧ List.Sublist ps ((spotsM ss).take i) ∧ Bag H' c ∧ Hd H' c c2 ∧ H' L0 = some (.lst us) ∧ Al (PiH H') us (spotsM ss) ∧ Kp c H3 H') ⟨[], [], upd_same, .nil, List.nil_sublist _, hB3.same sD, (by obtain ⟨r, hr⟩ := hd3; exact ⟨r, sD _ _ hr⟩), sD _ _ hL0, hA.mono (fun v x h => h.same sD), Kp.of sD⟩ (fun i H' _ ⟨_, _, _, _, _, _, _, z, _⟩ => SqL.of z) ?_ ?_
      · rintro i x H4 hx ⟨vs', ps, hD4, hP4, sub, hB4, hd4, hL4, hA4, k4⟩
        refine ⟨rfl, _, rfl, c, 4, rfl, hB4, by decide, by decide, fun r H5 r0 r1 hB5 k5 => ?_⟩
        refine ⟨_, _, rfl, rfl, _, rfl, ?_⟩
        obtain ⟨ys, hy⟩ := hB4.lst
        have hD5 := k5.k0 _ _ hD4 hDc
        have hL5 := k5.k0 _ _ hL4 hL0c
        have hd5 := k5.hd _ hd4
        have hP5 := hP4.mono (fun v x h => h.kp k5.k0 hy)
        have hA5 := hA4.mono (fun v x h => h.kp k5.k0 hy)
        have k35 := k4.trans k5.k0
        obtain ⟨p, hp, hxp⟩ := hA5.get hx
        refine iteD (fun _ => ?_) (fun _ => ?_)
        · have hpl := hP5.len
          have hsub := sub.length_le
          rw [List.length_take, spots_len] at hsub
          refine ⟨_, rfl, vs', hD5, small1000 (by omega), vs' ++ [x], ps ++ [p], upd_same, ?_, ?_, hB5.put hd5 hDc hDc2, ?_, ?_, ?_, ?_⟩
          · exact Al.snoc (hxp.kp Kp.upd hD5) (hP5.mono (fun v x h => h.kp Kp.upd hD5))
          · rw [List.take_add_one, hp]
            exact sub.append (List.Sublist.refl _)
          · obtain ⟨r, hr⟩ := hd5
            exact ⟨r, by rw [upd_ne hDc.symm]; exact hr⟩
          · rw [upd_ne hDL]
            exact hL5
          · exact hA5.mono (fun v x h => h.kp Kp.upd hD5)
          · intro b o hb hbc
            rw [upd_ne (ne_of_none hb nD)]
            exact k35 _ _ hb hbc
        · refine ⟨vs', ps, hD5, hP5, ?_, hB5, hd5, hL5, hA5, k35⟩
          rw [List.take_add_one, hp]
          exact sub.trans (List.sublist_append_left _ _)
      rintro H4 ⟨vs', ps, hD4, hP4, sub, hB4, hd4, hL4, hA4, k4⟩
      exact q D vs' ps H4 (toH k13 nD hDc) hD4 hP4 ((spots_kok hSz h1).sub (sub.trans (List.take_sublist _ _))) hB4 (k13.trans k4)
    · refine ⟨Nat.zero_le _, fun F nF => ?_⟩
      obtain ⟨c2, oc, hd1, hc1⟩ := hB1.hd
      have hFc : F ≠ c := fresh hB1 nF
      have hFc2 : F ≠ c2 := fun z => by
        rw [z, hc1] at nF
        cases nF
      have sF := same_new (o := .lst []) nF
      have hd2 : Hd (upd H1 F (.lst [])) c c2 := by
        obtain ⟨r, hr⟩ := hd1
        exact ⟨r, sF _ _ hr⟩
      refine ⟨_, rfl, c, 6, rfl, hB1.same sF, by decide, by decide, fun r6 H3 r60 r61 hB3 k3 => ?_⟩
      have hF3 : H3 F = some (.lst []) := k3.k0 _ _ upd_same hFc
      have k13 : Kp c H1 H3 := (Kp.of sF).trans k3.k0
      have nHF := toH k1.k0 nF hFc
      refine ⟨r6, rfl, by omega, by omega, for_range (lo := 0) (n := r6.toNat) (fun k σ H' => ∃ (v2 v3 v5 v6 : Option V) (us : List V) (ps : List (Int × Int)), σ = [some (.ref c), some (.int n), v2, v3, some (.ref F), v5, v6] ∧ H' F = some (.lst us) ∧ Al (PiH H') us ps ∧ (∀ p ∈ ps, 0 ≤ p.1 ∧ 1 ≤ p.2 ∧ p.1 + p.2 ≤ n) ∧ ps.Nodup ∧ ps.length ≤ k ∧ Bag H' c ∧ Hd H' c c2 ∧ Kp c H1 H') ⟨none, none, none, none, [], [], rfl, hF3, .nil, (fun p h => nomatch h), List.nodup_nil, Nat.le_refl _, hB3, k3.hd _ hd2, k13⟩ ?_ ?_⟩
      · rintro k σ H4 hk ⟨v2, v3, v5, v6, us, ps, rfl, hF4, hP4, hr4, hu4, hl4, hB4, hd4, k4⟩
        refine ⟨_, rfl, _, rfl, c, n, rfl, hB4, by omega, by omega, fun x H5 x0 x1 hB5 k5 => ?_⟩
        have hF5 := k5.k0 _ _ hF4 hFc
        obtain ⟨ys4, hy4⟩ := hB4.lst
        have hP5 := hP4.mono (fun v x h => h.kp k5.k0 hy4)
        refine ⟨_, rfl, _, rfl, _, rfl, _, rfl, _, _, rfl, rfl, c, (n : Int) - x, rfl, hB5, by omega, by omega, fun y H6 y0 y1 hB6 k6 => ?_⟩
        have hF6 := k6.k0 _ _ hF5 hFc
        obtain ⟨ys5, hy5⟩ := hB5.lst
        have hP6 := hP5.mono (fun v x h => h.kp k6.k0 hy5)
        have hd6 := k6.hd _ (k5.hd _ hd4)
        refine ⟨_, _, rfl, rfl, (show 2 ≤ sizeLine by decide), fun p np => ?_⟩
        have sp := same_new (o := .tup [.int x, .int (1 + y)]) np
        have hF7 := sp _ _ hF6
        have hP7 := hP6.mono (fun v x h => h.same sp)
        have hB7 := hB6.same sp
        have hd7 : Hd (upd H6 p (.tup [.int x, .int (1 + y)])) c c2 := by
          obtain ⟨r, hr⟩ := hd6
          exact ⟨r, sp _ _ hr⟩
        have hp7 : (upd H6 p (.tup [.int x, .int (1 + y)])) p = some (.tup [.int x, .int (1 + y)]) := upd_same
        have k7 : Kp c H1 (upd H6 p (.tup [.int x, .int (1 + y)])) := k4.trans (k5.k0.trans (k6.k0.trans (Kp.of sp)))
        generalize upd H6 p (.tup [.int x, .int (1 + y)]) = H7 at *
        refine ⟨_, rfl, _, rfl, notInD_any (ps := ps) ⟨us, SqL.of hF7, hP7.mono fun v x ⟨t, a, b⟩ => ⟨t, a, SqT.of b⟩⟩ (SqT.of hp7) ⟨_, rfl, ?_⟩⟩
        have hpl := hP7.len
        by_cases cm : (x, 1 + y) ∈ ps
        · rw [decide_eq_true cm]
          refine iteF ?_
          exact ⟨_, _, _, _, us, ps, rfl, hF7, hP7, hr4, hu4, by omega, hB7, hd7, k7⟩
        · rw [decide_eq_false cm]
          refine iteT ?_
          refine ⟨_, rfl, .inl ⟨rfl, _, SqL.of hF7⟩, _, rfl, F, us, _, rfl, rfl, hF7, small1000 (by omega), ?_⟩
          refine ⟨_, _, _, _, us ++ [.ref p], ps ++ [(x, 1 + y)], rfl, upd_same, ?_, ?_, ?_, ?_, hB7.put hd7 hFc hFc2, ?_, ?_⟩
          · exact Al.snoc (PiH.kp ⟨p, rfl, hp7⟩ Kp.upd hF7) (hP7.mono (fun v x h => h.kp Kp.upd hF7))
          · intro z hz
            rcases List.mem_append.mp hz with hz | hz
            · exact hr4 z hz
            · rw [List.mem_singleton.mp hz]
              exact ⟨x0, by show 1 ≤ 1 + y; omega, by show x + (1 + y) ≤ n; omega⟩
          · rw [List.nodup_append]
            refine ⟨hu4, by simp, fun z hz w hw e => ?_⟩
            rw [List.mem_singleton.mp hw] at e
            rw [e] at hz
            exact cm hz
          · rw [List.length_append]
            show ps.length + 1 ≤ k + 1
            omega
          · obtain ⟨r, hr⟩ := hd7
            exact ⟨r, by rw [upd_ne hFc.symm]; exact hr⟩
          · intro b o hb hbc
            rw [upd_ne (ne_of_none hb nF)]
            exact k7 _ _ hb hbc
      · rintro σ H4 ⟨v2, v3, v5, v6, us, ps, rfl, hF4, hP4, hr4, hu4, hl4, hB4, hd4, k4⟩
        exact ⟨_, rfl, q F us ps H4 nHF hF4 hP4 ⟨hr4, hu4, by omega⟩ hB4 (k1.k0.trans k4)⟩
theorem ok_law_about (T : Tops K mg)  : DefOk P w K mg base 1 "_law_about" ps__law_about (spAbout K) := by
  refine T.d_law_about.ok sc__law_about (fun vs H Q E h => ?_) (fun f cdv A outer s H vs Q E hr h => ?_)
  · unfold spAbout at h
    obtain ⟨_, _, rfl, _⟩ := h
    rfl
  · unfold spAbout at h
    obtain ⟨v, b, rfl, hV, q⟩ := h
    refine ⟨_, (pss_one (ps_ret (pe_tup (pa_cons (pe_ix ix_tup (pv 0) pe_int (fun _ _ => rfl)) (pa_cons (pe_ix ix_tup (pv 0) pe_int (fun _ _ => rfl)) (pa_cons (pe_ix ix_tup (pv 0) pe_int (fun _ _ => rfl)) (pa_cons (pe_ix ix_tup (pv 0) pe_int (fun _ _ => rfl)) pa_nil))))))), ?_⟩
    obtain ⟨a, v1, v2, v3, v4, rfl, hT, h1, h2, h3, h4⟩ := hV
    refine ⟨_, rfl, a, _, 1, v2, rfl, rfl, hT, by rfl, _, rfl, a, _, 0, v1, rfl, rfl, hT, by rfl, _, rfl, a, _, 3, v4, rfl, rfl, hT, by rfl, _, rfl, a, _, 2, v3, rfl, rfl, hT, by rfl, (show 4 ≤ sizeLine by decide), fun p np => ?_⟩
    exact q _ _ (same_new np) (BxV.mk (b := tnB b) np h2 h1 h4 h3)
theorem ok_law_all (T : Tops K mg) (D_best : DefOkS P w K mg base 6 "best" ps_best 2 (.str "down") (spBest K)) (D_least : DefOkS P w K mg base 6 "least" ps_least 2 (.str "down") (spLeast K)) (D_greedy : DefOkS P w K mg base 6 "greedy" ps_greedy 2 (.str "down") (spGreedy K)) (D_beginnings : DefOkS P w K mg base 6 "beginnings" ps_beginnings 3 (.str "down") (spBegs K)) (D_calm : DefOkS P w K mg base 7 "calm" ps_calm 4 (.str "down") (spCalm K)) : DefOk P w K mg base 8 "_law_all" ps__law_all (spLAll K) := by
  refine T.d_law_all.ok sc__law_all (fun vs H Q E h => ?_) (fun f cdv A outer s H vs Q E hr h => ?_)
  · unfold spLAll at h
    obtain ⟨_, _, _, _, _, _, _, _, _, rfl, _⟩ := h
    rfl
  · unfold spLAll at h
    obtain ⟨v, u, a, L, b, ws, M, ps, d, rfl, hV, hO, hS, hW, hu, zM, h1, hL, hk, q⟩ := h
    refine ⟨_, (pss_cons (ps_set (i := 5) sc__law_all.nd rfl (.inl rfl) (pe_lst (pa_cons (pe_callS1 D_best hr (by decide) (by rfl) (pa_cons (pv 0) (pa_cons (pv 1) pa_nil)) (pk_cons (pv 2) pk_nil)) (pa_cons (pe_callS1 D_greedy hr (by decide) (by rfl) (pa_cons (pv 0) (pa_cons (pv 1) pa_nil)) (pk_cons (pv 2) pk_nil)) (pa_cons (pe_callS1 D_least hr (by decide) (by rfl) (pa_cons (pv 0) (pa_cons (pv 1) pa_nil)) (pk_cons (pv 2) pk_nil)) pa_nil))))) (pss_one (ps_ret (pe_op op_cat (pv 5) (pe_lst (pa_cons (pe_callS1 D_calm hr (by decide) (by rfl) (pa_cons (pv 0) (pa_cons (pv 1) (pa_cons (pv 3) (pa_cons (pv 4) pa_nil)))) (pk_cons (pv 2) pk_nil)) (pa_cons (pe_callS1 D_beginnings hr (by decide) (by rfl) (pa_cons (pv 0) (pa_cons (pv 1) (pa_cons (pv 3) pa_nil))) (pk_cons (pv 2) pk_nil)) pa_nil))))))), ?_⟩
    refine ⟨_, rfl, _, rfl, _, rfl, rfl, rfl, best_step (d := d) hV hO (Nat.le_refl _) (.inl hS) hW fun t1 g H1 s1 hg ht1 => ?_⟩
    refine ⟨_, rfl, _, rfl, _, rfl, rfl, rfl, greedy_step (d := d) (hV.same s1) hO (Nat.le_refl _) (seqL_same s1 hS) hW fun t2 H2 s2 ht2 => ?_⟩
    have s12 := s1.trans s2
    refine ⟨_, rfl, _, rfl, _, rfl, rfl, rfl, least_step (d := d) (hV.same s12) hO (Nat.le_refl _) (seqL_same s12 hS) hW fun w g2 H3 s3 hg2 zg hw => ?_⟩
    have s13 := s12.trans s3
    rw [Bst.uniq0 hg2 hg] at hw
    have ht1 : SqT K H3 t1 _ := SqT.of ((s2.trans s3) _ _ ht1)
    have ht2 : SqT K H3 t2 _ := SqT.of (s3 _ _ ht2)
    refine ⟨(show 3 ≤ sizeLine by decide), fun p0 np0 => ?_⟩
    have sp := same_new (o := .lst [.ref t1, .ref t2, w]) np0
    have hp0 : (upd H3 p0 (.lst [.ref t1, .ref t2, w])) p0 = some (.lst [.ref t1, .ref t2, w]) := upd_same
    have s14 := s13.trans sp
    have ht1 := seqT_same sp ht1
    have ht2 := seqT_same sp ht2
    have hw := hw.same sp
    generalize upd H3 p0 (.lst [.ref t1, .ref t2, w]) = H4 at *
    obtain ⟨B, hB⟩ := Bco.exists_ (fSh b ws d) M ps ws.length
    have rest : ∀ (vc : V) (H5 : Hp), Same H4 H5 → ClV K H5 vc (fSh b ws d) M ps ws.length B → ∀ l5 H6, H5 l5 = none → Same H5 H6 → H6 l5 = some (.lst (natV (begL (fSh b ws d) M ws.length))) → ∀ p, H6 p = none → AllV K (upd H6 p (.lst [.ref t1, .ref t2, w, vc, .ref l5])) p l5 (fSh b ws d) M ps ws.length g B := fun vc H5 s5 hc l5 H6 n5 s6 h6 p np => by
      have s7 := same_new (o := .lst [.ref t1, .ref t2, w, vc, .ref l5]) np
      have s47 := s5.trans (s6.trans s7)
      exact ⟨⟨t1, t2, w, vc, upd_same, seqT_same s47 ht1, seqT_same s47 ht2, hw.same s47, hc.same (s6.trans s7)⟩, s7 _ _ h6⟩
    have nb : ∀ {H5 : Hp} {l : Addr}, Same H H5 → H5 l = none → H l = none := fun {H5 l} s h => by
      cases e : H l with
      | none => rfl
      | some o =>
        rw [s _ _ e] at h
        cases h
    refine ⟨_, rfl, _, rfl, _, rfl, _, rfl, _, rfl, _, rfl, rfl, rfl, calm_step (d := d) (hV.same s14) hO (Nat.le_refl _) (.inl (seqL_same s14 hS)) hW (hu.same s14) zM (Nat.le_refl _) h1 (hL.same s14) hk fun B2 hB2 => ?_⟩
    have eB : ∀ i, i ≤ ws.length → B2 i = B i := fun i hi => Bco.uniq hB2 hB ws.length i (by omega) hi
    have e0 := eB 0 (by omega)
    have ec := calmL_congr (f := fSh b ws d) (M := M) (ps := ps) eB ws.length 0 (by omega) (by omega)
    have tail : ∀ (vc : V) (H5 : Hp), Same H4 H5 → ClV K H5 vc (fSh b ws d) M ps ws.length B → ∀ l5 H6, H5 l5 = none → Same H5 H6 → H6 l5 = some (.lst (natV (begL (fSh b ws d) M ws.length))) → ∀ p1, H6 p1 = none → ∀ p, (upd H6 p1 (.lst [vc, .ref l5])) p = none → Q (.ref p) (upd (upd H6 p1 (.lst [vc, .ref l5])) p (.lst ([.ref t1, .ref t2, w] ++ [vc, .ref l5]))) := fun vc H5 s5 hc l5 H6 n5 s6 h6 p1 np1 p np => by
      have t1' := same_new (o := .lst [vc, .ref l5]) np1
      have t2' := same_new (o := .lst ([.ref t1, .ref t2, w] ++ [vc, .ref l5])) np
      have s67 := t1'.trans t2'
      exact q p l5 g B _ (nb (s14.trans (s5.trans (s6.trans t1'))) np) (nb (s14.trans s5) n5) (s14.trans (s5.trans (s6.trans s67))) hg hB (rest vc H5 s5 hc l5 _ n5 (s6.trans t1') (t1' _ _ h6) p np)
    refine ⟨fun h0 H5 s5 => ?_, fun k hk0 t s H5 s5 ht hs => ?_⟩
    · refine ⟨_, rfl, _, rfl, _, rfl, _, rfl, rfl, rfl, begs_step (d := d) (hV.same (s14.trans s5)) hO (Nat.le_refl _) (.inl (seqL_same (s14.trans s5) hS)) hW (hu.same (s14.trans s5)) zM (Nat.le_refl _) h1 fun l5 H6 n5 s6 h6 => ?_⟩
      refine ⟨(show 2 ≤ sizeLine by decide), fun p1 np1 => ?_⟩
      refine ⟨p0, p1, _, _, rfl, rfl, (same_new np1) _ _ (s6 _ _ (s5 _ _ hp0)), upd_same, (show 5 ≤ sizeLine by decide), fun p np => ?_⟩
      exact tail .non H5 s5 (.inl ⟨by rw [← e0]; exact h0, rfl⟩) l5 H6 n5 s6 h6 p1 np1 p np
    · refine ⟨_, rfl, _, rfl, _, rfl, _, rfl, rfl, rfl, begs_step (d := d) (hV.same (s14.trans s5)) hO (Nat.le_refl _) (.inl (seqL_same (s14.trans s5) hS)) hW (hu.same (s14.trans s5)) zM (Nat.le_refl _) h1 fun l5 H6 n5 s6 h6 => ?_⟩
      refine ⟨(show 2 ≤ sizeLine by decide), fun p1 np1 => ?_⟩
      refine ⟨p0, p1, _, _, rfl, rfl, (same_new np1) _ _ (s6 _ _ (s5 _ _ hp0)), upd_same, (show 5 ≤ sizeLine by decide), fun p np => ?_⟩
      exact tail (.ref t) H5 s5 (.inr ⟨k, t, s, by rw [← e0]; exact hk0, rfl, SqT.of ht, by rw [← ec]; exact SqT.of hs⟩) l5 H6 n5 s6 h6 p1 np1 p np
end
end Cc
set_option exponentiation.threshold 10000
set_option maxHeartbeats 20000000
namespace Cc
open PySem PySem.Spec PyProof.Rows L2
local macro_rules | `(tactic| walk_at "sd") => `(tactic| first
  | exact cmul_r ⟨by decide, by decide⟩
  | exact cmul_l ⟨by decide, by decide⟩
  | exact cmul_l ⟨by omega, by omega⟩
  | exact cmul_w (by assumption) (by assumption) (by decide)
  | exact (show CPow 10 18 from ⟨by decide, by decide, by decide⟩)
  | exact (show (0 : Int) < 2147483629 by decide)
  | exact (show CDiv _ _ from ⟨by decide, by decide⟩)
  | exact (show CDiv _ _ from ⟨by assumption, by assumption⟩)
  | assumption)
local macro_rules | `(tactic| walk_at "rd") => `(tactic| first
  | refine ⟨_, rfl, ?_⟩
  | refine ⟨_, _, rfl, rfl, ?_⟩
  | (refine ⟨_, ?_, _, ?_, rfl, rfl, ?_, ?_, ?_⟩; rotate_left 2; (first | exact SqL.of (by assumption) | (show SqT _ _ _ _; assumption) | (show SqL _ _ _ _; assumption)); (first | exact rfl | assumption))
  | (refine ⟨_, ?_, rfl, ?_, ?_⟩; rotate_left 1; (first | exact .inl (SqL.of (by assumption)) | exact .inl (SqL.of upd_same)))
  | (refine And.intro ?_ ?_; (focus (walk_at "sd"))))
section
variable {P : Program} {w : World} {K : PySem.W.Frag} {mg : Str → Option Value} {base : Heap}
theorem wok_mul {ws : List Int} {m k : Int} (hW : WOk ws) (hm : m ∈ ws) (hmax : ∀ y ∈ ws, y ≤ m) (hk : 1 ≤ k) (hk2 : k ≤ Int.fdiv 400000 m) : WOk (ws.map (· * k)) := by
  refine ⟨by rw [List.length_map]; exact hW.l0, by rw [List.length_map]; exact hW.l1, fun x hx => ?_⟩
  obtain ⟨y, hy, rfl⟩ := List.mem_map.mp hx
  have h1 := hW.w y hy
  have h2 := hmax y hy
  have h3 := (hW.w m hm).1
  have e : Int.fdiv 400000 m * m ≤ 400000 := by
    rw [Int.fdiv_eq_ediv_of_nonneg _ (by omega)]
    exact Int.ediv_mul_le _ (by omega)
  have g1 : y * k ≤ m * k := Int.mul_le_mul_of_nonneg_right h2 (by omega)
  have g2 : m * k ≤ m * Int.fdiv 400000 m := Int.mul_le_mul_of_nonneg_left hk2 (by omega)
  have g3 : Int.fdiv 400000 m * m = m * Int.fdiv 400000 m := Int.mul_comm _ _
  have g4 : 1 * 1 ≤ y * k := Int.mul_le_mul h1.1 hk (by omega) (by omega)
  exact ⟨by omega, by omega⟩
theorem fdiv_one {m : Int} (h1 : 1 ≤ m) (h2 : m ≤ 400000) : 1 ≤ Int.fdiv 400000 m ∧ Int.fdiv 400000 m ≤ 400000 := by
  rw [Int.fdiv_eq_ediv_of_nonneg _ (by omega)]
  refine ⟨(Int.le_ediv_iff_mul_le (by omega)).mpr (by omega), Int.ediv_le_self _ (by decide)⟩
theorem neq_of {d : PyData} (h : PyData.eqv d d = true) : (!PyData.eqv d d) = false := by rw [h]; rfl
theorem ok_law {f : Addr} {fd : FuncData} (T : Tops K mg) (F : Fun K "law" "law" s_law f fd) (D_laid : DefOkS P w K mg base 6 "laid" ps_laid 3 (.str "down") (spLaid K)) (D_law_bag : DefOk P w K mg base 1 "_law_bag" ps__law_bag (spBag K)) (D_law_get : DefOk P w K mg base 1 "_law_get" ps__law_get spGet) (D_law_plus : DefOk P w K mg base 3 "_law_plus" ps__law_plus (spTwo K (fun _ _ => True) fun x y => x + y)) (D_law_times : DefOk P w K mg base 3 "_law_times" ps__law_times (spTwo K (fun _ _ => True) fun x y => x * y)) (D_law_some_part : DefOk P w K mg base 4 "_law_some_part" ps__law_some_part (spSomePart K)) (D_law_above : DefOk P w K mg base 5 "_law_above" ps__law_above (spAbove K)) (D_law_box : DefOk P w K mg base 6 "_law_box" ps__law_box (spSomeBox K)) (D_law_weights : DefOk P w K mg base 3 "_law_weights" ps__law_weights (spWeights K)) (D_law_sizes : DefOk P w K mg base 2 "_law_sizes" ps__law_sizes (spLSizes K)) (D_law_lean : DefOk P w K mg base 2 "_law_lean" ps__law_lean spLean) (D_law_bound : DefOk P w K mg base 3 "_law_bound" ps__law_bound (spBound K)) (D_law_turned_lean : DefOk P w K mg base 1 "_law_turned_lean" ps__law_turned_lean spTurned) (D_law_kept : DefOk P w K mg base 3 "_law_kept" ps__law_kept (spLKept K)) (D_law_about : DefOk P w K mg base 1 "_law_about" ps__law_about (spAbout K)) (D_law_all : DefOk P w K mg base 8 "_law_all" ps__law_all (spLAll K)) : FnOk P w K mg base CX0 9 f fd ps_law (spLaw K) := by
  refine F.ok sc_law (fun vs H Q E h => ?_) (fun cdv A outer s H vs Q E hr h => ?_)
  · obtain ⟨_, _, rfl, _⟩ := h
    rfl
  · obtain ⟨a, ns, rfl, hS, hlen, q⟩ := h
    refine ⟨_, (pss_cons (ps_set (i := 1) sc_law.nd rfl (.inl rfl) (pe_callD D_law_bag hr (by decide) (by rfl) (pa_cons (pv 0) pa_nil))) (pss_cons (ps_for PassesOwn.never rfl (pi_range1 rfl T.m_range (pa_cons pe_int pa_nil)) (pg_name (i := 2) sc_law.nd rfl (.inl rfl)) (pss_cons (ps_par3 (i := 3) (j := 4) (l := 5) (by rfl) sc_law.nd rfl rfl rfl (by decide) (by decide) (by decide) rfl rfl rfl (pa_cons (pe_callD D_law_box hr (by decide) (by rfl) (pa_cons (pv 1) pa_nil)) (pa_cons (pe_callD D_law_weights hr (by decide) (by rfl) (pa_cons (pv 1) (pa_cons pe_int pa_nil))) (pa_cons (pe_callD D_law_lean hr (by decide) (by rfl) (pa_cons (pv 1) pa_nil)) pa_nil))) (by rfl)) (pss_cons (ps_par3 (i := 6) (j := 7) (l := 8) (by rfl) sc_law.nd rfl rfl rfl (by decide) (by decide) (by decide) rfl rfl rfl (pa_cons (pe_callD D_law_sizes hr (by decide) (by rfl) (pa_cons (pv 1) (pa_cons (pe_callB call_len_seq (by rfl) T.m_len PySem.boot_len (pa_cons (pv 4) pa_nil)) pa_nil))) (pa_cons (pe_callD D_law_bound hr (by decide) (by rfl) (pa_cons (pv 1) pa_nil)) (pa_cons (pe_callD D_law_kept hr (by decide) (by rfl) (pa_cons (pv 1) (pa_cons (pe_callB call_len_seq (by rfl) T.m_len PySem.boot_len (pa_cons (pv 4) pa_nil)) pa_nil))) pa_nil))) (by rfl)) (pss_cons (ps_set (i := 9) sc_law.nd rfl (.inl rfl) (pe_callD D_law_all hr (by decide) (by rfl) (pa_cons (pv 3) (pa_cons (pv 4) (pa_cons (pv 5) (pa_cons (pv 7) (pa_cons (pv 8) pa_nil))))))) (pss_cons (ps_if (pt_cmpR (op_neD hr.units) (pe_callD D_law_all hr (by decide) (by rfl) (pa_cons (pe_callD D_law_about hr (by decide) (by rfl) (pa_cons (pv 3) pa_nil)) (pa_cons (pv 4) (pa_cons (pe_callD D_law_turned_lean hr (by decide) (by rfl) (pa_cons (pv 5) pa_nil)) (pa_cons (pv 7) (pa_cons (pv 8) pa_nil)))))) (pv 9) (nomark _)) (pss_one (ps_ret pe_bl)) pss_nil) (pss_cons (ps_set (i := 10) sc_law.nd rfl (.inl rfl) (pe_callS1 D_laid hr (by decide) (by rfl) (pa_cons (pv 3) (pa_cons (pv 4) (pa_cons (pv 6) pa_nil))) (pk_cons (pv 5) pk_nil))) (pss_cons (ps_set (i := 11) sc_law.nd rfl (.inl rfl) (pe_callS1 D_laid hr (by decide) (by rfl) (pa_cons (pe_callD D_law_about hr (by decide) (by rfl) (pa_cons (pv 3) pa_nil)) (pa_cons (pv 4) (pa_cons (pv 6) pa_nil))) (pk_cons (pe_callD D_law_turned_lean hr (by decide) (by rfl) (pa_cons (pv 5) pa_nil)) pk_nil))) (pss_cons (ps_if (pt_cmpR (op_neD hr.units) (pe_lc (own := [("_law_one", 16)]) (g := gName 16) (by rfl) sc_law.nd (pi_list (pv 11)) (blkOk_by (own := [("_law_one", 16)]) (N := ["_law_script", "_law_bag_here", "_law_turn", "_law_box_here", "_law_weights_here", "_law_lean_here", "_law_sizes_here", "_law_bound_now", "_law_kept_here", "_law_due", "_law_boxes_now", "_law_other", "_law_by", "_law_shift", "_law_great", "_law_times_now", "_law_one"]) (sc := defScope s_law) (by decide +kernel)) (fun _ _ _ _ _ => (pg_name (i := 16) sc_law.nd rfl (.inl rfl))) (fun _ _ _ _ _ => pts_nil) (fun _ _ _ _ _ => (pe_callD D_law_about hr (by decide) (by rfl) (pa_cons (pv 16) pa_nil)))) (pv 10) (nomark _)) (pss_one (ps_ret pe_bl)) pss_nil) (pss_cons (ps_par (i := 12) (j := 13) (by rfl) sc_law.nd rfl rfl (by decide) rfl rfl (pa_cons (pe_callD D_law_above hr (by decide) (by rfl) (pa_cons (pv 1) pa_nil)) (pa_cons (pe_callD D_law_some_part hr (by decide) (by rfl) (pa_cons (pv 1) pa_nil)) pa_nil)) (by rfl)) (pss_cons (ps_set (i := 14) sc_law.nd rfl (.inl rfl) (pe_tup (pa_cons (pe_callD D_law_plus hr (by decide) (by rfl) (pa_cons (pe_ix ix_tup (pv 3) pe_int (fun _ _ => rfl)) (pa_cons (pv 13) pa_nil))) (pa_cons (pe_ix ix_tup (pv 3) pe_int (fun _ _ => rfl)) (pa_cons (pe_callD D_law_times hr (by decide) (by rfl) (pa_cons (pe_ix ix_tup (pv 3) pe_int (fun _ _ => rfl)) (pa_cons (pv 12) pa_nil))) (pa_cons (pe_callD D_law_times hr (by decide) (by rfl) (pa_cons (pe_ix ix_tup (pv 3) pe_int (fun _ _ => rfl)) (pa_cons (pv 12) pa_nil))) pa_nil)))))) (pss_cons (ps_if (pt_cmpR (op_neD hr.units) (pe_callD D_law_all hr (by decide) (by rfl) (pa_cons (pv 14) (pa_cons (pv 4) (pa_cons (pv 5) (pa_cons (pv 7) (pa_cons (pv 8) pa_nil)))))) (pv 9) (nomark _)) (pss_one (ps_ret pe_bl)) pss_nil) (pss_cons (ps_set (i := 15) sc_law.nd rfl (.inr rfl) (pe_op op_add pe_int (pe_callD D_law_get hr (by decide) (by rfl) (pa_cons (pv 1) (pa_cons (pe_op op_fdivA pe_int (pe_callB (cr_maxA rfl) (by rfl) T.m_max (by decide +kernel) (pa_cons (pv 4) pa_nil))) pa_nil))))) (pss_cons (ps_if (pt_cmpR (op_neD hr.units) (pe_callD D_law_all hr (by decide) (by rfl) (pa_cons (pv 3) (pa_cons (pe_lc (own := [("_law_one", 16)]) (g := gName 16) (by rfl) sc_law.nd (pi_list (pv 4)) (blkOk_by (own := [("_law_one", 16)]) (N := ["_law_script", "_law_bag_here", "_law_turn", "_law_box_here", "_law_weights_here", "_law_lean_here", "_law_sizes_here", "_law_bound_now", "_law_kept_here", "_law_due", "_law_boxes_now", "_law_other", "_law_by", "_law_shift", "_law_great", "_law_times_now", "_law_one"]) (sc := defScope s_law) (by decide +kernel)) (fun _ _ _ _ _ => (pg_name (i := 16) sc_law.nd rfl (.inl rfl))) (fun _ _ _ _ _ => pts_nil) (fun _ _ _ _ _ => (pe_op op_mulA (pv 16) (pv 15)))) (pa_cons (pv 5) (pa_cons (pv 7) (pa_cons (pv 8) pa_nil)))))) (pv 9) (nomark _)) (pss_one (ps_ret pe_bl)) pss_nil) (pss_one (ps_if (pt_cmpR (op_neD hr.units) (pe_callS1 D_laid hr (by decide) (by rfl) (pa_cons (pv 3) (pa_cons (pe_lc (own := [("_law_one", 16)]) (g := gName 16) (by rfl) sc_law.nd (pi_list (pv 4)) (blkOk_by (own := [("_law_one", 16)]) (N := ["_law_script", "_law_bag_here", "_law_turn", "_law_box_here", "_law_weights_here", "_law_lean_here", "_law_sizes_here", "_law_bound_now", "_law_kept_here", "_law_due", "_law_boxes_now", "_law_other", "_law_by", "_law_shift", "_law_great", "_law_times_now", "_law_one"]) (sc := defScope s_law) (by decide +kernel)) (fun _ _ _ _ _ => (pg_name (i := 16) sc_law.nd rfl (.inl rfl))) (fun _ _ _ _ _ => pts_nil) (fun _ _ _ _ _ => (pe_op op_mulA (pv 16) (pv 15)))) (pa_cons (pv 6) pa_nil))) (pk_cons (pv 5) pk_nil)) (pv 10) (nomark _)) (pss_one (ps_ret pe_bl)) pss_nil))))))))))))))) (pss_one (ps_ret pe_bl)))), ?_⟩
    refine ⟨_, rfl, a, ns, rfl, hS, hlen, fun b H1 nb s1 hB => ?_⟩
    refine ⟨2, rfl, by decide, by decide, for_range (lo := 0) (n := 2) (fun i σ H' => ∃ (v2 v3 v4 v5 v6 v7 v8 v9 v10 v11 v12 v13 v14 v15 : Option V), σ = [some (.ref a), some (.ref b), v2, v3, v4, v5, v6, v7, v8, v9, v10, v11, v12, v13, v14, v15, none] ∧ Bag H' b) ⟨none, none, none, none, none, none, none, none, none, none, none, none, none, none, rfl, hB⟩ ?_ ?_⟩
    · rintro i σ H2 hi ⟨v2, v3, v4, v5, v6, v7, v8, v9, v10, v11, v12, v13, v14, v15, rfl, hB2⟩
      refine ⟨_, rfl, somebox_step hB2 fun w bx H3 hw hb hB3 k3 => ?_⟩
      refine ⟨_, rfl, weights_step (m := 7) hB3 (by decide) (by decide) fun L ws H4 nL hL hW hB4 k4 => ?_⟩
      have fresh : ∀ {D : Addr} {G : Hp}, Bag G b → G D = none → D ≠ b := fun hB h z => by
        obtain ⟨ys, hy⟩ := hB.lst
        rw [z, hy] at h
        cases h
      have hLb : L ≠ b := fresh hB3 nL
      have hw := hw.bag k4 hB3
      refine ⟨_, rfl, lean_step hB4 fun d H5 hB5 k5 => ?_⟩
      have hw := hw.bag k5 hB4
      have hL := k5 _ _ hL hLb
      refine ⟨_, _, _, rfl, ?_⟩
      have hl0 := hW.l0
      have hl1 := hW.l1
      refine ⟨_, rfl, _, rfl, L, _, rfl, .inl (SqL.of hL), lsizes_step (n := ws.length) hB5 hl0 hl1 (fun t ss H6 ht hSz hB6 k6 => ?_) (by rw [List.length_map]; rfl)⟩
      have hw := hw.bag k6 hB5
      have hL := k6 _ _ hL hLb
      have ht : SqT K H6 t (ss.map V.int) := SqT.of ht
      refine ⟨_, rfl, bound_step hB6 fun vb M H7 hM g1 zM hB7 k7 => ?_⟩
      have hw := hw.bag k7 hB6
      have hL := k7 _ _ hL hLb
      have ht : SqT K H7 t (ss.map V.int) := by
        obtain ⟨ys, hy⟩ := hB6.lst
        exact seqT_kp k7 hy ht
      refine ⟨_, rfl, _, rfl, L, _, rfl, .inl (SqL.of hL), lkept_step (n := ws.length) hB7 hl0 hl1 (fun Lk us ps H8 nLk hLk hP hkk hB8 k8 => ?_) (by rw [List.length_map]; rfl)⟩
      have hLkb : Lk ≠ b := fresh hB7 nLk
      have hK : KpL H8 Lk us ps := ⟨hLk, hP⟩
      have hw := hw.bag k8 hB7
      have hM := hM.bag k8 hB7
      have hL := k8 _ _ hL hLb
      have ht : SqT K H8 t (ss.map V.int) := by
        obtain ⟨ys, hy⟩ := hB7.lst
        exact seqT_kp k8 hy ht
      clear hP hLk
      refine ⟨_, _, _, rfl, ?_⟩
      -- what is due
      refine ⟨_, rfl, _, rfl, _, rfl, _, rfl, _, rfl, lall_step (d := d) hw hb (by decide) (SqL.of hL) hW hM zM (by decide) g1 hK.sp hkk fun p l5 g B H9 np nl s9 hg hBc hA => ?_⟩
      have hpb : p ≠ b := fresh hB8 np
      have hl5b : l5 ≠ b := fresh hB8 nl
      have hw := hw.same s9
      have hM := hM.same s9
      have hL := s9 _ _ hL
      have ht := seqT_same s9 ht
      have hK := hK.same s9
      have hB9 := hB8.same s9
      -- turned about
      refine ⟨_, rfl, about_step hw fun u H10 s10 hu => ?_⟩
      refine ⟨_, rfl, _, rfl, turned_step ?_⟩
      refine ⟨_, rfl, _, rfl, lall_step (d := !d) hu hb.tn (by decide) (SqL.of (s10 _ _ hL)) hW (hM.same s10) zM (by decide) g1 (hK.same s10).sp hkk fun p2 l52 g2 B2 H11 np2 nl2 s11 hg2 hB2c hA2 => ?_⟩
      rw [fSh_turn] at hg2 hB2c hA2
      have s911 := s10.trans s11
      refine ⟨_, rfl, _, _, hA2.dp, (hA.same s911).dp, allD_shaped _ _ _ _ _ _, allD_shaped _ _ _ _ _ _, _, rfl, ?_⟩
      rw [allD_same hg2 hg hB2c hBc, neq_of (allD_eqv _ _ _ _ _ _)]
      refine iteF ?_
      have hA := hA.same s911
      have hw := hw.same s911
      have hM := hM.same s911
      have hL := s911 _ _ hL
      have ht := seqT_same s911 ht
      have hK := hK.same s911
      have hB11 := hB9.same s911
      clear hA2 hu hg2 hB2c s911
      -- laid
      refine ⟨_, rfl, _, rfl, _, rfl, _, rfl, rfl, rfl, laid_step (d := d) hw hb (by decide) (.inl (SqL.of hL)) hW ht hSz fun N xs H12 nN s12 hN hBs => ?_⟩
      have hNb : N ≠ b := fresh hB11 nN
      have hw := hw.same s12
      refine ⟨_, rfl, about_step hw fun u H13 s13 hu => ?_⟩
      have s1113 := s12.trans s13
      refine ⟨_, rfl, _, rfl, _, rfl, turned_step ?_⟩
      refine ⟨rfl, rfl, laid_step (d := !d) hu hb.tn (by decide) (.inl (SqL.of (s1113 _ _ hL))) hW (seqT_same s1113 ht) hSz fun N2 ys H14 nN2 s14 hN2 hBs2 => ?_⟩
      rw [laidM_tn] at hBs2
      have hw := hw.same (s13.trans s14)
      have s1114 := s1113.trans s14
      have hA := hA.same s1114
      have hM := hM.same s1114
      have hL := s1114 _ _ hL
      have ht := seqT_same s1114 ht
      have hK := hK.same s1114
      have hN := (s13.trans s14) _ _ hN
      have hBs := hBs.same (s13.trans s14)
      have hB14 := hB11.same s1114
      refine ⟨_, rfl, N2, rfl, ⟨_, SqL.of hN2⟩, fun D nD => ?_⟩
      have hyl := hBs2.len
      rw [List.length_map, laidM_len bx d hSz] at hyl
      refine lc_list (xs := ys) (fun n H' => Same H14 H' ∧ ∃ qs, H' D = some (.lst qs) ∧ qs.length = n ∧ Bxs K H' qs ((laidM bx ws ss d).take n)) ⟨same_new nD, [], upd_same, rfl, by rw [List.take_zero]; exact .nil⟩ (fun n H' _ z => SqL.of (z.1 _ _ hN2)) ?_ ?_
      · rintro n x H' hx ⟨sH, qs, hQ, hql, hqs⟩
        have hn : n < ys.length := (List.getElem?_eq_some_iff.mp hx).1
        obtain ⟨bb, hbb, hxv⟩ := hBs2.get hx
        rw [List.getElem?_map] at hbb
        obtain ⟨b2, hb2, rfl⟩ : ∃ b2, (laidM bx ws ss d)[n]? = some b2 ∧ tnB b2 = bb := by
          cases e : (laidM bx ws ss d)[n]? with
          | none => rw [e] at hbb; cases hbb
          | some b2 => rw [e] at hbb; injection hbb with hbb; exact ⟨b2, rfl, hbb⟩
        refine ⟨rfl, _, rfl, about_step (hxv.same sH) fun u2 H'' s'' hu2 => ?_⟩
        refine ⟨qs, s'' _ _ hQ, small1000 (by omega), same_write nD (sH.trans s''), qs ++ [u2], upd_same, by rw [List.length_append, hql]; rfl, ?_⟩
        rw [List.take_add_one, hb2]
        have e0 := (hqs.same s'').snoc hu2
        exact e0.kp Kp.upd (s'' _ _ hQ)
      rintro H15 ⟨s15, qs, hQ, hql, hqs⟩
      rw [List.take_of_length_le (by rw [laidM_len bx d hSz]; omega)] at hqs
      refine ⟨_, rfl, _, _, .lst (SqL.of hQ) hqs.dp, .lst (SqL.of (s15 _ _ hN)) (hBs.same s15).dp, boxes_shaped _, boxes_shaped _, _, rfl, ?_⟩
      rw [neq_of (boxes_eqv _)]
      refine iteF ?_
      have hA := hA.same s15
      have hw := hw.same s15
      have hM := hM.same s15
      have hL := s15 _ _ hL
      have ht := seqT_same s15 ht
      have hK := hK.same s15
      have hN := s15 _ _ hN
      have hBs := hBs.same s15
      have hB15 := hB14.same s15
      clear hqs hQ hBs2 hN2 hu
      -- made greater and moved
      refine ⟨_, rfl, above_step hB15 fun vy y H16 hy y0 zy hB16 k16 => ?_⟩
      refine ⟨_, rfl, b, rfl, hB16, fun vz z H17 hz zz hB17 k17 => ?_⟩
      refine ⟨_, _, rfl, ?_⟩
      have kk := k16.trans k17
      have hy := hy.bag k17 hB16
      have hA := hA.bag hpb hl5b kk hB15
      have hw := hw.bag kk hB15
      have hM := hM.bag kk hB15
      have hL := kk _ _ hL hLb
      have ht : SqT K H17 t (ss.map V.int) := by
        obtain ⟨ys, hy⟩ := hB15.lst
        exact seqT_kp kk hy ht
      have hK := hK.bag hLkb kk hB15
      have hN := kk _ _ hN hNb
      have hBs := hBs.bag kk hB15
      obtain ⟨ab, w1, w2, w3, w4, rfl, hT, hw1, hw2, hw3, hw4⟩ := hw
      refine ⟨_, rfl, ab, _, 0, w1, rfl, rfl, hT, by rfl, _, rfl, two_step hw1 hz hb.sl zz (by decide) (by decide) trivial fun u1 H18 s18 hu1 => ?_⟩
      refine ⟨_, rfl, ab, _, 1, w2, rfl, rfl, seqT_same s18 hT, by rfl, ?_⟩
      refine ⟨_, rfl, ab, _, 2, w3, rfl, rfl, seqT_same s18 hT, by rfl, _, rfl, two_step (hw3.same s18) (hy.same s18) hb.sw zy (by decide) (by decide) trivial fun u3 H19 s19 hu3 => ?_⟩
      have s1719 := s18.trans s19
      refine ⟨_, rfl, ab, _, 3, w4, rfl, rfl, seqT_same s1719 hT, by rfl, _, rfl, two_step (hw4.same s1719) (hy.same s1719) hb.sh zy (by decide) (by decide) trivial fun u4 H20 s20 hu4 => ?_⟩
      refine ⟨(show 4 ≤ sizeLine by decide), fun pg npg => ?_⟩
      have s1720 := s1719.trans s20
      have hG := BxV.mk (K := K) (b := ⟨bx.l + z, bx.t, bx.w * y, bx.h * y⟩) npg (hu1.same (s19.trans s20)) (hw2.same s1720) (hu3.same s20) hu4
      have sg := same_new (o := .tup [u1, w2, u3, u4]) npg
      generalize upd H20 pg (.tup [u1, w2, u3, u4]) = H21 at *
      have s1721 := s1720.trans sg
      have hO : Bx.Ok 410 ⟨bx.l + z, bx.t, bx.w * y, bx.h * y⟩ := ⟨Rat.mul_pos hb.w0 y0, Rat.mul_pos hb.h0 y0, sz_add hb.sl zz (by decide), hb.st.mono (by decide), sz_mul hb.sw zy (by decide), sz_mul hb.sh zy (by decide)⟩
      have hA := hA.same s1721
      have hw : BxV K H21 (.ref ab) bx := ⟨ab, w1, w2, w3, w4, rfl, seqT_same s1721 hT, hw1.same s1721, hw2.same s1721, hw3.same s1721, hw4.same s1721⟩
      have hM := hM.same s1721
      have hL := s1721 _ _ hL
      have ht := seqT_same s1721 ht
      have hK := hK.same s1721
      have hN := s1721 _ _ hN
      have hBs := hBs.same s1721
      have hB21 := hB17.same s1721
      refine ⟨_, rfl, _, rfl, _, rfl, _, rfl, _, rfl, lall_step (d := d) hG hO (by decide) (SqL.of hL) hW hM zM (by decide) g1 hK.sp hkk fun p2 l52 g2 B2 H22 np2 nl2 s22 hg2 hB2c hA2 => ?_⟩
      rw [fSh_great (b := bx) y0 rfl rfl hb.w0 hb.h0] at hg2 hB2c hA2
      refine ⟨_, rfl, _, _, hA2.dp, (hA.same s22).dp, allD_shaped _ _ _ _ _ _, allD_shaped _ _ _ _ _ _, _, rfl, ?_⟩
      rw [allD_same hg2 hg hB2c hBc, neq_of (allD_eqv _ _ _ _ _ _)]
      refine iteF ?_
      have hA := hA.same s22
      have hw := hw.same s22
      have hM := hM.same s22
      have hL := s22 _ _ hL
      have ht := seqT_same s22 ht
      have hK := hK.same s22
      have hN := s22 _ _ hN
      have hBs := hBs.same s22
      have hB22 := hB21.same s22
      clear hA2 hg2 hB2c hG hO
      -- weights made greater
      refine ⟨_, rfl, _, rfl, L, ws, rfl, .inl (SqL.of hL), hl0, fun m hm hmax => ?_⟩
      have hmw := hW.w m hm
      obtain ⟨hq1, hq2⟩ := fdiv_one hmw.1 hmw.2
      refine ⟨_, _, rfl, rfl, ⟨by omega, Nat.lt_trans (show m.natAbs < 2 ^ 20 by omega) (Nat.pow_lt_pow_right (by decide) (by decide))⟩, b, _, rfl, hB22, by omega, by omega, fun r H23 r0 r1 hB23 k23 => ?_⟩
      refine ⟨_, _, rfl, rfl, ?_⟩
      have kk := k23.k0
      have hA := hA.bag hpb hl5b kk hB22
      have hw := hw.bag kk hB22
      have hM := hM.bag kk hB22
      have hL := kk _ _ hL hLb
      have ht : SqT K H23 t (ss.map V.int) := by
        obtain ⟨ys, hy⟩ := hB22.lst
        exact seqT_kp kk hy ht
      have hK := hK.bag hLkb kk hB22
      have hN := kk _ _ hN hNb
      have hBs := hBs.bag kk hB22
      obtain ⟨k, hk⟩ : ∃ k, k = 1 + r := ⟨_, rfl⟩
      dsimp only
      rw [← hk]
      have hWk := wok_mul (k := k) hW hm hmax (by omega) (by omega)
      refine ⟨_, rfl, _, rfl, L, rfl, ⟨_, SqL.of hL⟩, fun D nD => ?_⟩
      refine lc_list (xs := ws.map V.int) (fun n H' => Same H23 H' ∧ H' D = some (.lst ((ws.take n).map fun x => V.int (x * k)))) ⟨same_new nD, upd_same⟩ (fun n H' _ z => SqL.of (z.1 _ _ hL)) ?_ ?_
      · rintro n x H' hx ⟨sH, hQ⟩
        rw [List.getElem?_map] at hx
        obtain ⟨x0, hx0, rfl⟩ : ∃ x0, ws[n]? = some x0 ∧ V.int x0 = x := by
          cases e : ws[n]? with
          | none => rw [e] at hx; cases hx
          | some b2 => rw [e] at hx; injection hx with hx; exact ⟨b2, rfl, hx⟩
        have hxw := hW.w x0 (List.mem_of_getElem? hx0)
        refine ⟨rfl, _, rfl, _, rfl, _, _, rfl, rfl, cmul_l ⟨by omega, by omega⟩, _, hQ, small1000 (by rw [List.length_map, List.length_take]; omega), same_write nD sH, ?_⟩
        rw [List.take_add_one, hx0, List.map_append]
        exact upd_same
      rintro H24 ⟨s24, hQ⟩
      rw [List.length_map, List.take_length] at hQ
      have hQ : H24 D = some (.lst ((ws.map (· * k)).map V.int)) := by rw [hQ, List.map_map]; rfl
      refine ⟨_, rfl, _, rfl, _, rfl, lall_step (d := d) (hw.same s24) hb (by decide) (SqL.of hQ) hWk (hM.same s24) zM (by decide) g1 (hK.same s24).sp (by rw [List.length_map]; exact hkk) fun p2 l52 g2 B2 H25 np2 nl2 s25 hg2 hB2c hA2 => ?_⟩
      have k1 : 0 < k := by omega
      rw [fSh_scale _ _ _ k1, List.length_map] at hg2 hB2c hA2
      refine ⟨_, rfl, _, _, hA2.dp, (hA.same (s24.trans s25)).dp, allD_shaped _ _ _ _ _ _, allD_shaped _ _ _ _ _ _, _, rfl, ?_⟩
      rw [allD_same hg2 hg hB2c hBc, neq_of (allD_eqv _ _ _ _ _ _)]
      refine iteF ?_
      have s2325 := s24.trans s25
      have hw := hw.same s2325
      have hL := s2325 _ _ hL
      have ht := seqT_same s2325 ht
      have hN := s2325 _ _ hN
      have hBs := hBs.same s2325
      have hB25 := hB23.same s2325
      refine ⟨_, rfl, _, rfl, L, rfl, ⟨_, SqL.of hL⟩, fun D nD => ?_⟩
      refine lc_list (xs := ws.map V.int) (fun n H' => Same H25 H' ∧ H' D = some (.lst ((ws.take n).map fun x => V.int (x * k)))) ⟨same_new nD, upd_same⟩ (fun n H' _ z => SqL.of (z.1 _ _ hL)) ?_ ?_
      · rintro n x H' hx ⟨sH, hQ⟩
        rw [List.getElem?_map] at hx
        obtain ⟨x0, hx0, rfl⟩ : ∃ x0, ws[n]? = some x0 ∧ V.int x0 = x := by
          cases e : ws[n]? with
          | none => rw [e] at hx; cases hx
          | some b2 => rw [e] at hx; injection hx with hx; exact ⟨b2, rfl, hx⟩
        have hxw := hW.w x0 (List.mem_of_getElem? hx0)
        refine ⟨rfl, _, rfl, _, rfl, _, _, rfl, rfl, cmul_l ⟨by omega, by omega⟩, _, hQ, small1000 (by rw [List.length_map, List.length_take]; omega), same_write nD sH, ?_⟩
        rw [List.take_add_one, hx0, List.map_append]
        exact upd_same
      rintro H26 ⟨s26, hQ⟩
      rw [List.length_map, List.take_length] at hQ
      have hQ : H26 D = some (.lst ((ws.map (· * k)).map V.int)) := by rw [hQ, List.map_map]; rfl
      refine ⟨_, rfl, _, rfl, rfl, rfl, laid_step (d := d) (hw.same s26) hb (by decide) (.inl (SqL.of hQ)) hWk (seqT_same s26 ht) (by rw [List.length_map]; exact hSz) fun N2 ys H27 nN2 s27 hN2 hBs2 => ?_⟩
      rw [laidM_mul _ _ _ _ k1] at hBs2
      have s2527 := s26.trans s27
      refine ⟨_, rfl, _, _, .lst (SqL.of hN2) hBs2.dp, .lst (SqL.of (s2527 _ _ hN)) (hBs.same s2527).dp, boxes_shaped _, boxes_shaped _, _, rfl, ?_⟩
      rw [neq_of (boxes_eqv _)]
      refine iteF ?_
      exact ⟨_, _, _, _, _, _, _, _, _, _, _, _, _, _, rfl, hB25.same s2527⟩
    · rintro σ H2 ⟨v2, v3, v4, v5, v6, v7, v8, v9, v10, v11, v12, v13, v14, v15, rfl, hB2⟩
      exact q H2
end
end Cc
set_option exponentiation.threshold 10000
set_option maxHeartbeats 20000000
namespace Cc
open PySem PySem.Spec PyProof.Rows L2
theorem law_of {l : PySem.W.OpenLaw} {w : World} {K : PySem.W.Frag} {mg : Str → Option Value} {fa : Addr} (hfa : mg "law" = some (.ref fa)) (T : Tops K mg)
    {h : Heap} (X : K.In h) (G : h.Ns mainGlobals mg) {f : Addr} {oc : Value} {od an : Option Addr} {osl : Array (Option Value)} {kV doc pm cdv ct : Value}
    (a : PySem.W.nsIn K mainGlobals "law" = some (some (.ref f))) (lk : K.lookup f = some ⟨oc, od, .func (PySem.W.fnOf "law" "law" (defArgs s_law) (defBody s_law) (defScope s_law) .none kV doc pm an cdv ct), osl⟩) (c : PySem.W.codeIn K cdv "law" = true) (k : PySem.W.keepIn K (.ref f) = true) :
    ∃ fd : FuncData, (∀ (s : Shared) (v : Value), BindsTo s fd ⟨[v], []⟩ [("_law_script", v)]) ∧ ∀ base : Heap, K.In base → base.Ns mainGlobals mg → FnOk l.prog w K mg base CX0 9 fa fd ["_law_script"] (spLaw K) := by
  have e := hfa.symm.trans (PySem.W.mg_of X G a)
  cases e
  refine ⟨PySem.W.fnOf "law" "law" (defArgs s_law) (defBody s_law) (defScope s_law) .none kV doc pm an cdv ct, fun s v => .of_eq rfl, fun base _ _ => ?_⟩
  have D_is_number := ok_is_number (P := l.prog) (w := w) (base := base) T
  have D_is_part := ok_is_part (P := l.prog) (w := w) (base := base) T D_is_number
  have D_part := ok_part (P := l.prog) (w := w) (base := base) T
  have D_plus := ok_plus (P := l.prog) (w := w) (base := base) T D_part
  have D_times := ok_times (P := l.prog) (w := w) (base := base) T D_part
  have D_over := ok_over (P := l.prog) (w := w) (base := base) T D_part
  have D_less := ok_less (P := l.prog) (w := w) (base := base) T
  have D_lesser := ok_lesser (P := l.prog) (w := w) (base := base) T D_less
  have D_greater := ok_greater (P := l.prog) (w := w) (base := base) T D_less
  have D_least_of := ok_least_of (P := l.prog) (w := w) (base := base) T D_lesser
  have D_is_box := ok_is_box (P := l.prog) (w := w) (base := base) T D_is_part D_less
  have D_slab := ok_slab (P := l.prog) (w := w) (base := base) T D_plus D_times
  have D_shares := ok_shares (P := l.prog) (w := w) (base := base) T D_part D_slab
  have D_check_box := ok_check_box (P := l.prog) (w := w) (base := base) T D_is_box
  have D_check_weights := ok_check_weights (P := l.prog) (w := w) (base := base) T D_is_number
  have D_is_side := ok_is_side (P := l.prog) (w := w) (base := base) T
  have D_check_side := ok_check_side (P := l.prog) (w := w) (base := base) T D_is_side
  have D_check_split := ok_check_split (P := l.prog) (w := w) (base := base) T D_check_box D_check_weights D_check_side
  have D_check_sizes := ok_check_sizes (P := l.prog) (w := w) (base := base) T D_is_number
  have D_row_ends := ok_row_ends (P := l.prog) (w := w) (base := base) T
  have D_laid := ok_laid (P := l.prog) (w := w) (base := base) T D_shares D_check_split D_check_sizes D_row_ends
  have D_shape_between := ok_shape_between (P := l.prog) (w := w) (base := base) T D_part D_times D_over D_greater
  have D_row_shapes := ok_row_shapes (P := l.prog) (w := w) (base := base) T D_shape_between
  have D_check_bound := ok_check_bound (P := l.prog) (w := w) (base := base) T D_is_part D_less
  have D_least_behind := ok_least_behind (P := l.prog) (w := w) (base := base) T D_greater D_least_of
  have D_best := ok_best (P := l.prog) (w := w) (base := base) T D_less D_greater D_check_split D_row_shapes D_least_behind
  have D_least := ok_least (P := l.prog) (w := w) (base := base) T D_check_split D_row_shapes D_least_behind
  have D_greedy := ok_greedy (P := l.prog) (w := w) (base := base) T D_less D_check_split D_row_shapes
  have D_beginnings := ok_beginnings (P := l.prog) (w := w) (base := base) T D_less D_check_split D_row_shapes D_check_bound
  have D_is_row := ok_is_row (P := l.prog) (w := w) (base := base) T D_is_number
  have D_check_calm := ok_check_calm (P := l.prog) (w := w) (base := base) T D_check_split D_check_bound D_is_row
  have D_costs_behind := ok_costs_behind (P := l.prog) (w := w) (base := base) T
  have D_is_as_cheap := ok_is_as_cheap (P := l.prog) (w := w) (base := base) T
  have D_row_cost := ok_row_cost (P := l.prog) (w := w) (base := base) T
  have D_row_costs := ok_row_costs (P := l.prog) (w := w) (base := base) T D_less D_row_shapes D_row_cost
  have D_calm := ok_calm (P := l.prog) (w := w) (base := base) T D_check_calm D_costs_behind D_is_as_cheap D_row_costs
  have D_law_bag := ok_law_bag (P := l.prog) (w := w) (base := base) T
  have D_law_get := ok_law_get (P := l.prog) (w := w) (base := base) T
  have D_law_far := ok_law_far (P := l.prog) (w := w) (base := base) T D_law_get
  have D_law_gcd := ok_law_gcd (P := l.prog) (w := w) (base := base) T
  have D_law_part := ok_law_part (P := l.prog) (w := w) (base := base) T D_law_gcd
  have D_law_plus := ok_law_plus (P := l.prog) (w := w) (base := base) T D_law_part
  have D_law_times := ok_law_times (P := l.prog) (w := w) (base := base) T D_law_part
  have D_law_number := ok_law_number (P := l.prog) (w := w) (base := base) T D_law_get D_law_far
  have D_law_some_part := ok_law_some_part (P := l.prog) (w := w) (base := base) T D_law_get D_law_part D_law_number
  have D_law_above := ok_law_above (P := l.prog) (w := w) (base := base) T D_law_part D_law_some_part
  have D_law_small_box := ok_law_small_box (P := l.prog) (w := w) (base := base) T D_law_get
  have D_law_box := ok_law_box (P := l.prog) (w := w) (base := base) T D_law_get D_law_some_part D_law_above D_law_small_box
  have D_law_weight := ok_law_weight (P := l.prog) (w := w) (base := base) T D_law_get
  have D_law_weights := ok_law_weights (P := l.prog) (w := w) (base := base) T D_law_get D_law_weight
  have D_law_sizes := ok_law_sizes (P := l.prog) (w := w) (base := base) T D_law_get
  have D_law_lean := ok_law_lean (P := l.prog) (w := w) (base := base) T D_law_get
  have D_law_bound := ok_law_bound (P := l.prog) (w := w) (base := base) T D_law_get D_law_part
  have D_law_turned_lean := ok_law_turned_lean (P := l.prog) (w := w) (base := base) T
  have D_law_spots := ok_law_spots (P := l.prog) (w := w) (base := base) T
  have D_law_kept := ok_law_kept (P := l.prog) (w := w) (base := base) T D_law_get D_law_sizes D_law_spots
  have D_law_about := ok_law_about (P := l.prog) (w := w) (base := base) T
  have D_law_all := ok_law_all (P := l.prog) (w := w) (base := base) T D_best D_least D_greedy D_beginnings D_calm
  exact ok_law T (fun_mk lk c k) D_laid D_law_bag D_law_get D_law_plus D_law_times D_law_some_part D_law_above D_law_box D_law_weights D_law_sizes D_law_lean D_law_bound D_law_turned_lean D_law_kept D_law_about D_law_all
end Cc
open PySem PySem.W PyProof.Rows
set_option maxRecDepth 100000 in
set_option maxHeartbeats 0 in
theorem PySem.Challenge.cw_calmcuts_k18_whole_turned_about_made_gre_holds : PySem.Challenge.rw_calmcuts_k18_whole_turned_about_made_gre.Holds := by
  w_on; o_law; k_head; (case hw => w_witness2)
  k_fill
  refine L2.walk_of (l := PySem.Challenge.rw_calmcuts_k18_whole_turned_about_made_gre) (n := 63) (k := 9) (x := "_law_script") (CX := fun _ => L2.CX0) (sp := fun w => Cc.spLaw _) rfl (by decide) rfl ⟨rfl, by decide, by decide⟩ (fun w h Y => PySem.W.kIn_of Y) ?F (fun _ _ a ns hl _ hS => ⟨a, ns, rfl, hS, hl, fun _ => rfl⟩) (fun _ _ _ _ _ h => h)
  case F =>
    intro w mg fa h KX G hmg
    refine' Cc.law_of hmg ?T KX G ?a ?l ?c ?k
    (case a => k_is); (case l => k_is); (case c => k_is); (case k => k_is)
    (case T =>
      refine' ⟨?d_is_number, ?d_is_part, ?d_part, ?d_plus, ?d_times, ?d_over, ?d_less, ?d_lesser, ?d_greater, ?d_least_of, ?d_is_box, ?d_shares, ?d_check_box, ?d_check_weights, ?d_is_side, ?d_check_side, ?d_check_split, ?d_slab, ?d_laid, ?d_row_ends, ?d_row_shapes, ?d_check_sizes, ?d_check_bound, ?d_shape_between, ?d_best, ?d_least, ?d_greedy, ?d_beginnings, ?d_least_behind, ?d_calm, ?d_check_calm, ?d_is_row, ?d_row_cost, ?d_row_costs, ?d_costs_behind, ?d_is_as_cheap, ?d_law_bag, ?d_law_get, ?d_law_far, ?d_law_gcd, ?d_law_part, ?d_law_plus, ?d_law_times, ?d_law_number, ?d_law_some_part, ?d_law_above, ?d_law_small_box, ?d_law_box, ?d_law_weight, ?d_law_weights, ?d_law_sizes, ?d_law_lean, ?d_law_bound, ?d_law_turned_lean, ?d_law_spots, ?d_law_kept, ?d_law_about, ?d_law_all, PySem.W.mg_none_of KX G ?m_abs, PySem.W.mg_none_of KX G ?m_all, PySem.W.mg_none_of KX G ?m_any, PySem.W.mg_none_of KX G ?m_bool, PySem.W.mg_none_of KX G ?m_int, PySem.W.mg_none_of KX G ?m_isinstance, PySem.W.mg_none_of KX G ?m_len, PySem.W.mg_none_of KX G ?m_list, PySem.W.mg_none_of KX G ?m_max, PySem.W.mg_none_of KX G ?m_min, PySem.W.mg_none_of KX G ?m_range, PySem.W.mg_none_of KX G ?m_reversed, PySem.W.mg_none_of KX G ?m_str, PySem.W.mg_none_of KX G ?m_sum, PySem.W.mg_none_of KX G ?m_tuple, PySem.W.mg_none_of KX G ?m_zip, ?m_ACROSS, ?m_DOWN, ?m_MOST_CHILDREN, ?m_MOST_WEIGHT, ?m_NOUGHT, ?m_ONE, PySem.W.mg_of KX G ?m_gcd⟩
      (case d_is_number => refine' Cc.defAt_mk KX G ?a ?l ?c ?k (fun _ _ _ _ _ _ us hl => match us, hl with | [_], _ => rfl); (case a => k_is); (case l => k_is); (case c => k_is); (case k => k_is))
      (case d_is_part => refine' Cc.defAt_mk KX G ?a ?l ?c ?k (fun _ _ _ _ _ _ us hl => match us, hl with | [_], _ => rfl); (case a => k_is); (case l => k_is); (case c => k_is); (case k => k_is))
      (case d_part => refine' Cc.defAt_mk KX G ?a ?l ?c ?k (fun _ _ _ _ _ _ us hl => match us, hl with | [_, _], _ => rfl); (case a => k_is); (case l => k_is); (case c => k_is); (case k => k_is))
      (case d_plus => refine' Cc.defAt_mk KX G ?a ?l ?c ?k (fun _ _ _ _ _ _ us hl => match us, hl with | [_, _], _ => rfl); (case a => k_is); (case l => k_is); (case c => k_is); (case k => k_is))
      (case d_times => refine' Cc.defAt_mk KX G ?a ?l ?c ?k (fun _ _ _ _ _ _ us hl => match us, hl with | [_, _], _ => rfl); (case a => k_is); (case l => k_is); (case c => k_is); (case k => k_is))
      (case d_over => refine' Cc.defAt_mk KX G ?a ?l ?c ?k (fun _ _ _ _ _ _ us hl => match us, hl with | [_, _], _ => rfl); (case a => k_is); (case l => k_is); (case c => k_is); (case k => k_is))
      (case d_less => refine' Cc.defAt_mk KX G ?a ?l ?c ?k (fun _ _ _ _ _ _ us hl => match us, hl with | [_, _], _ => rfl); (case a => k_is); (case l => k_is); (case c => k_is); (case k => k_is))
      (case d_lesser => refine' Cc.defAt_mk KX G ?a ?l ?c ?k (fun _ _ _ _ _ _ us hl => match us, hl with | [_, _], _ => rfl); (case a => k_is); (case l => k_is); (case c => k_is); (case k => k_is))
      (case d_greater => refine' Cc.defAt_mk KX G ?a ?l ?c ?k (fun _ _ _ _ _ _ us hl => match us, hl with | [_, _], _ => rfl); (case a => k_is); (case l => k_is); (case c => k_is); (case k => k_is))
      (case d_least_of => refine' Cc.defAt_mk KX G ?a ?l ?c ?k (fun _ _ _ _ _ _ us hl => match us, hl with | [_], _ => rfl); (case a => k_is); (case l => k_is); (case c => k_is); (case k => k_is))
      (case d_is_box => refine' Cc.defAt_mk KX G ?a ?l ?c ?k (fun _ _ _ _ _ _ us hl => match us, hl with | [_], _ => rfl); (case a => k_is); (case l => k_is); (case c => k_is); (case k => k_is))
      (case d_shares => refine' Cc.defAt_mk KX G ?a ?l ?c ?k (fun _ _ _ _ _ _ us hl => match us, hl with | [_, _, _], _ => rfl); (case a => k_is); (case l => k_is); (case c => k_is); (case k => k_is))
      (case d_check_box => refine' Cc.defAt_mk KX G ?a ?l ?c ?k (fun _ _ _ _ _ _ us hl => match us, hl with | [_], _ => rfl); (case a => k_is); (case l => k_is); (case c => k_is); (case k => k_is))
      (case d_check_weights => refine' Cc.defAt_mk KX G ?a ?l ?c ?k (fun _ _ _ _ _ _ us hl => match us, hl with | [_], _ => rfl); (case a => k_is); (case l => k_is); (case c => k_is); (case k => k_is))
      (case d_is_side => refine' Cc.defAt_mk KX G ?a ?l ?c ?k (fun _ _ _ _ _ _ us hl => match us, hl with | [_], _ => rfl); (case a => k_is); (case l => k_is); (case c => k_is); (case k => k_is))
      (case d_check_side => refine' Cc.defAt_mk KX G ?a ?l ?c ?k (fun _ _ _ _ _ _ us hl => match us, hl with | [_], _ => rfl); (case a => k_is); (case l => k_is); (case c => k_is); (case k => k_is))
      (case d_check_split => refine' Cc.defAt_mk KX G ?a ?l ?c ?k (fun _ _ _ _ _ _ us hl => match us, hl with | [_, _, _], _ => rfl); (case a => k_is); (case l => k_is); (case c => k_is); (case k => k_is))
      (case d_slab => refine' Cc.defAt_mk KX G ?a ?l ?c ?k (fun _ _ _ _ _ _ us hl => match us, hl with | [_, _, _, _], _ => rfl); (case a => k_is); (case l => k_is); (case c => k_is); (case k => k_is))
      (case d_laid => refine' Cc.defAtS_mk KX G ?a ?l ?c ?k ?d rfl (fun _ _ _ _ _ _ us ks hl hk => match us, ks, hl, hk with | [_, _, _], [_], _, _ => ⟨_, _, _, _, _, _, rfl, rfl, rfl⟩) (fun _ _ _ _ _ _ us ws hl hk => match us, ws, hl, hk with | [_, _, _], [_], _, _ => rfl); (case a => k_is); (case l => k_is); (case c => k_is); (case k => k_is); (case d => k_is))
      (case d_row_ends => refine' Cc.defAt_mk KX G ?a ?l ?c ?k (fun _ _ _ _ _ _ us hl => match us, hl with | [_], _ => rfl); (case a => k_is); (case l => k_is); (case c => k_is); (case k => k_is))
      (case d_row_shapes => refine' Cc.defAt_mk KX G ?a ?l ?c ?k (fun _ _ _ _ _ _ us hl => match us, hl with | [_, _, _], _ => rfl); (case a => k_is); (case l => k_is); (case c => k_is); (case k => k_is))
      (case d_check_sizes => refine' Cc.defAt_mk KX G ?a ?l ?c ?k (fun _ _ _ _ _ _ us hl => match us, hl with | [_, _], _ => rfl); (case a => k_is); (case l => k_is); (case c => k_is); (case k => k_is))
      (case d_check_bound => refine' Cc.defAt_mk KX G ?a ?l ?c ?k (fun _ _ _ _ _ _ us hl => match us, hl with | [_], _ => rfl); (case a => k_is); (case l => k_is); (case c => k_is); (case k => k_is))
      (case d_shape_between => refine' Cc.defAt_mk KX G ?a ?l ?c ?k (fun _ _ _ _ _ _ us hl => match us, hl with | [_, _, _, _, _], _ => rfl); (case a => k_is); (case l => k_is); (case c => k_is); (case k => k_is))
      (case d_best => refine' Cc.defAtS_mk KX G ?a ?l ?c ?k ?d rfl (fun _ _ _ _ _ _ us ks hl hk => match us, ks, hl, hk with | [_, _], [_], _, _ => ⟨_, _, _, _, _, _, rfl, rfl, rfl⟩) (fun _ _ _ _ _ _ us ws hl hk => match us, ws, hl, hk with | [_, _], [_], _, _ => rfl); (case a => k_is); (case l => k_is); (case c => k_is); (case k => k_is); (case d => k_is))
      (case d_least => refine' Cc.defAtS_mk KX G ?a ?l ?c ?k ?d rfl (fun _ _ _ _ _ _ us ks hl hk => match us, ks, hl, hk with | [_, _], [_], _, _ => ⟨_, _, _, _, _, _, rfl, rfl, rfl⟩) (fun _ _ _ _ _ _ us ws hl hk => match us, ws, hl, hk with | [_, _], [_], _, _ => rfl); (case a => k_is); (case l => k_is); (case c => k_is); (case k => k_is); (case d => k_is))
      (case d_greedy => refine' Cc.defAtS_mk KX G ?a ?l ?c ?k ?d rfl (fun _ _ _ _ _ _ us ks hl hk => match us, ks, hl, hk with | [_, _], [_], _, _ => ⟨_, _, _, _, _, _, rfl, rfl, rfl⟩) (fun _ _ _ _ _ _ us ws hl hk => match us, ws, hl, hk with | [_, _], [_], _, _ => rfl); (case a => k_is); (case l => k_is); (case c => k_is); (case k => k_is); (case d => k_is))
      (case d_beginnings => refine' Cc.defAtS_mk KX G ?a ?l ?c ?k ?d rfl (fun _ _ _ _ _ _ us ks hl hk => match us, ks, hl, hk with | [_, _, _], [_], _, _ => ⟨_, _, _, _, _, _, rfl, rfl, rfl⟩) (fun _ _ _ _ _ _ us ws hl hk => match us, ws, hl, hk with | [_, _, _], [_], _, _ => rfl); (case a => k_is); (case l => k_is); (case c => k_is); (case k => k_is); (case d => k_is))
      (case d_least_behind => refine' Cc.defAt_mk KX G ?a ?l ?c ?k (fun _ _ _ _ _ _ us hl => match us, hl with | [_, _], _ => rfl); (case a => k_is); (case l => k_is); (case c => k_is); (case k => k_is))
      (case d_calm => refine' Cc.defAtS_mk KX G ?a ?l ?c ?k ?d rfl (fun _ _ _ _ _ _ us ks hl hk => match us, ks, hl, hk with | [_, _, _, _], [_], _, _ => ⟨_, _, _, _, _, _, rfl, rfl, rfl⟩) (fun _ _ _ _ _ _ us ws hl hk => match us, ws, hl, hk with | [_, _, _, _], [_], _, _ => rfl); (case a => k_is); (case l => k_is); (case c => k_is); (case k => k_is); (case d => k_is))
      (case d_check_calm => refine' Cc.defAt_mk KX G ?a ?l ?c ?k (fun _ _ _ _ _ _ us hl => match us, hl with | [_, _, _, _, _], _ => rfl); (case a => k_is); (case l => k_is); (case c => k_is); (case k => k_is))
      (case d_is_row => refine' Cc.defAt_mk KX G ?a ?l ?c ?k (fun _ _ _ _ _ _ us hl => match us, hl with | [_, _], _ => rfl); (case a => k_is); (case l => k_is); (case c => k_is); (case k => k_is))
      (case d_row_cost => refine' Cc.defAt_mk KX G ?a ?l ?c ?k (fun _ _ _ _ _ _ us hl => match us, hl with | [_, _, _], _ => rfl); (case a => k_is); (case l => k_is); (case c => k_is); (case k => k_is))
      (case d_row_costs => refine' Cc.defAt_mk KX G ?a ?l ?c ?k (fun _ _ _ _ _ _ us hl => match us, hl with | [_, _, _, _, _], _ => rfl); (case a => k_is); (case l => k_is); (case c => k_is); (case k => k_is))
      (case d_costs_behind => refine' Cc.defAt_mk KX G ?a ?l ?c ?k (fun _ _ _ _ _ _ us hl => match us, hl with | [_, _], _ => rfl); (case a => k_is); (case l => k_is); (case c => k_is); (case k => k_is))
      (case d_is_as_cheap => refine' Cc.defAt_mk KX G ?a ?l ?c ?k (fun _ _ _ _ _ _ us hl => match us, hl with | [_, _, _, _], _ => rfl); (case a => k_is); (case l => k_is); (case c => k_is); (case k => k_is))
      (case d_law_bag => refine' Cc.defAt_mk KX G ?a ?l ?c ?k (fun _ _ _ _ _ _ us hl => match us, hl with | [_], _ => rfl); (case a => k_is); (case l => k_is); (case c => k_is); (case k => k_is))
      (case d_law_get => refine' Cc.defAt_mk KX G ?a ?l ?c ?k (fun _ _ _ _ _ _ us hl => match us, hl with | [_, _], _ => rfl); (case a => k_is); (case l => k_is); (case c => k_is); (case k => k_is))
      (case d_law_far => refine' Cc.defAt_mk KX G ?a ?l ?c ?k (fun _ _ _ _ _ _ us hl => match us, hl with | [_, _], _ => rfl); (case a => k_is); (case l => k_is); (case c => k_is); (case k => k_is))
      (case d_law_gcd => refine' Cc.defAt_mk KX G ?a ?l ?c ?k (fun _ _ _ _ _ _ us hl => match us, hl with | [_, _], _ => rfl); (case a => k_is); (case l => k_is); (case c => k_is); (case k => k_is))
      (case d_law_part => refine' Cc.defAt_mk KX G ?a ?l ?c ?k (fun _ _ _ _ _ _ us hl => match us, hl with | [_, _], _ => rfl); (case a => k_is); (case l => k_is); (case c => k_is); (case k => k_is))
      (case d_law_plus => refine' Cc.defAt_mk KX G ?a ?l ?c ?k (fun _ _ _ _ _ _ us hl => match us, hl with | [_, _], _ => rfl); (case a => k_is); (case l => k_is); (case c => k_is); (case k => k_is))
      (case d_law_times => refine' Cc.defAt_mk KX G ?a ?l ?c ?k (fun _ _ _ _ _ _ us hl => match us, hl with | [_, _], _ => rfl); (case a => k_is); (case l => k_is); (case c => k_is); (case k => k_is))
      (case d_law_number => refine' Cc.defAt_mk KX G ?a ?l ?c ?k (fun _ _ _ _ _ _ us hl => match us, hl with | [_], _ => rfl); (case a => k_is); (case l => k_is); (case c => k_is); (case k => k_is))
      (case d_law_some_part => refine' Cc.defAt_mk KX G ?a ?l ?c ?k (fun _ _ _ _ _ _ us hl => match us, hl with | [_], _ => rfl); (case a => k_is); (case l => k_is); (case c => k_is); (case k => k_is))
      (case d_law_above => refine' Cc.defAt_mk KX G ?a ?l ?c ?k (fun _ _ _ _ _ _ us hl => match us, hl with | [_], _ => rfl); (case a => k_is); (case l => k_is); (case c => k_is); (case k => k_is))
      (case d_law_small_box => refine' Cc.defAt_mk KX G ?a ?l ?c ?k (fun _ _ _ _ _ _ us hl => match us, hl with | [_], _ => rfl); (case a => k_is); (case l => k_is); (case c => k_is); (case k => k_is))
      (case d_law_box => refine' Cc.defAt_mk KX G ?a ?l ?c ?k (fun _ _ _ _ _ _ us hl => match us, hl with | [_], _ => rfl); (case a => k_is); (case l => k_is); (case c => k_is); (case k => k_is))
      (case d_law_weight => refine' Cc.defAt_mk KX G ?a ?l ?c ?k (fun _ _ _ _ _ _ us hl => match us, hl with | [_, _], _ => rfl); (case a => k_is); (case l => k_is); (case c => k_is); (case k => k_is))
      (case d_law_weights => refine' Cc.defAt_mk KX G ?a ?l ?c ?k (fun _ _ _ _ _ _ us hl => match us, hl with | [_, _], _ => rfl); (case a => k_is); (case l => k_is); (case c => k_is); (case k => k_is))
      (case d_law_sizes => refine' Cc.defAt_mk KX G ?a ?l ?c ?k (fun _ _ _ _ _ _ us hl => match us, hl with | [_, _], _ => rfl); (case a => k_is); (case l => k_is); (case c => k_is); (case k => k_is))
      (case d_law_lean => refine' Cc.defAt_mk KX G ?a ?l ?c ?k (fun _ _ _ _ _ _ us hl => match us, hl with | [_], _ => rfl); (case a => k_is); (case l => k_is); (case c => k_is); (case k => k_is))
      (case d_law_bound => refine' Cc.defAt_mk KX G ?a ?l ?c ?k (fun _ _ _ _ _ _ us hl => match us, hl with | [_], _ => rfl); (case a => k_is); (case l => k_is); (case c => k_is); (case k => k_is))
      (case d_law_turned_lean => refine' Cc.defAt_mk KX G ?a ?l ?c ?k (fun _ _ _ _ _ _ us hl => match us, hl with | [_], _ => rfl); (case a => k_is); (case l => k_is); (case c => k_is); (case k => k_is))
      (case d_law_spots => refine' Cc.defAt_mk KX G ?a ?l ?c ?k (fun _ _ _ _ _ _ us hl => match us, hl with | [_], _ => rfl); (case a => k_is); (case l => k_is); (case c => k_is); (case k => k_is))
      (case d_law_kept => refine' Cc.defAt_mk KX G ?a ?l ?c ?k (fun _ _ _ _ _ _ us hl => match us, hl with | [_, _], _ => rfl); (case a => k_is); (case l => k_is); (case c => k_is); (case k => k_is))
      (case d_law_about => refine' Cc.defAt_mk KX G ?a ?l ?c ?k (fun _ _ _ _ _ _ us hl => match us, hl with | [_], _ => rfl); (case a => k_is); (case l => k_is); (case c => k_is); (case k => k_is))
      (case d_law_all => refine' Cc.defAt_mk KX G ?a ?l ?c ?k (fun _ _ _ _ _ _ us hl => match us, hl with | [_, _, _, _, _], _ => rfl); (case a => k_is); (case l => k_is); (case c => k_is); (case k => k_is))
      (case m_abs => k_is)
      (case m_all => k_is)
      (case m_any => k_is)
      (case m_bool => k_is)
      (case m_int => k_is)
      (case m_isinstance => k_is)
      (case m_len => k_is)
      (case m_list => k_is)
      (case m_max => k_is)
      (case m_min => k_is)
      (case m_range => k_is)
      (case m_reversed => k_is)
      (case m_str => k_is)
      (case m_sum => k_is)
      (case m_tuple => k_is)
      (case m_zip => k_is)
      (case m_ACROSS => refine' Cc.glob_str KX G ?a; (case a => k_is))
      (case m_DOWN => refine' Cc.glob_str KX G ?a; (case a => k_is))
      (case m_MOST_CHILDREN => refine' Cc.glob_int KX G ?a; (case a => k_is))
      (case m_MOST_WEIGHT => refine' Cc.glob_int KX G ?a; (case a => k_is))
      (case m_NOUGHT => refine' Cc.nought_mk KX G ?a ?l; (case a => k_is); (case l => k_is))
      (case m_ONE => refine' Cc.one_mk KX G ?a ?l; (case a => k_is); (case l => k_is))
      (case m_gcd => k_is))
