import PyProof.Rows.All
import Wide.All
import OpenK.AllK
import Wide.FinOn
import HandS.ForMost
import HandS.Gcd
import HandS.Wide
import HandS.IsInst
import KE.KTypeName
import HandS.Flow
import HandS.Style
import HandS.Evl
import PySem.Challenge.RW_curtainsteps_k01_whole_ratios
set_option Elab.async false
set_option maxRecDepth 100000
set_option maxHeartbeats 4000000
/-! x.__class__.__name__ of whole numbers, truth values and tuples; // by any divisor that is not too great. -/
namespace CS
open PySem
section
variable {P : Program} {w : World} {A : Around} {E : Value → Shared → Prop} {hp : Heap} {gs : Array GenState} {dr : Drawn} {tk : Nat} {os : OsState}
theorem cls_of_int {i : Int} {u : Tok} {Q : Value → Shared → Prop} (q : Q (.type "int") ⟨hp, gs, dr, tk + 1, os⟩) : wpAny (model P w) A (getAttr (.int i u) "__class__" true) Q E ⟨hp, gs, dr, tk, os⟩ := by
  have ty : Shared.TypeIs ⟨hp, gs, dr, tk, os⟩ (.int i u) "int" := rfl
  have lo := F.slot_int_getattribute.lookup
  have bi := F.slot_int_getattribute.bind (.int i u)
  unfold getAttr
  all_goals (repeat' first | assumption | wp_step)
  refine class_call_int ?_
  all_goals (repeat' first | assumption | wp_step)
theorem cls_of_bool {b : Bool} {Q : Value → Shared → Prop} (q : Q (.type "bool") ⟨hp, gs, dr, tk + 1, os⟩) : wpAny (model P w) A (getAttr (.bool b) "__class__" true) Q E ⟨hp, gs, dr, tk, os⟩ := by
  have ty : Shared.TypeIs ⟨hp, gs, dr, tk, os⟩ (.bool b) "bool" := rfl
  have lo := F.slot_bool_getattribute.lookup
  have bi := F.slot_bool_getattribute.bind (.bool b)
  unfold getAttr
  all_goals (repeat' first | assumption | wp_step)
  refine class_call_bool ?_
  all_goals (repeat' first | assumption | wp_step)
theorem cls_of_tuple {a : Addr} {od : Option Addr} {dt : Data} {sl : Array (Option Value)} {Q : Value → Shared → Prop} (ha : hp.get? a = some ⟨.type "tuple", od, dt, sl⟩) (q : Q (.type "tuple") ⟨hp, gs, dr, tk + 1, os⟩) :
    wpAny (model P w) A (getAttr (.ref a) "__class__" true) Q E ⟨hp, gs, dr, tk, os⟩ := by
  have ty : Shared.TypeIs ⟨hp, gs, dr, tk, os⟩ (.ref a) "tuple" := ⟨_, ha, rfl⟩
  have lo := F.slot_tuple_getattribute.lookup
  have bi := F.slot_tuple_getattribute.bind (.ref a)
  unfold getAttr
  all_goals (repeat' first | assumption | wp_step)
  refine class_call_tuple ha rfl ?_
  all_goals (repeat' first | assumption | wp_step)
end
end CS
set_option Elab.async false
set_option maxRecDepth 100000
set_option maxHeartbeats 4000000
namespace CS
open PySem L2
/-- the name of a plain value's class -/
inductive CN (K : PySem.W.Frag) (H : Hp) : V → Str → Prop where
  | int (i : Int) : CN K H (.int i) "int"
  | bl (b : Bool) : CN K H (.bl b) "bool"
  | tup {a : Addr} {xs : List V} (h : SqT K H a xs) : CN K H (.ref a) "tuple"
def tCN (K : PySem.W.Frag) (te : TE) : TE := fun σ H Q => te σ H fun x H1 => ∃ nm, CN K H1 x nm ∧ Q (.str nm) H1
section
variable {X : Cx} {pins : List (Addr × Obj)} {σ : St} {H : Hp} {s : Shared}
/-- a built-in class's __name__ -/
theorem name_ok {T q : String} {Q : VK} (I : Inv X pins σ H s) (ht : PySem.W.kitMeta T = true) (hs : Manifest.isStub T = false)
    (e : PySem.W.findCls X.K (.type T) (.type "type") "__name__" = some (.get (.builtin "getset_descriptor.__get__") (.builtin "type.__name__") (.type T) (.type "type"))) (hq : PySem.W.ktynFast T = q) (hz : (Str.ofString q).length ≤ sizeLine)
    (h : Q (.str (Str.ofString q)) H) : wpAny (model X.prog X.w) X.A (getAttr (.type T) "__name__" true) (EP X pins σ Q) X.xe s := by
  obtain ⟨m, Fm⟩ := I.fr
  exact PySem.W.ktyn_attr Fm I.ok.mod.kin ht hs e hq hz fun tk u => ⟨.str _, H, I.tok u, ⟨tk, rfl⟩, h⟩
theorem cn_ok {x : V} {u : Value} {nm : Str} {Q : VK} (I : Inv X pins σ H s) (r : RelV x u) (c : CN X.K H x nm) (h : Q (.str nm) H) :
    wpAny (model X.prog X.w) X.A (getAttr u "__class__" true) (fun v s1 => wpAny (model X.prog X.w) X.A (getAttr v "__name__" true) (EP X pins σ Q) X.xe s1) X.xe s := by
  cases c with
  | int i =>
    obtain ⟨t, rfl⟩ := r
    obtain ⟨hh, g, d, tt, os⟩ := s
    exact cls_of_int (name_ok (I.tok (tt + 1)) (by decide +kernel) (by decide +kernel) (by first | kernel_rfl | rfl) (by decide +kernel) (by decide +kernel) h)
  | bl b =>
    cases (show u = Value.bool b from r)
    obtain ⟨hh, g, d, tt, os⟩ := s
    exact cls_of_bool (name_ok (I.tok (tt + 1)) (by decide +kernel) (by decide +kernel) (by first | kernel_rfl | rfl) (by decide +kernel) (by decide +kernel) h)
  | @tup a xs hT =>
    cases (show u = Value.ref a from r)
    obtain ⟨its, _, ⟨o, h1, h2, _⟩, _⟩ := I.tuple hT
    obtain ⟨oc, od, dt, sl⟩ := o
    simp only at h2
    subst h2
    obtain ⟨hh, g, d, tt, os⟩ := s
    exact cls_of_tuple h1 (name_ok (I.tok (tt + 1)) (by decide +kernel) (by decide +kernel) (by first | kernel_rfl | rfl) (by decide +kernel) (by decide +kernel) h)
/-- e.__class__.__name__ -/
theorem pe_cn {e : Expr} {te : TE} {p1 p2 : Pos} (he : PE X e te) (hb1 : attributeBase e "__class__" X.env (eval e X.env) = eval e X.env := by rfl)
    (hb2 : attributeBase (.Attribute e "__class__" p1) "__name__" X.env (eval (.Attribute e "__class__" p1) X.env) = eval (.Attribute e "__class__" p1) X.env := by rfl) :
    PE X (.Attribute (.Attribute e "__class__" p1) "__name__" p2) (tCN X.K te) :=
  ⟨fun pins s σ H Q I h => attr_of hb2 (attr_of hb1 (thn (he.run pins s σ H _ I h) fun u s1 ⟨x, H1, I1, rx, nm, c, q⟩ => cn_ok I1 rx c q))⟩
/-- // by any divisor below 2 ^ 9000 in size -/
def CDivX (_ j : Int) : Prop := j ≠ 0 ∧ j.natAbs.log2 < 9000
theorem op_fdivX : OpR X (binaryOp .FloorDiv) (rI CDivX fun i j => .int (i.fdiv j)) := opI fun _ _ _ _ _ _ _ hc q =>
  PyProof.Rows.floordiv_int hc.1 q (.inl (PyProof.noPylong_of_log2 hc.2))
end
end CS
set_option maxHeartbeats 1000000
namespace CS
/-- in least terms, the lower one positive -/
def Fr (x : Int × Int) : Prop := 1 ≤ x.2 ∧ Int.gcd x.1 x.2 = 1
instance (x : Int × Int) : Decidable (Fr x) := by unfold Fr; infer_instance
def Sz (n : Nat) (x : Int × Int) : Prop := x.1.natAbs < 2 ^ n ∧ x.2.natAbs < 2 ^ n
def cm (t b : Int) : Int := if b < 0 then -(Int.gcd t b : Int) else (Int.gcd t b : Int)
def low (t b : Int) : Int × Int := (t.fdiv (cm t b), b.fdiv (cm t b))
theorem gcd_pos {t b : Int} (hb : b ≠ 0) : 0 < Int.gcd t b := Int.gcd_pos_of_ne_zero_right t hb
theorem cm_ne {t b : Int} (hb : b ≠ 0) : cm t b ≠ 0 := by
  have := gcd_pos (t := t) hb
  unfold cm
  split <;> omega
theorem cm_dvd (t b : Int) : cm t b ∣ t ∧ cm t b ∣ b := by
  unfold cm
  split
  · exact ⟨Int.neg_dvd.mpr (Int.gcd_dvd_left t b), Int.neg_dvd.mpr (Int.gcd_dvd_right t b)⟩
  · exact ⟨Int.gcd_dvd_left t b, Int.gcd_dvd_right t b⟩
theorem cm_abs (t b : Int) : (cm t b).natAbs = Int.gcd t b := by
  unfold cm
  split <;> omega
theorem low_parts {t b : Int} (hb : b ≠ 0) : t = cm t b * (low t b).1 ∧ b = cm t b * (low t b).2 := by
  obtain ⟨⟨t', ht⟩, ⟨b', hb'⟩⟩ := cm_dvd t b
  have hg := cm_ne (t := t) hb
  have e1 : t.fdiv (cm t b) = t' := by
    conv => lhs; lhs; rw [ht]
    exact Int.mul_fdiv_cancel_left t' hg
  have e2 : b.fdiv (cm t b) = b' := by
    conv => lhs; lhs; rw [hb']
    exact Int.mul_fdiv_cancel_left b' hg
  unfold low
  simp only [e1, e2]
  exact ⟨ht, hb'⟩
theorem low_fr {t b : Int} (hb : b ≠ 0) : Fr (low t b) := by
  obtain ⟨h1, h2⟩ := low_parts (t := t) hb
  have hp := gcd_pos (t := t) hb
  have hs : (b < 0 → cm t b < 0) ∧ (0 < b → 0 < cm t b) := by
    unfold cm
    split <;> constructor <;> intro h <;> omega
  have e : Int.gcd t b = (cm t b).natAbs * Int.gcd (low t b).1 (low t b).2 := by
    have z : ∀ g a c : Int, t = g * a → b = g * c → Int.gcd t b = g.natAbs * Int.gcd a c := by
      intro g a c e1 e2
      rw [e1, e2, Int.gcd_mul_left]
    exact z _ _ _ h1 h2
  rw [cm_abs] at e
  constructor
  · rcases Int.lt_or_gt_of_ne hb with h | h
    · have hc := hs.1 h
      rcases Int.lt_or_le 0 (low t b).2 with q | q
      · omega
      · have : 0 ≤ cm t b * (low t b).2 := Int.mul_nonneg_of_nonpos_of_nonpos (by omega) q
        omega
    · have hc := hs.2 h
      rcases Int.lt_or_le 0 (low t b).2 with q | q
      · omega
      · have : cm t b * (low t b).2 ≤ 0 := Int.mul_nonpos_of_nonneg_of_nonpos (by omega) q
        omega
  · have e' : Int.gcd t b * 1 = Int.gcd t b * Int.gcd (low t b).1 (low t b).2 := by omega
    exact (Nat.eq_of_mul_eq_mul_left hp e').symm
theorem low_cross {t b : Int} (hb : b ≠ 0) : (low t b).1 * b = t * (low t b).2 := by
  obtain ⟨h1, h2⟩ := low_parts (t := t) hb
  generalize low t b = y at *
  generalize cm t b = g at *
  subst h1
  subst h2
  grind
theorem low_le {t b : Int} (hb : b ≠ 0) : (low t b).1.natAbs ≤ t.natAbs ∧ (low t b).2.natAbs ≤ b.natAbs := by
  obtain ⟨h1, h2⟩ := low_parts (t := t) hb
  have hg : 0 < (cm t b).natAbs := by have := cm_ne (t := t) hb; omega
  constructor
  · conv => rhs; rw [h1, Int.natAbs_mul]
    exact Nat.le_mul_of_pos_left _ hg
  · conv => rhs; rw [h2, Int.natAbs_mul]
    exact Nat.le_mul_of_pos_left _ hg
theorem cop_dvd {k m n : Int} (h : k ∣ m * n) (c : Int.gcd k m = 1) : k ∣ n := by
  have h2 : k.natAbs ∣ m.natAbs * n.natAbs := by
    rw [← Int.natAbs_mul]
    exact Int.natAbs_dvd_natAbs.mpr h
  exact Int.natAbs_dvd_natAbs.mp (Nat.Coprime.dvd_of_dvd_mul_left (show Nat.Coprime k.natAbs m.natAbs from c) h2)
theorem Fr.uniq {x y : Int × Int} (hx : Fr x) (hy : Fr y) (h : x.1 * y.2 = y.1 * x.2) : x = y := by
  obtain ⟨a, b⟩ := x
  obtain ⟨c, d⟩ := y
  obtain ⟨hb, hab⟩ := hx
  obtain ⟨hd, hcd⟩ := hy
  simp only at *
  have d1 : b ∣ d := by
    have : b ∣ a * d := ⟨c, by grind⟩
    exact cop_dvd this (by rw [Int.gcd_comm]; exact hab)
  have d2 : d ∣ b := by
    have : d ∣ c * b := ⟨a, by grind⟩
    exact cop_dvd this (by rw [Int.gcd_comm]; exact hcd)
  have e : b = d := Int.dvd_antisymm (by omega) (by omega) d1 d2
  subst e
  have : a = c := Int.eq_of_mul_eq_mul_right (by omega) h
  rw [this]
theorem low_uniq {t b : Int} {x : Int × Int} (hb : b ≠ 0) (hx : Fr x) (h : x.1 * b = t * x.2) : low t b = x := by
  refine (low_fr hb).uniq hx ?_
  have c := low_cross (t := t) hb
  have : b * ((low t b).1 * x.2) = b * (x.1 * (low t b).2) := by
    generalize low t b = y at *
    grind
  exact Int.eq_of_mul_eq_mul_left hb this
def fadd (x y : Int × Int) : Int × Int := low (x.1 * y.2 + y.1 * x.2) (x.2 * y.2)
def fsub (x y : Int × Int) : Int × Int := low (x.1 * y.2 - y.1 * x.2) (x.2 * y.2)
def fmul (x y : Int × Int) : Int × Int := low (x.1 * y.1) (x.2 * y.2)
def fdiv (x y : Int × Int) : Int × Int := low (x.1 * y.2) (x.2 * y.1)
def flt (x y : Int × Int) : Bool := decide (x.1 * y.2 < y.1 * x.2)
theorem Fr.pos {x : Int × Int} (h : Fr x) : 0 < x.2 := by have := h.1; omega
theorem Fr.ne {x : Int × Int} (h : Fr x) : x.2 ≠ 0 := by have := h.1; omega
theorem dd {x y : Int × Int} (hx : Fr x) (hy : Fr y) : x.2 * y.2 ≠ 0 := Int.mul_ne_zero hx.ne hy.ne
theorem dd0 {x y : Int × Int} (hx : Fr x) (hy : Fr y) : 0 < x.2 * y.2 := Int.mul_pos hx.pos hy.pos
theorem fadd_fr {x y : Int × Int} (hx : Fr x) (hy : Fr y) : Fr (fadd x y) := low_fr (dd hx hy)
theorem fsub_fr {x y : Int × Int} (hx : Fr x) (hy : Fr y) : Fr (fsub x y) := low_fr (dd hx hy)
theorem fmul_fr {x y : Int × Int} (hx : Fr x) (hy : Fr y) : Fr (fmul x y) := low_fr (dd hx hy)
theorem fdiv_fr {x y : Int × Int} (hx : Fr x) (h : y.1 ≠ 0) : Fr (fdiv x y) := low_fr (Int.mul_ne_zero hx.ne h)
theorem fadd_comm (x y : Int × Int) : fadd x y = fadd y x := by
  unfold fadd
  rw [Int.add_comm, Int.mul_comm x.2 y.2]
theorem fsub_fadd {x y : Int × Int} (hx : Fr x) (hy : Fr y) : fsub (fadd x y) y = x := by
  have hp := fadd_fr hx hy
  have c : (fadd x y).1 * (x.2 * y.2) = (x.1 * y.2 + y.1 * x.2) * (fadd x y).2 := low_cross (dd hx hy)
  refine low_uniq (dd hp hy) hx ?_
  generalize fadd x y = p at *
  grind
theorem fmul_fdiv {x y : Int × Int} (hx : Fr x) (hy : Fr y) (h : y.1 ≠ 0) : fmul (fdiv x y) y = x := by
  have hp := fdiv_fr hx h
  have c : (fdiv x y).1 * (x.2 * y.1) = (x.1 * y.2) * (fdiv x y).2 := low_cross (Int.mul_ne_zero hx.ne h)
  refine low_uniq (dd hp hy) hx ?_
  generalize fdiv x y = p at *
  grind
theorem low_neg {t b : Int} (hb : b ≠ 0) : low (-t) (-b) = low t b := by
  refine low_uniq (by omega) (low_fr hb) ?_
  have c := low_cross (t := t) hb
  grind
theorem due_eq {x y : Int × Int} (h : y.1 ≠ 0) (hx : Fr x) : low (x.1 * y.2 * (if 0 < y.1 then 1 else -1)) (x.2 * (y.1.natAbs : Int)) = fdiv x y := by
  unfold fdiv
  split
  · next q =>
    rw [show ((y.1.natAbs : Nat) : Int) = y.1 by omega]
    congr 1
    omega
  · next q =>
    rw [show ((y.1.natAbs : Nat) : Int) = -y.1 by omega]
    have := low_neg (t := x.1 * y.2) (b := x.2 * y.1) (Int.mul_ne_zero hx.ne h)
    rw [← this]
    congr 1
    · omega
    · grind
theorem flt_sub {x y : Int × Int} (hx : Fr x) (hy : Fr y) : flt x y = flt (fsub x y) (0, 1) := by
  have hp := fsub_fr hx hy
  have c : (fsub x y).1 * (x.2 * y.2) = (x.1 * y.2 - y.1 * x.2) * (fsub x y).2 := low_cross (dd hx hy)
  have k := dd0 hx hy
  have m := hp.pos
  unfold flt
  simp only [Int.mul_one, Int.zero_mul]
  generalize fsub x y = p at *
  generalize hk : x.2 * y.2 = kk at *
  generalize hd : x.1 * y.2 - y.1 * x.2 = dl at *
  rw [decide_eq_decide]
  constructor
  · intro q
    have q2 : dl < 0 := by omega
    have : dl * p.2 < 0 := Int.mul_neg_of_neg_of_pos q2 m
    rcases Int.lt_or_le p.1 0 with z | z
    · exact z
    · have := Int.mul_nonneg z (Int.le_of_lt k)
      omega
  · intro q
    have : p.1 * kk < 0 := Int.mul_neg_of_neg_of_pos q k
    rcases Int.lt_or_le dl 0 with z | z
    · omega
    · have := Int.mul_nonneg z (Int.le_of_lt m)
      omega
theorem fadd_zero {x : Int × Int} (hx : Fr x) : fadd x (0, 1) = x := by
  unfold fadd
  refine low_uniq ?_ hx ?_
  · have := hx.ne
    simp only [Int.mul_one]
    exact this
  · grind
/-! sizes -/
theorem abs_mul_lt {a b : Int} {m n : Nat} (ha : a.natAbs < 2 ^ m) (hb : b.natAbs < 2 ^ n) : (a * b).natAbs < 2 ^ (m + n) := by
  rw [Int.natAbs_mul, Nat.pow_add]
  exact Nat.mul_lt_mul'' ha hb
theorem abs_add_lt {a b : Int} {m : Nat} (ha : a.natAbs < 2 ^ m) (hb : b.natAbs < 2 ^ m) : (a + b).natAbs < 2 ^ (m + 1) := by
  rw [Nat.pow_succ]
  omega
theorem abs_sub_lt {a b : Int} {m : Nat} (ha : a.natAbs < 2 ^ m) (hb : b.natAbs < 2 ^ m) : (a - b).natAbs < 2 ^ (m + 1) := by
  rw [Nat.pow_succ]
  omega
theorem lt_up {a : Nat} {m n : Nat} (ha : a < 2 ^ m) (h : m ≤ n) : a < 2 ^ n := Nat.lt_of_lt_of_le ha (Nat.pow_le_pow_right (by decide) h)
theorem Sz.up {x : Int × Int} {m n : Nat} (h : Sz m x) (q : m ≤ n) : Sz n x := ⟨lt_up h.1 q, lt_up h.2 q⟩
theorem low_sz {t b : Int} {n : Nat} (hb : b ≠ 0) (h1 : t.natAbs < 2 ^ n) (h2 : b.natAbs < 2 ^ n) : Sz n (low t b) :=
  ⟨Nat.lt_of_le_of_lt (low_le hb).1 h1, Nat.lt_of_le_of_lt (low_le hb).2 h2⟩
theorem fadd_sz {x y : Int × Int} {m n : Nat} (hx : Fr x) (hy : Fr y) (sx : Sz m x) (sy : Sz n y) : Sz (m + n + 1) (fadd x y) := by
  refine low_sz (dd hx hy) ?_ ?_
  · refine abs_add_lt (abs_mul_lt sx.1 sy.2) ?_
    rw [Int.mul_comm]
    exact abs_mul_lt sx.2 sy.1
  · exact lt_up (abs_mul_lt sx.2 sy.2) (by omega)
theorem fsub_sz {x y : Int × Int} {m n : Nat} (hx : Fr x) (hy : Fr y) (sx : Sz m x) (sy : Sz n y) : Sz (m + n + 1) (fsub x y) := by
  refine low_sz (dd hx hy) ?_ ?_
  · refine abs_sub_lt (abs_mul_lt sx.1 sy.2) ?_
    rw [Int.mul_comm]
    exact abs_mul_lt sx.2 sy.1
  · exact lt_up (abs_mul_lt sx.2 sy.2) (by omega)
theorem fmul_sz {x y : Int × Int} {m n : Nat} (hx : Fr x) (hy : Fr y) (sx : Sz m x) (sy : Sz n y) : Sz (m + n) (fmul x y) :=
  low_sz (dd hx hy) (abs_mul_lt sx.1 sy.1) (abs_mul_lt sx.2 sy.2)
theorem fdiv_sz {x y : Int × Int} {m n : Nat} (hx : Fr x) (h : y.1 ≠ 0) (sx : Sz m x) (sy : Sz n y) : Sz (m + n) (fdiv x y) :=
  low_sz (Int.mul_ne_zero hx.ne h) (abs_mul_lt sx.1 sy.2) (abs_mul_lt sx.2 sy.1)
/-! Euclid's loop -/
theorem euclid_step {a b : Int} (h : 0 ≤ a) (hb : 0 < b) : Int.gcd b (a % b) = Int.gcd a b := by
  obtain ⟨m, rfl⟩ := Int.eq_ofNat_of_zero_le h
  obtain ⟨n, rfl⟩ := Int.eq_ofNat_of_zero_le (Int.le_of_lt hb)
  show Nat.gcd n ((m : Int) % (n : Int)).natAbs = Nat.gcd m n
  rw [← Int.natCast_emod, Int.natAbs_natCast, Nat.gcd_comm m n, Nat.gcd_rec n m, Nat.gcd_comm]
end CS
set_option Elab.async false
set_option maxRecDepth 100000
set_option maxHeartbeats 4000000
set_option linter.unusedVariables false
namespace CS
open PySem L2
theorem PE.imp {X : Cx} {e : Expr} {t t1 : TE} (h : PE X e t) (k : ∀ σ H Q, t1 σ H Q → t σ H Q) : PE X e t1 := ⟨fun pins s σ H Q I q => h.run pins s σ H Q I (k σ H Q q)⟩
/-- a fraction's tuple stands at p -/
abbrev FT (K : PySem.W.Frag) (H : Hp) (p : Addr) (x : Int × Int) : Prop := SqT K H p [.int x.1, .int x.2]
/-- slot i holds a fraction's tuple: its item 0, its item 1 -/
def tFst (K : PySem.W.Frag) (i : Nat) : TE := fun σ H Q => ∃ p x, σ[i]? = some (some (.ref p)) ∧ FT K H p x ∧ Q (.int x.1) H
def tSnd (K : PySem.W.Frag) (i : Nat) : TE := fun σ H Q => ∃ p x, σ[i]? = some (some (.ref p)) ∧ FT K H p x ∧ Q (.int x.2) H
section
variable {X : Cx}
theorem pe_fst (i : Nat) {x : Str} {pos p2 pos' : Pos} {j : Nat} (hN : X.N[i]? = some x := by rfl) (hv : Vis X.env.scope x := by first | exact Or.inl rfl | exact Or.inr (Or.inl rfl) | exact Or.inr (Or.inr rfl)) (hd : (x == ("__debug__" : Str)) = false := by decide)
    (hcd : (x == ("__classdict__" : Str)) = false := by decide) : PE X (.Subscript (.Name x pos) (.Constant (.int 0) j p2) pos') (tFst X.K i) :=
  PE.imp (pe_ix ix_tup (pe_var hN hv hd hcd) pe_int (fun _ _ => rfl)) fun σ H Q ⟨p, x, e, h, q⟩ => ⟨_, e, p, _, 0, .int x.1, rfl, rfl, h, atI_nat (j := 0) rfl, q⟩
theorem pe_snd (i : Nat) {x : Str} {pos p2 pos' : Pos} {j : Nat} (hN : X.N[i]? = some x := by rfl) (hv : Vis X.env.scope x := by first | exact Or.inl rfl | exact Or.inr (Or.inl rfl) | exact Or.inr (Or.inr rfl)) (hd : (x == ("__debug__" : Str)) = false := by decide)
    (hcd : (x == ("__classdict__" : Str)) = false := by decide) : PE X (.Subscript (.Name x pos) (.Constant (.int 1) j p2) pos') (tSnd X.K i) :=
  PE.imp (pe_ix ix_tup (pe_var hN hv hd hcd) pe_int (fun _ _ => rfl)) fun σ H Q ⟨p, x, e, h, q⟩ => ⟨_, e, p, _, 1, .int x.2, rfl, rfl, h, atI_nat (j := 1) rfl, q⟩
end
theorem cmw {a b : Int} (ha : a.natAbs < 2 ^ 1900) (hb : b.natAbs < 2 ^ 1900) : CMulW a b := wide_mul ha hb (by decide) (by decide) (by decide)
end CS
set_option Elab.async false
set_option maxRecDepth 100000
set_option maxHeartbeats 4000000
set_option linter.unusedVariables false
namespace CS
open PySem L2
def top (i : Nat) : Stmt := PySem.Challenge.pw_curtainsteps_k01_whole_ratios.main.body.getD i (.Pass ⟨0, 0, 0, 0⟩)
abbrev sLowered : Stmt := top 7
abbrev sAdded : Stmt := top 8
abbrev sLessened : Stmt := top 9
abbrev sMultiplied : Stmt := top 10
abbrev sDivided : Stmt := top 11
abbrev sIsBelow : Stmt := top 12
abbrev sIsWhole : Stmt := top 14
abbrev sIsRow : Stmt := top 15
abbrev sIsRowOf : Stmt := top 16
abbrev sIsFraction : Stmt := top 17
abbrev sNeedFraction : Stmt := top 19
/-- a def of the text, how its arguments bind, where its name leads -/
structure Df (K : PySem.W.Frag) (mg : Str → Option Value) (x : Str) (st : Stmt) (ps : List Str) (f : Addr) (fd : FuncData) : Prop where
  F : Fun K x x st f fd
  b : Binds K fd ps []
  g : mg x = some (.ref f)
/-- what the walk asks of the module's names -/
structure Bt (mg : Str → Option Value) : Prop where
  gcd : mg "gcd" = some (.builtin "math.gcd")
  isinstance : mg "isinstance" = none
  int : mg "int" = none
  tuple : mg "tuple" = none
  len : mg "len" = none
  abs : mg "abs" = none
  range : mg "range" = none
  list : mg "list" = none
end CS
namespace L2
open PySem
theorem Same.tup {K : PySem.W.Frag} {H H' : Hp} {a : Addr} {xs : List V} (e : Same H H') (h : SqT K H a xs) : SqT K H' a xs := by
  rcases h with (h | ⟨o, h⟩) | h
  · exact .inl (.inl (e _ _ h))
  · exact .inl (.inr ⟨o, e _ _ h⟩)
  · exact .inr h
theorem Same.new {H : Hp} {p : Addr} {o : HO} (h : H p = none) : Same H (upd H p o) := fun b u e => by
  rw [upd_ne (ne_of_none e h)]
  exact e
end L2
namespace CS
open PySem L2
/-! promises -/
def spLow : Sp := fun vs H Q _ => ∃ t b : Int, vs = [.int t, .int b] ∧ b ≠ 0 ∧ t.natAbs < 2 ^ 4000 ∧ b.natAbs < 2 ^ 4000 ∧
  ∀ p, H p = none → Q (.ref p) (upd H p (.tup [.int (low t b).1, .int (low t b).2]))
/-- two fractions in, a new one out -/
def spF2 (K : PySem.W.Frag) (ok : Int × Int → Int × Int → Prop) (f : Int × Int → Int × Int → Int × Int) : Sp := fun vs H Q _ => ∃ p q x y, vs = [.ref p, .ref q] ∧ FT K H p x ∧ FT K H q y ∧ Fr x ∧ Fr y ∧ Sz 1900 x ∧ Sz 1900 y ∧ ok x y ∧
  ∀ r, H r = none → Q (.ref r) (upd H r (.tup [.int (f x y).1, .int (f x y).2]))
def spB2 (K : PySem.W.Frag) (f : Int × Int → Int × Int → Bool) : Sp := fun vs H Q _ => ∃ p q x y, vs = [.ref p, .ref q] ∧ FT K H p x ∧ FT K H q y ∧ Fr x ∧ Fr y ∧ Sz 1900 x ∧ Sz 1900 y ∧ Q (.bl (f x y)) H
def spWhole (K : PySem.W.Frag) : Sp := fun vs H Q _ => ∃ i : Int, vs = [.int i] ∧ Q (.bl true) H
def spRow (K : PySem.W.Frag) : Sp := fun vs H Q _ => ∃ p xs, vs = [.ref p] ∧ SqT K H p xs ∧ Q (.bl true) H
def spRowOf (K : PySem.W.Frag) : Sp := fun vs H Q _ => ∃ p xs n, vs = [.ref p, .int n] ∧ SqT K H p xs ∧ Q (.bl (decide ((xs.length : Int) = n))) H
def spIsFr (K : PySem.W.Frag) : Sp := fun vs H Q _ => ∃ p x, vs = [.ref p] ∧ FT K H p x ∧ Q (.bl (decide (Fr x))) H
def spNeedFr (K : PySem.W.Frag) : Sp := fun vs H Q _ => ∃ p x, vs = [.ref p] ∧ FT K H p x ∧ Fr x ∧ Q (.ref p) H
section
variable {P : Program} {w : World} {K : PySem.W.Frag} {mg : Str → Option Value} {base : Heap}
theorem scLowered : FnScope ["top", "bottom", "common"] ["top", "bottom"] (defScope sLowered) := ⟨rfl, rfl, rfl, by decide +kernel, rfl, by decide +kernel, by decide +kernel⟩
theorem ok_lowered {f : Addr} {fd : FuncData} (F : Df K mg "lowered" sLowered ["top", "bottom"] f fd) (T : Bt mg) : FnOk P w K mg base CX0 1 f fd ["top", "bottom"] spLow := by
  refine F.F.ok scLowered (fun vs H Q E h => ?_) (fun cdv A outer s H vs Q E hr h => ?_)
  · obtain ⟨t, b, rfl, _⟩ := h
    rfl
  · obtain ⟨t, b, rfl, hb, h1, h2, k⟩ := h
    refine ⟨_, pss_cons (ps_set (i := 2) scLowered.nd rfl (Or.inl rfl) (pe_callBfun cr_gcd (by rfl) T.gcd (pa_cons (pv 0) (pa_cons (pv 1) pa_nil))))
      (pss_cons (ps_if (pt_cmpR op_lt (pv 1) pe_int (nomark _)) (pss_one (ps_set (i := 2) scLowered.nd rfl (Or.inl rfl) (pe_un un_neg (pv 2)))) pss_nil)
      (pss_one (ps_ret (pe_tup (pa_cons (pe_op op_fdivX (pv 0) (pv 2)) (pa_cons (pe_op op_fdivX (pv 1) (pv 2)) pa_nil)))))), ?_⟩
    have hc := cm_ne (t := t) hb
    have hz : (cm t b).natAbs.log2 < 9000 := by
      rw [cm_abs]
      have : Int.gcd t b ≤ b.natAbs := Nat.le_of_dvd (by omega) (Nat.gcd_dvd_right _ _)
      exact Nat.lt_of_lt_of_le (PySem.Flt.log2_lt_of (by decide) (Nat.lt_of_le_of_lt this h2)) (by decide)
    refine ⟨_, rfl, _, rfl, t, b, rfl, _, rfl, _, _, rfl, rfl, _, rfl, ?_⟩
    by_cases hlt : b < 0
    · have e : cm t b = -(Int.gcd t b : Int) := if_pos hlt
      rw [decide_eq_true hlt]
      refine iteT ?_
      refine ⟨_, rfl, _, rfl, ?_⟩
      refine ⟨_, rfl, _, rfl, t, _, rfl, rfl, ⟨e ▸ hc, e ▸ hz⟩, _, rfl, _, rfl, b, _, rfl, rfl, ⟨e ▸ hc, e ▸ hz⟩, (by show 2 ≤ sizeLine; decide), fun p hp => ?_⟩
      have := k p hp
      unfold low at this
      rw [e] at this
      exact this
    · have e : cm t b = (Int.gcd t b : Int) := if_neg hlt
      rw [decide_eq_false hlt]
      refine iteF ?_
      refine ⟨_, rfl, _, rfl, t, _, rfl, rfl, ⟨e ▸ hc, e ▸ hz⟩, _, rfl, _, rfl, b, _, rfl, rfl, ⟨e ▸ hc, e ▸ hz⟩, (by show 2 ≤ sizeLine; decide), fun p hp => ?_⟩
      have := k p hp
      unfold low at this
      rw [e] at this
      exact this
theorem scAdded : FnScope ["one", "other"] ["one", "other"] (defScope sAdded) := ⟨rfl, rfl, rfl, by decide +kernel, rfl, by decide +kernel, by decide +kernel⟩
theorem ok_added {f fl : Addr} {fd fdl : FuncData} (F : Df K mg "added" sAdded ["one", "other"] f fd) (L : Df K mg "lowered" sLowered ["top", "bottom"] fl fdl) (T : Bt mg) : FnOk P w K mg base CX0 2 f fd ["one", "other"] (spF2 K (fun _ _ => True) fadd) := by
  have G : FnOk P w K mg base CX0 1 fl fdl ["top", "bottom"] spLow := ok_lowered L T
  refine F.F.ok scAdded (fun vs H Q E h => ?_) (fun cdv A outer s H vs Q E hr h => ?_)
  · obtain ⟨p, q, x, y, rfl, _⟩ := h
    rfl
  · obtain ⟨p, q, x, y, rfl, hp, hq, hx, hy, zx, zy, ok, k⟩ := h
    refine ⟨_, pss_one (ps_ret (pe_call G hr (by rfl) L.g L.F.kp L.b .nil pass0 (pa_cons (pe_op op_add (pe_op op_mulW (pe_fst 0) (pe_snd 1)) (pe_op op_mulW (pe_fst 1) (pe_snd 0))) (pa_cons (pe_op op_mulW (pe_snd 0) (pe_snd 1)) pa_nil)))), ?_⟩
    refine ⟨p, x, rfl, hp, q, y, rfl, hq, _, _, rfl, rfl, cmw zx.1 zy.2, q, y, rfl, hq, p, x, rfl, hp, _, _, rfl, rfl, cmw zy.1 zx.2, _, _, rfl, rfl, p, x, rfl, hp, q, y, rfl, hq, _, _, rfl, rfl, cmw zx.2 zy.2, _, _, rfl, dd hx hy, lt_up (abs_add_lt (abs_mul_lt zx.1 zy.2) (abs_mul_lt zy.1 zx.2)) (by decide), lt_up (abs_mul_lt zx.2 zy.2) (by decide), k⟩
theorem scLessened : FnScope ["one", "other"] ["one", "other"] (defScope sLessened) := ⟨rfl, rfl, rfl, by decide +kernel, rfl, by decide +kernel, by decide +kernel⟩
theorem ok_lessened {f fl : Addr} {fd fdl : FuncData} (F : Df K mg "lessened" sLessened ["one", "other"] f fd) (L : Df K mg "lowered" sLowered ["top", "bottom"] fl fdl) (T : Bt mg) : FnOk P w K mg base CX0 2 f fd ["one", "other"] (spF2 K (fun _ _ => True) fsub) := by
  have G : FnOk P w K mg base CX0 1 fl fdl ["top", "bottom"] spLow := ok_lowered L T
  refine F.F.ok scLessened (fun vs H Q E h => ?_) (fun cdv A outer s H vs Q E hr h => ?_)
  · obtain ⟨p, q, x, y, rfl, _⟩ := h
    rfl
  · obtain ⟨p, q, x, y, rfl, hp, hq, hx, hy, zx, zy, ok, k⟩ := h
    refine ⟨_, pss_one (ps_ret (pe_call G hr (by rfl) L.g L.F.kp L.b .nil pass0 (pa_cons (pe_op op_sub (pe_op op_mulW (pe_fst 0) (pe_snd 1)) (pe_op op_mulW (pe_fst 1) (pe_snd 0))) (pa_cons (pe_op op_mulW (pe_snd 0) (pe_snd 1)) pa_nil)))), ?_⟩
    refine ⟨p, x, rfl, hp, q, y, rfl, hq, _, _, rfl, rfl, cmw zx.1 zy.2, q, y, rfl, hq, p, x, rfl, hp, _, _, rfl, rfl, cmw zy.1 zx.2, _, _, rfl, rfl, p, x, rfl, hp, q, y, rfl, hq, _, _, rfl, rfl, cmw zx.2 zy.2, _, _, rfl, dd hx hy, lt_up (abs_sub_lt (abs_mul_lt zx.1 zy.2) (abs_mul_lt zy.1 zx.2)) (by decide), lt_up (abs_mul_lt zx.2 zy.2) (by decide), k⟩
theorem scMultiplied : FnScope ["one", "other"] ["one", "other"] (defScope sMultiplied) := ⟨rfl, rfl, rfl, by decide +kernel, rfl, by decide +kernel, by decide +kernel⟩
theorem ok_multiplied {f fl : Addr} {fd fdl : FuncData} (F : Df K mg "multiplied" sMultiplied ["one", "other"] f fd) (L : Df K mg "lowered" sLowered ["top", "bottom"] fl fdl) (T : Bt mg) : FnOk P w K mg base CX0 2 f fd ["one", "other"] (spF2 K (fun _ _ => True) fmul) := by
  have G : FnOk P w K mg base CX0 1 fl fdl ["top", "bottom"] spLow := ok_lowered L T
  refine F.F.ok scMultiplied (fun vs H Q E h => ?_) (fun cdv A outer s H vs Q E hr h => ?_)
  · obtain ⟨p, q, x, y, rfl, _⟩ := h
    rfl
  · obtain ⟨p, q, x, y, rfl, hp, hq, hx, hy, zx, zy, ok, k⟩ := h
    refine ⟨_, pss_one (ps_ret (pe_call G hr (by rfl) L.g L.F.kp L.b .nil pass0 (pa_cons (pe_op op_mulW (pe_fst 0) (pe_fst 1)) (pa_cons (pe_op op_mulW (pe_snd 0) (pe_snd 1)) pa_nil)))), ?_⟩
    refine ⟨p, x, rfl, hp, q, y, rfl, hq, _, _, rfl, rfl, cmw zx.1 zy.1, p, x, rfl, hp, q, y, rfl, hq, _, _, rfl, rfl, cmw zx.2 zy.2, _, _, rfl, dd hx hy, lt_up (abs_mul_lt zx.1 zy.1) (by decide), lt_up (abs_mul_lt zx.2 zy.2) (by decide), k⟩
theorem scDivided : FnScope ["one", "other"] ["one", "other"] (defScope sDivided) := ⟨rfl, rfl, rfl, by decide +kernel, rfl, by decide +kernel, by decide +kernel⟩
theorem ok_divided {f fl : Addr} {fd fdl : FuncData} (F : Df K mg "divided" sDivided ["one", "other"] f fd) (L : Df K mg "lowered" sLowered ["top", "bottom"] fl fdl) (T : Bt mg) : FnOk P w K mg base CX0 2 f fd ["one", "other"] (spF2 K (fun _ y => y.1 ≠ 0) fdiv) := by
  have G : FnOk P w K mg base CX0 1 fl fdl ["top", "bottom"] spLow := ok_lowered L T
  refine F.F.ok scDivided (fun vs H Q E h => ?_) (fun cdv A outer s H vs Q E hr h => ?_)
  · obtain ⟨p, q, x, y, rfl, _⟩ := h
    rfl
  · obtain ⟨p, q, x, y, rfl, hp, hq, hx, hy, zx, zy, ok, k⟩ := h
    refine ⟨_, pss_one (ps_ret (pe_call G hr (by rfl) L.g L.F.kp L.b .nil pass0 (pa_cons (pe_op op_mulW (pe_fst 0) (pe_snd 1)) (pa_cons (pe_op op_mulW (pe_snd 0) (pe_fst 1)) pa_nil)))), ?_⟩
    refine ⟨p, x, rfl, hp, q, y, rfl, hq, _, _, rfl, rfl, cmw zx.1 zy.2, p, x, rfl, hp, q, y, rfl, hq, _, _, rfl, rfl, cmw zx.2 zy.1, _, _, rfl, Int.mul_ne_zero hx.ne ok, lt_up (abs_mul_lt zx.1 zy.2) (by decide), lt_up (abs_mul_lt zx.2 zy.1) (by decide), k⟩
theorem scIsBelow : FnScope ["one", "other"] ["one", "other"] (defScope sIsBelow) := ⟨rfl, rfl, rfl, by decide +kernel, rfl, by decide +kernel, by decide +kernel⟩
theorem ok_is_below {f : Addr} {fd : FuncData} (F : Df K mg "is_below" sIsBelow ["one", "other"] f fd) (T : Bt mg) : FnOk P w K mg base CX0 1 f fd ["one", "other"] (spB2 K flt) := by
  refine F.F.ok scIsBelow (fun vs H Q E h => ?_) (fun cdv A outer s H vs Q E hr h => ?_)
  · obtain ⟨p, q, x, y, rfl, _⟩ := h
    rfl
  · obtain ⟨p, q, x, y, rfl, hp, hq, hx, hy, zx, zy, k⟩ := h
    refine ⟨_, pss_one (ps_ret (pe_cmpR op_lt (pe_op op_mulW (pe_fst 0) (pe_snd 1)) (pe_op op_mulW (pe_fst 1) (pe_snd 0)) (nomark _))), ?_⟩
    refine ⟨p, x, rfl, hp, q, y, rfl, hq, _, _, rfl, rfl, cmw zx.1 zy.2, q, y, rfl, hq, p, x, rfl, hp, _, _, rfl, rfl, cmw zy.1 zx.2, _, _, rfl, rfl, k⟩
theorem scIsWhole : FnScope ["thing"] ["thing"] (defScope sIsWhole) := ⟨rfl, rfl, rfl, by decide +kernel, rfl, by decide +kernel, by decide +kernel⟩
theorem ok_is_whole {f : Addr} {fd : FuncData} (F : Df K mg "is_whole" sIsWhole ["thing"] f fd) (T : Bt mg) : FnOk P w K mg base CX0 1 f fd ["thing"] (spWhole K) := by
  refine F.F.ok scIsWhole (fun vs H Q E h => ?_) (fun cdv A outer s H vs Q E hr h => ?_)
  · obtain ⟨i, rfl, _⟩ := h
    rfl
  · obtain ⟨i, rfl, k⟩ := h
    refine ⟨_, pss_one (ps_ret (pe_and (pe_callB call_isi (by rfl) T.isinstance (by decide +kernel) (pa_cons (pv 0) (pa_cons (pe_bltn (v := .ty "int") (by rfl) T.int (by decide +kernel) rfl) pa_nil))) (pe_one (pe_cmpR op_eq (pe_cn (pv 0)) pe_str (nomark _))))), ?_⟩
    refine ⟨_, rfl, _, _, _, _, true, rfl, .ty _, .base (.int i), kit_ty (a := "int") (b := "int") (by decide +kernel), _, rfl, iteT ?_⟩
    refine ⟨_, rfl, _, .int i, rfl, ?_⟩
    exact k
end
end CS
set_option Elab.async false
set_option maxRecDepth 100000
set_option maxHeartbeats 4000000
set_option linter.unusedVariables false
namespace CS
open PySem L2
abbrev sRatio : Stmt := top 20
abbrev sPlus : Stmt := top 21
abbrev sLess : Stmt := top 22
abbrev sTimes : Stmt := top 23
abbrev sOver : Stmt := top 24
abbrev sIsLess : Stmt := top 25
section
variable {P : Program} {w : World} {K : PySem.W.Frag} {mg : Str → Option Value} {base : Heap}
theorem scIsRow : FnScope ["thing"] ["thing"] (defScope sIsRow) := ⟨rfl, rfl, rfl, by decide +kernel, rfl, by decide +kernel, by decide +kernel⟩
theorem TyX.of_tup {K : PySem.W.Frag} {H : Hp} {p : Addr} {xs : List V} (h : SqT K H p xs) : TyX K H (.ref p) (.type "tuple") := by
  rcases h with (h | ⟨o, h⟩) | ⟨o, its, n, h, c, _⟩
  · exact .base (.tup h)
  · exact .fTuple h
  · exact .kTuple h c
theorem ok_is_row {f : Addr} {fd : FuncData} (F : Df K mg "is_row" sIsRow ["thing"] f fd) (T : Bt mg) : FnOk P w K mg base CX0 1 f fd ["thing"] (spRow K) := by
  refine F.F.ok scIsRow (fun vs H Q E h => ?_) (fun cdv A outer s H vs Q E hr h => ?_)
  · obtain ⟨i, xs, rfl, _⟩ := h
    rfl
  · obtain ⟨i, xs, rfl, hp, k⟩ := h
    refine ⟨_, pss_one (ps_ret (pe_and (pe_callB call_isi (by rfl) T.isinstance (by decide +kernel) (pa_cons (pv 0) (pa_cons (pe_bltn (v := .ty "tuple") (by rfl) T.tuple (by decide +kernel) rfl) pa_nil))) (pe_one (pe_cmpR op_eq (pe_cn (pv 0)) pe_str (nomark _))))), ?_⟩
    refine ⟨_, rfl, _, _, _, _, true, rfl, .ty _, TyX.of_tup hp, kit_ty (a := "tuple") (b := "tuple") (by decide +kernel), _, rfl, iteT ?_⟩
    refine ⟨_, rfl, _, .tup hp, rfl, ?_⟩
    exact k
theorem scIsRowOf : FnScope ["thing", "many"] ["thing", "many"] (defScope sIsRowOf) := ⟨rfl, rfl, rfl, by decide +kernel, rfl, by decide +kernel, by decide +kernel⟩
theorem ok_is_row_of {f f1 : Addr} {fd fd1 : FuncData} (F : Df K mg "is_row_of" sIsRowOf ["thing", "many"] f fd) (F1 : Df K mg "is_row" sIsRow ["thing"] f1 fd1) (T : Bt mg) : FnOk P w K mg base CX0 2 f fd ["thing", "many"] (spRowOf K) := by
  have G1 : FnOk P w K mg base CX0 1 f1 fd1 ["thing"] (spRow K) := ok_is_row F1 T
  refine F.F.ok scIsRowOf (fun vs H Q E h => ?_) (fun cdv A outer s H vs Q E hr h => ?_)
  · obtain ⟨i, xs, n, rfl, _⟩ := h
    rfl
  · obtain ⟨i, xs, n, rfl, hp, k⟩ := h
    refine ⟨_, pss_one (ps_ret (pe_and (pe_call G1 hr (by rfl) F1.g F1.F.kp F1.b .nil pass0 (pa_cons (pv 0) pa_nil)) (pe_one (pe_cmpR op_eq (pe_callB call_len_seq (by rfl) T.len PySem.boot_len (pa_cons (pv 0) pa_nil)) (pv 1) (nomark _))))), ?_⟩
    refine ⟨_, rfl, _, _, rfl, hp, _, rfl, iteT ?_⟩
    refine ⟨_, rfl, _, _, rfl, .inr hp, _, rfl, rfl, ?_⟩
    have e : decide (V.int (xs.length : Int) = V.int n) = decide ((xs.length : Int) = n) := by
      rw [decide_eq_decide]
      constructor
      · intro h; injection h
      · intro h; rw [h]
    rw [e]
    exact k
theorem scIsFraction : FnScope ["thing"] ["thing"] (defScope sIsFraction) := ⟨rfl, rfl, rfl, by decide +kernel, rfl, by decide +kernel, by decide +kernel⟩
theorem ok_is_fraction {f f1 f2 f3 : Addr} {fd fd1 fd2 fd3 : FuncData} (F : Df K mg "is_fraction" sIsFraction ["thing"] f fd) (F1 : Df K mg "is_row_of" sIsRowOf ["thing", "many"] f1 fd1) (F2 : Df K mg "is_row" sIsRow ["thing"] f2 fd2)
    (F3 : Df K mg "is_whole" sIsWhole ["thing"] f3 fd3) (T : Bt mg) : FnOk P w K mg base CX0 3 f fd ["thing"] (spIsFr K) := by
  have G1 : FnOk P w K mg base CX0 2 f1 fd1 ["thing", "many"] (spRowOf K) := ok_is_row_of F1 F2 T
  have G3 : FnOk P w K mg base CX0 1 f3 fd3 ["thing"] (spWhole K) := ok_is_whole F3 T
  refine F.F.ok scIsFraction (fun vs H Q E h => ?_) (fun cdv A outer s H vs Q E hr h => ?_)
  · obtain ⟨p, x, rfl, _⟩ := h
    rfl
  · obtain ⟨p, x, rfl, hp, k⟩ := h
    have hr1 : Room 1 _ := hr.mono (by decide)
    refine ⟨_, pss_cons (ps_if (PW.pt (pw_or (pt_not (pt_val (pe_call G1 hr (by rfl) F1.g F1.F.kp F1.b .nil pass0 (pa_cons (pv 0) (pa_cons pe_int pa_nil))))) (pw_or (pt_not (pt_val (pe_call G3 hr1 (by rfl) F3.g F3.F.kp F3.b .nil pass0 (pa_cons (pe_fst 0) pa_nil)))) (pw_or1 (pt_not (pt_val (pe_call G3 hr1 (by rfl) F3.g F3.F.kp F3.b .nil pass0 (pa_cons (pe_snd 0) pa_nil))))))))
        (pss_one (ps_ret pe_bl)) pss_nil)
      (pss_one (ps_ret (pe_and (pe_cmpR op_ge (pe_snd 0) pe_int (nomark _)) (pe_one (pe_cmpR op_eq (pe_callBfun cr_gcd (by rfl) T.gcd (pa_cons (pe_fst 0) (pa_cons (pe_snd 0) pa_nil))) pe_int (nomark _)))))), ?_⟩
    refine ⟨_, rfl, _, _, _, rfl, hp, _, rfl, iteF ?_⟩
    refine ⟨p, x, rfl, hp, _, rfl, _, rfl, iteF ?_⟩
    refine ⟨p, x, rfl, hp, _, rfl, _, rfl, iteF ?_⟩
    refine ⟨p, x, rfl, hp, _, _, rfl, rfl, _, rfl, ?_⟩
    by_cases h1 : 1 ≤ x.2
    · rw [decide_eq_true h1]
      refine iteT ?_
      refine ⟨p, x, rfl, hp, p, x, rfl, hp, _, _, rfl, rfl, ?_⟩
      have e : decide (V.int ((Nat.gcd x.1.natAbs x.2.natAbs : Nat) : Int) = V.int 1) = decide (Fr x) := by
        rw [decide_eq_decide]
        constructor
        · intro h
          injection h with h
          refine ⟨h1, ?_⟩
          show Nat.gcd x.1.natAbs x.2.natAbs = 1
          omega
        · intro h
          have := h.2
          show V.int ((Int.gcd x.1 x.2 : Nat) : Int) = V.int 1
          rw [this]
          rfl
      rw [e]
      exact k
    · rw [decide_eq_false h1]
      refine iteF ?_
      rw [decide_eq_false (fun h : Fr x => h1 h.1)] at k
      exact k
theorem scNeedFraction : FnScope ["thing"] ["thing"] (defScope sNeedFraction) := ⟨rfl, rfl, rfl, by decide +kernel, rfl, by decide +kernel, by decide +kernel⟩
theorem ok_need_fraction {f f1 : Addr} {fd fd1 : FuncData} (F : Df K mg "need_fraction" sNeedFraction ["thing"] f fd) (F1 : Df K mg "is_fraction" sIsFraction ["thing"] f1 fd1) (G1 : FnOk P w K mg base CX0 3 f1 fd1 ["thing"] (spIsFr K)) : FnOk P w K mg base CX0 4 f fd ["thing"] (spNeedFr K) := by
  refine F.F.ok scNeedFraction (fun vs H Q E h => ?_) (fun cdv A outer s H vs Q E hr h => ?_)
  · obtain ⟨p, x, rfl, _⟩ := h
    rfl
  · obtain ⟨p, x, rfl, hp, hx, k⟩ := h
    refine ⟨_, pss_cons (ps_if (pt_not (pt_val (pe_call G1 hr (by rfl) F1.g F1.F.kp F1.b .nil pass0 (pa_cons (pv 0) pa_nil)))) (pss_one ps_never) pss_nil)
      (pss_one (ps_ret (pv 0))), ?_⟩
    refine ⟨_, rfl, p, x, rfl, hp, _, rfl, ?_⟩
    rw [decide_eq_true hx]
    refine iteF ?_
    exact ⟨_, rfl, k⟩
theorem scRatio : FnScope ["top", "bottom"] ["top", "bottom"] (defScope sRatio) := ⟨rfl, rfl, rfl, by decide +kernel, rfl, by decide +kernel, by decide +kernel⟩
theorem ok_ratio {f f1 f2 : Addr} {fd fd1 fd2 : FuncData} (F : Df K mg "ratio" sRatio ["top", "bottom"] f fd) (F1 : Df K mg "is_whole" sIsWhole ["thing"] f1 fd1) (F2 : Df K mg "lowered" sLowered ["top", "bottom"] f2 fd2) (T : Bt mg) :
    FnOk P w K mg base CX0 2 f fd ["top", "bottom"] spLow := by
  have G1 : FnOk P w K mg base CX0 1 f1 fd1 ["thing"] (spWhole K) := ok_is_whole F1 T
  have G2 : FnOk P w K mg base CX0 1 f2 fd2 ["top", "bottom"] spLow := ok_lowered F2 T
  refine F.F.ok scRatio (fun vs H Q E h => ?_) (fun cdv A outer s H vs Q E hr h => ?_)
  · obtain ⟨t, b, rfl, _⟩ := h
    rfl
  · obtain ⟨t, b, rfl, hb, h1, h2, k⟩ := h
    refine ⟨_, pss_cons (ps_if (pt_not (pt_val (pe_call G1 hr (by rfl) F1.g F1.F.kp F1.b .nil pass0 (pa_cons (pv 0) pa_nil)))) (pss_one ps_never) pss_nil)
      (pss_cons (ps_if (PW.pt (pw_or (pt_not (pt_val (pe_call G1 hr (by rfl) F1.g F1.F.kp F1.b .nil pass0 (pa_cons (pv 1) pa_nil)))) (pw_or1 (pt_cmpR op_eq (pv 1) pe_int (nomark _))))) (pss_one ps_never) pss_nil)
      (pss_one (ps_ret (pe_call G2 hr (by rfl) F2.g F2.F.kp F2.b .nil pass0 (pa_cons (pv 0) (pa_cons (pv 1) pa_nil)))))), ?_⟩
    refine ⟨_, rfl, _, rfl, _, rfl, iteF ?_⟩
    refine ⟨_, rfl, _, rfl, _, rfl, iteF ?_⟩
    refine ⟨_, rfl, rfl, _, rfl, ?_⟩
    rw [decide_eq_false (fun h => hb (by injection h))]
    refine iteF ?_
    exact ⟨_, rfl, _, rfl, t, b, rfl, hb, h1, h2, k⟩
theorem scPlus : FnScope ["one", "other"] ["one", "other"] (defScope sPlus) := ⟨rfl, rfl, rfl, by decide +kernel, rfl, by decide +kernel, by decide +kernel⟩
theorem ok_plus {f f1 f2 : Addr} {fd fd1 fd2 : FuncData} (F : Df K mg "plus" sPlus ["one", "other"] f fd) (F1 : Df K mg "need_fraction" sNeedFraction ["thing"] f1 fd1) (G1 : FnOk P w K mg base CX0 4 f1 fd1 ["thing"] (spNeedFr K))
    (F2 : Df K mg "added" sAdded ["one", "other"] f2 fd2) (G2 : FnOk P w K mg base CX0 2 f2 fd2 ["one", "other"] (spF2 K (fun _ _ => True) fadd)) : FnOk P w K mg base CX0 5 f fd ["one", "other"] (spF2 K (fun _ _ => True) fadd) := by
  refine F.F.ok scPlus (fun vs H Q E h => ?_) (fun cdv A outer s H vs Q E hr h => ?_)
  · obtain ⟨p, q, x, y, rfl, _⟩ := h
    rfl
  · obtain ⟨p, q, x, y, rfl, hp, hq, hx, hy, k⟩ := h
    refine ⟨_, pss_one (ps_ret (pe_call G2 (hr.mono (by decide)) (by rfl) F2.g F2.F.kp F2.b .nil pass0 (pa_cons (pe_call G1 hr (by rfl) F1.g F1.F.kp F1.b .nil pass0 (pa_cons (pv 0) pa_nil)) (pa_cons (pe_call G1 hr (by rfl) F1.g F1.F.kp F1.b .nil pass0 (pa_cons (pv 1) pa_nil)) pa_nil)))), ?_⟩
    exact ⟨_, rfl, p, x, rfl, hp, hx, _, rfl, q, y, rfl, hq, hy, p, q, x, y, rfl, hp, hq, hx, hy, k⟩
theorem scLess : FnScope ["one", "other"] ["one", "other"] (defScope sLess) := ⟨rfl, rfl, rfl, by decide +kernel, rfl, by decide +kernel, by decide +kernel⟩
theorem ok_less {f f1 f2 : Addr} {fd fd1 fd2 : FuncData} (F : Df K mg "less" sLess ["one", "other"] f fd) (F1 : Df K mg "need_fraction" sNeedFraction ["thing"] f1 fd1) (G1 : FnOk P w K mg base CX0 4 f1 fd1 ["thing"] (spNeedFr K))
    (F2 : Df K mg "lessened" sLessened ["one", "other"] f2 fd2) (G2 : FnOk P w K mg base CX0 2 f2 fd2 ["one", "other"] (spF2 K (fun _ _ => True) fsub)) : FnOk P w K mg base CX0 5 f fd ["one", "other"] (spF2 K (fun _ _ => True) fsub) := by
  refine F.F.ok scLess (fun vs H Q E h => ?_) (fun cdv A outer s H vs Q E hr h => ?_)
  · obtain ⟨p, q, x, y, rfl, _⟩ := h
    rfl
  · obtain ⟨p, q, x, y, rfl, hp, hq, hx, hy, k⟩ := h
    refine ⟨_, pss_one (ps_ret (pe_call G2 (hr.mono (by decide)) (by rfl) F2.g F2.F.kp F2.b .nil pass0 (pa_cons (pe_call G1 hr (by rfl) F1.g F1.F.kp F1.b .nil pass0 (pa_cons (pv 0) pa_nil)) (pa_cons (pe_call G1 hr (by rfl) F1.g F1.F.kp F1.b .nil pass0 (pa_cons (pv 1) pa_nil)) pa_nil)))), ?_⟩
    exact ⟨_, rfl, p, x, rfl, hp, hx, _, rfl, q, y, rfl, hq, hy, p, q, x, y, rfl, hp, hq, hx, hy, k⟩
theorem scTimes : FnScope ["one", "other"] ["one", "other"] (defScope sTimes) := ⟨rfl, rfl, rfl, by decide +kernel, rfl, by decide +kernel, by decide +kernel⟩
theorem ok_times {f f1 f2 : Addr} {fd fd1 fd2 : FuncData} (F : Df K mg "times" sTimes ["one", "other"] f fd) (F1 : Df K mg "need_fraction" sNeedFraction ["thing"] f1 fd1) (G1 : FnOk P w K mg base CX0 4 f1 fd1 ["thing"] (spNeedFr K))
    (F2 : Df K mg "multiplied" sMultiplied ["one", "other"] f2 fd2) (G2 : FnOk P w K mg base CX0 2 f2 fd2 ["one", "other"] (spF2 K (fun _ _ => True) fmul)) : FnOk P w K mg base CX0 5 f fd ["one", "other"] (spF2 K (fun _ _ => True) fmul) := by
  refine F.F.ok scTimes (fun vs H Q E h => ?_) (fun cdv A outer s H vs Q E hr h => ?_)
  · obtain ⟨p, q, x, y, rfl, _⟩ := h
    rfl
  · obtain ⟨p, q, x, y, rfl, hp, hq, hx, hy, k⟩ := h
    refine ⟨_, pss_one (ps_ret (pe_call G2 (hr.mono (by decide)) (by rfl) F2.g F2.F.kp F2.b .nil pass0 (pa_cons (pe_call G1 hr (by rfl) F1.g F1.F.kp F1.b .nil pass0 (pa_cons (pv 0) pa_nil)) (pa_cons (pe_call G1 hr (by rfl) F1.g F1.F.kp F1.b .nil pass0 (pa_cons (pv 1) pa_nil)) pa_nil)))), ?_⟩
    exact ⟨_, rfl, p, x, rfl, hp, hx, _, rfl, q, y, rfl, hq, hy, p, q, x, y, rfl, hp, hq, hx, hy, k⟩
theorem scIsLess : FnScope ["one", "other"] ["one", "other"] (defScope sIsLess) := ⟨rfl, rfl, rfl, by decide +kernel, rfl, by decide +kernel, by decide +kernel⟩
theorem ok_is_less {f f1 f2 : Addr} {fd fd1 fd2 : FuncData} (F : Df K mg "is_less" sIsLess ["one", "other"] f fd) (F1 : Df K mg "need_fraction" sNeedFraction ["thing"] f1 fd1) (G1 : FnOk P w K mg base CX0 4 f1 fd1 ["thing"] (spNeedFr K))
    (F2 : Df K mg "is_below" sIsBelow ["one", "other"] f2 fd2) (G2 : FnOk P w K mg base CX0 1 f2 fd2 ["one", "other"] (spB2 K flt)) : FnOk P w K mg base CX0 5 f fd ["one", "other"] (spB2 K flt) := by
  refine F.F.ok scIsLess (fun vs H Q E h => ?_) (fun cdv A outer s H vs Q E hr h => ?_)
  · obtain ⟨p, q, x, y, rfl, _⟩ := h
    rfl
  · obtain ⟨p, q, x, y, rfl, hp, hq, hx, hy, k⟩ := h
    refine ⟨_, pss_one (ps_ret (pe_call G2 (hr.mono (by decide)) (by rfl) F2.g F2.F.kp F2.b .nil pass0 (pa_cons (pe_call G1 hr (by rfl) F1.g F1.F.kp F1.b .nil pass0 (pa_cons (pv 0) pa_nil)) (pa_cons (pe_call G1 hr (by rfl) F1.g F1.F.kp F1.b .nil pass0 (pa_cons (pv 1) pa_nil)) pa_nil)))), ?_⟩
    exact ⟨_, rfl, p, x, rfl, hp, hx, _, rfl, q, y, rfl, hq, hy, p, q, x, y, rfl, hp, hq, hx, hy, k⟩
theorem scOver : FnScope ["one", "other"] ["one", "other"] (defScope sOver) := ⟨rfl, rfl, rfl, by decide +kernel, rfl, by decide +kernel, by decide +kernel⟩
theorem ok_over {f f1 f2 aN : Addr} {fd fd1 fd2 : FuncData} (F : Df K mg "over" sOver ["one", "other"] f fd) (F1 : Df K mg "need_fraction" sNeedFraction ["thing"] f1 fd1) (G1 : FnOk P w K mg base CX0 4 f1 fd1 ["thing"] (spNeedFr K))
    (F2 : Df K mg "divided" sDivided ["one", "other"] f2 fd2) (G2 : FnOk P w K mg base CX0 2 f2 fd2 ["one", "other"] (spF2 K (fun _ y => y.1 ≠ 0) fdiv)) (gN : mg "NOUGHT" = some (.ref aN)) (hN : ∀ H, FT K H aN (0, 1)) : FnOk P w K mg base CX0 5 f fd ["one", "other"] (spF2 K (fun _ y => y.1 ≠ 0) fdiv) := by
  refine F.F.ok scOver (fun vs H Q E h => ?_) (fun cdv A outer s H vs Q E hr h => ?_)
  · obtain ⟨p, q, x, y, rfl, _⟩ := h
    rfl
  · obtain ⟨p, q, x, y, rfl, hp, hq, hx, hy, zx, zy, ok, k⟩ := h
    have hu := hu_of hr
    refine ⟨_, pss_cons (ps_expr (pe_call G1 hr (by rfl) F1.g F1.F.kp F1.b .nil pass0 (pa_cons (pv 0) pa_nil)))
      (pss_cons (ps_if (pt_cmpR (op_eqD hr.units) (pe_call G1 hr (by rfl) F1.g F1.F.kp F1.b .nil pass0 (pa_cons (pv 1) pa_nil)) (pe_glob (v := .ref aN) (by rfl) gN rfl) (nomark _)) (pss_one ps_never) pss_nil)
      (pss_one (ps_ret (pe_call G2 (hr.mono (by decide)) (by rfl) F2.g F2.F.kp F2.b .nil pass0 (pa_cons (pv 0) (pa_cons (pv 1) pa_nil)))))), ?_⟩
    refine ⟨_, rfl, p, x, rfl, hp, hx, ?_⟩
    refine ⟨_, rfl, q, y, rfl, hq, hy, .tuple [.int y.1, .int y.2], .tuple [.int 0, .int 1], .tup hq (.cons (.int _) (.cons (.int _) .nil)), .tup (hN H) (.cons (.int _) (.cons (.int _) .nil)), rfl, rfl, _, rfl, ?_⟩
    have e : PyData.eqv (.tuple [.int y.1, .int y.2]) (.tuple [.int 0, .int 1]) = false := by
      simp [PyData.eqv, PyData.eqvAll, ok]
    rw [e]
    refine iteF ?_
    exact ⟨_, rfl, _, rfl, p, q, x, y, rfl, hp, hq, hx, hy, zx, zy, ok, k⟩
end
end CS
set_option Elab.async false
set_option maxRecDepth 100000
set_option maxHeartbeats 4000000
set_option linter.unusedVariables false
namespace CS
open PySem L2
abbrev sMixed : Stmt := top 27
abbrev sBegin : Stmt := top 28
abbrev sDraw : Stmt := top 29
/-- the pairs of a state of draws -/
def stD (c l : Addr) (k : Int) : List (Key × V) := [(Sum.inr "cells", .ref c), (Sum.inr "lefts", .ref l), (Sum.inr "at", .int k), (Sum.inr "room", .int 0)]
theorem kn1 : ¬ (("cells" : Str) = "lefts") := by decide +kernel
theorem kn2 : ¬ (("cells" : Str) = "at") := by decide +kernel
theorem kn3 : ¬ (("cells" : Str) = "room") := by decide +kernel
theorem kn4 : ¬ (("lefts" : Str) = "at") := by decide +kernel
theorem kn5 : ¬ (("lefts" : Str) = "room") := by decide +kernel
theorem kn6 : ¬ (("at" : Str) = "room") := by decide +kernel
theorem kn7 : ¬ (("room" : Str) = "at") := by decide +kernel
theorem stD_cells (c l : Addr) (k : Int) : valV (stD c l k) (Sum.inr ("cells" : Str)) = some (.ref c) := valV_pos rfl
theorem stD_lefts (c l : Addr) (k : Int) : valV (stD c l k) (Sum.inr ("lefts" : Str)) = some (.ref l) := by
  simp [stD, valV, List.find?_cons, kn1]
theorem stD_at (c l : Addr) (k : Int) : valV (stD c l k) (Sum.inr ("at" : Str)) = some (.int k) := by
  simp [stD, valV, List.find?_cons, kn2, kn4]
theorem stD_put (c l : Addr) (k k' : Int) : putK (stD c l k) (Sum.inr ("at" : Str)) (.int k') = stD c l k' := by
  simp [stD, putK, kn2, kn4, kn7]
theorem stD_make (c l : Addr) : mergeK [] [((Sum.inr ("cells" : Str) : Key), V.ref c), (Sum.inr ("lefts" : Str), .ref l), (Sum.inr ("at" : Str), .int 0), (Sum.inr ("room" : Str), .int 0)] = stD c l 0 := by
  simp [mergeK, putK, stD, kn1, kn2, kn3, kn4, kn5, kn6]
/-- a state of draws, k of them done -/
structure StAt (H : Hp) (d c l : Addr) (k : Nat) : Prop where
  hd : H d = some (.dK (stD c l k))
  ne : c ≠ l
  ex : ∃ cs ls : List Int, H c = some (.lst (cs.map V.int)) ∧ H l = some (.lst (ls.map V.int)) ∧ cs.length = ls.length ∧ 0 < cs.length ∧ cs.length ≤ 64 ∧ ∀ v ∈ ls, 0 ≤ v
/-- what does not belong to the state is as it was -/
def Fm (d l : Addr) (H H' : Hp) : Prop := ∀ b o, H b = some o → b ≠ d → b ≠ l → H' b = some o
theorem Fm.refl (d l : Addr) (H : Hp) : Fm d l H H := fun _ _ e _ _ => e
theorem Fm.trans {d l : Addr} {H H1 H2 : Hp} (a : Fm d l H H1) (b : Fm d l H1 H2) : Fm d l H H2 := fun c o h n m => b c o (a c o h n m) n m
theorem Fm.same {d l : Addr} {H H1 H2 : Hp} (a : Fm d l H H1) (b : Same H1 H2) : Fm d l H H2 := fun c o h n m => b c o (a c o h n m)
theorem same_fm {d l : Addr} {H H1 : Hp} (a : Same H H1) : Fm d l H H1 := fun c o h _ _ => a c o h
theorem StAt.same {H H' : Hp} {d c l : Addr} {k : Nat} (S : StAt H d c l k) (e : Same H H') : StAt H' d c l k := by
  obtain ⟨hd, ne, cs, ls, h1, h2, r⟩ := S
  exact ⟨e _ _ hd, ne, cs, ls, e _ _ h1, e _ _ h2, r⟩
/-- a tuple that stood stands -/
theorem Fm.tup {K : PySem.W.Frag} {H H' : Hp} {d c l p : Addr} {k : Nat} {xs : List V} (e : Fm d l H H') (S : StAt H d c l k) (h : SqT K H p xs) : SqT K H' p xs := by
  obtain ⟨hd, ne, cs, ls, h1, h2, r⟩ := S
  rcases h with (h | ⟨o, h⟩) | h
  · exact .inl (.inl (e _ _ h (fun q => by subst q; rw [hd] at h; cases h) (fun q => by subst q; rw [h2] at h; cases h)))
  · exact .inl (.inr ⟨o, e _ _ h (fun q => by subst q; rw [hd] at h; cases h) (fun q => by subst q; rw [h2] at h; cases h)⟩)
  · exact .inr h
def spMixed : Sp := fun vs H Q _ => ∃ c k : Int, vs = [.int c, .int k] ∧ 0 ≤ k ∧ k ≤ 1000000 ∧ ∀ r : Int, 0 ≤ r → r < 2147483629 → Q (.int r) H
def spBegin (K : PySem.W.Frag) : Sp := fun vs H Q _ => ∃ (a : Addr) (ns : List Int), vs = [.ref a] ∧ SqL K H a (ns.map V.int) ∧ ns.length ≤ 63 ∧ ∀ d c l H', H d = none → Same H H' → StAt H' d c l 0 → Q (.ref d) H'
def spDraw : Sp := fun vs H Q _ => ∃ (d c l : Addr) (k : Nat) (m : Int), vs = [.ref d, .int m] ∧ StAt H d c l k ∧ 0 < m ∧ m.natAbs < 2 ^ 200 ∧ k ≤ 100000 ∧ ∀ r H', 0 ≤ r → r < m → StAt H' d c l (k + 1) → Fm d l H H' → Q (.int r) H'
section
variable {P : Program} {w : World} {K : PySem.W.Frag} {mg : Str → Option Value} {base : Heap}
theorem scMixed : FnScope ["cell", "k"] ["cell", "k"] (defScope sMixed) := ⟨rfl, rfl, rfl, by decide +kernel, rfl, by decide +kernel, by decide +kernel⟩
theorem ok_mixed {f : Addr} {fd : FuncData} (F : Df K mg "_law_mixed" sMixed ["cell", "k"] f fd) (T : Bt mg) : FnOk P w K mg base CX0 1 f fd ["cell", "k"] spMixed := by
  refine F.F.ok scMixed (fun vs H Q E h => ?_) (fun cdv A outer s H vs Q E hr h => ?_)
  · obtain ⟨c, k, rfl, _⟩ := h
    rfl
  · obtain ⟨c, k, rfl, k0, k1, q⟩ := h
    refine ⟨_, pss_cons (ps_set (i := 0) scMixed.nd rfl (Or.inl rfl) (pe_op op_mod (pe_callTy call_int1 (by rfl) T.int (by decide +kernel) (pa_cons (pv 0) pa_nil)) pe_int))
      (pss_one (ps_ret (pe_op op_mod (pe_op op_mul (pe_op op_mod (pe_op op_add (pe_op op_add
        (pe_op op_mul (pv 0) (pe_op op_add pe_int (pe_op op_mul (pe_op op_mul pe_int (pv 1)) (pv 1))))
        (pe_op op_mul pe_int (pv 1))) pe_int) pe_int) pe_int) pe_int))), ?_⟩
    have hc0 : 0 ≤ c % 2147483647 := Int.emod_nonneg _ (by decide)
    have hc1 : c % 2147483647 < 2147483647 := Int.emod_lt_of_pos _ (by decide)
    refine ⟨_, rfl, .inl ⟨c, rfl, _, _, rfl, rfl, (by show (0 : Int) < 2147483647; decide), ?_⟩⟩
    generalize hcc : c % 2147483647 = cc at *
    refine ⟨_, rfl, _, rfl, _, _, rfl, rfl, .inl ⟨by decide, by decide⟩, _, rfl, _, _, rfl, rfl, .inr ⟨by omega, by omega⟩, _, _, rfl, rfl, ?_⟩
    generalize 48271 + 2 * k * k = z
    refine ⟨_, _, rfl, rfl, .inl ⟨by omega, by omega⟩, _, rfl, _, _, rfl, rfl, .inl ⟨by decide, by decide⟩, _, _, rfl, rfl, _, _, rfl, rfl, _, _, rfl, rfl, (by show (0 : Int) < 2147483647; decide), ?_⟩
    generalize hy : (cc * z + 69621 * k + 11) = y
    have hy0 : 0 ≤ y % 2147483647 := Int.emod_nonneg _ (by decide)
    have hy1 : y % 2147483647 < 2147483647 := Int.emod_lt_of_pos _ (by decide)
    refine ⟨_, _, rfl, rfl, .inl ⟨by omega, by omega⟩, _, _, rfl, rfl, (by show (0 : Int) < 2147483629; decide), ?_⟩
    exact q _ (Int.emod_nonneg _ (by decide)) (Int.emod_lt_of_pos _ (by decide))
theorem dpInts (K : PySem.W.Frag) (H : Hp) : ∀ ns : List Int, DpAll K H (ns.map V.int) (ns.map PyData.int)
  | [] => .nil
  | n :: ns => .cons (.int n) (dpInts K H ns)
theorem cl0 : ∀ ns : List Int, PyData.canLayAll0 (ns.map PyData.int) = true
  | [] => rfl
  | n :: ns => by
    show (PyData.canLay0 (.int n) && PyData.canLayAll0 (ns.map PyData.int)) = true
    rw [cl0 ns]
    rfl
theorem dp0 : ∀ ns : List Int, PyData.depthAll (ns.map PyData.int) ≤ 1
  | [] => by decide
  | n :: ns => by
    have := dp0 ns
    simp [PyData.depthAll, PyData.depth] at *
    omega
theorem shInts (ns : List Int) : SeqAt.shaped (.list (ns.map PyData.int)) = true := by
  have h1 := cl0 ns
  have h2 := dp0 ns
  simp [SeqAt.shaped, PyData.canLay0, PyData.depth, h1]
  omega
theorem scBegin : FnScope ["script", "cells", "cell"] ["script"] (defScope sBegin) := ⟨rfl, rfl, rfl, by decide +kernel, rfl, by decide +kernel, by decide +kernel⟩
theorem ok_begin {f : Addr} {fd : FuncData} (F : Df K mg "_law_begin" sBegin ["script"] f fd) (T : Bt mg) : FnOk P w K mg base CX0 1 f fd ["script"] (spBegin K) := by
  refine F.F.ok scBegin (fun vs H Q E h => ?_) (fun cdv A outer s H vs Q E hr h => ?_)
  · obtain ⟨a, ns, rfl, _⟩ := h
    rfl
  · obtain ⟨a, ns, rfl, hS, hlen, k⟩ := h
    refine ⟨_, Evl.pss_cut (ps_set (i := 1) scBegin.nd rfl (Or.inl rfl) (pe_ifExp (pt_cmpR (op_neD hr.units) (pv 0) (pe_lst pa_nil) (nomark _)) (pe_callTy call_list_of (by rfl) T.list (by decide +kernel) (pa_cons (pv 0) pa_nil)) (pe_lst (pa_cons pe_int pa_nil))))
      (pss_one (ps_ret (pe_disp (pps_cons pe_str (pv 1) (pps_cons pe_str
        (pe_lc (own := [("cell", 2)]) (g := gName 2) (tt := tYes) rfl scBegin.nd (pi_list (pv 1)) (blkOk_by (N := ["script", "cells", "cell"]) (sc := defScope sBegin) (by decide +kernel)) (fun _ _ _ _ _ => pg_name (i := 2) scBegin.nd rfl (Or.inl rfl)) (fun _ _ _ _ _ => pts_nil)
          (fun _ _ _ _ _ => pe_ifExp (pt_cmpR op_ge (pv 2) (pe_op op_pow pe_int pe_int) (nomark _)) (pv 2) pe_int))
        (pps_cons pe_str pe_int (pps_cons pe_str pe_int pps_nil)))) (by rfl) (by rfl) (fun z => by cases z) (by decide)))), ?_⟩
    refine ⟨fun σ' H' => ∃ (c : Addr) (cs : List Int), σ' = [some (.ref a), some (.ref c), none] ∧ Same H H' ∧ H c = none ∧ H' c = some (.lst (cs.map V.int)) ∧ 0 < cs.length ∧ cs.length ≤ 64, ?_, ?_⟩
    · refine ⟨_, rfl, (by show 0 ≤ sizeLine; decide), fun q0 hq0 => ?_⟩
      refine ⟨.list (ns.map PyData.int), .list [], .lst ((Same.new hq0).seq hS) (dpInts _ _ ns), .lst (SqL.of upd_same) .nil, shInts ns, rfl, _, rfl, ?_⟩
      cases ns with
      | nil =>
        refine iteF ?_
        refine ⟨(by show 1 ≤ sizeLine; decide), fun c hc => ?_⟩
        exact ⟨c, [0], rfl, (Same.new hq0).trans (Same.new hc), (Same.new hq0).free hc, upd_same, by decide, by decide⟩
      | cons n ns =>
        refine iteT ?_
        refine ⟨_, rfl, a, _, rfl, .inl ((Same.new hq0).seq hS), fun c hc => ?_⟩
        exact ⟨c, n :: ns, rfl, (Same.new hq0).trans (Same.new hc), (Same.new hq0).free hc, upd_same, by simp, by omega⟩
    · rintro σ' H1 ⟨c, cs, rfl, s1, nc, hc, c0, c64⟩
      intro p hp
      have ncp : c ≠ p := ne_of_none hc hp
      have hcp : (upd H1 p (.dK [])) c = some (.lst (cs.map V.int)) := by rw [upd_ne ncp]; exact hc
      refine ⟨_, rfl, _, rfl, c, rfl, ⟨_, SqL.of hcp⟩, fun D hD => ?_⟩
      have ncD : c ≠ D := ne_of_none hcp hD
      have npD : p ≠ D := ne_of_none upd_same hD
      refine lc_list (K := K) (a := c) (xs := cs.map V.int) (fun i H' => ∃ acc : List Int, H' = upd (upd H1 p (.dK [])) D (.lst (acc.map V.int)) ∧ acc.length = i ∧ ∀ v ∈ acc, 0 ≤ v) ⟨[], rfl, rfl, fun v hv => by cases hv⟩ ?_ ?_ ?_
      · rintro i H' hi ⟨acc, rfl, _, _⟩
        exact SqL.of (by rw [upd_ne ncD]; exact hcp)
      · rintro i x H' hx ⟨acc, rfl, hl, h0⟩
        have hil : i < (cs.map V.int).length := (List.getElem?_eq_some_iff.mp hx).1
        rw [List.length_map] at hil
        obtain ⟨z, rfl⟩ : ∃ z, x = V.int z := by
          rw [List.getElem?_map] at hx
          cases e : cs[i]? with
          | none =>
            rw [e] at hx
            cases hx
          | some z =>
            rw [e] at hx
            exact ⟨z, (Option.some.inj hx).symm⟩
        refine ⟨rfl, ?_⟩
        dsimp only [tYes]
        rw [if_pos rfl]
        refine ⟨_, rfl, 10, 18, rfl, rfl, ⟨by decide, by decide, by decide⟩, _, _, rfl, rfl, _, rfl, ?_⟩
        by_cases hz : (10 : Int) ^ (18 : Int).toNat ≤ z
        · rw [decide_eq_true hz]
          refine iteT ⟨_, rfl, _, upd_same, ?_, acc ++ [z], ?_, ?_, ?_⟩
          · rw [List.length_map]; exact small1000 (by omega)
          · rw [upd_upd, List.map_append]; rfl
          · rw [List.length_append]; simp [hl]
          · intro v hv
            rcases List.mem_append.mp hv with q | q
            · exact h0 v q
            · have := List.mem_singleton.mp q
              have h18 : (0 : Int) ≤ (10 : Int) ^ (18 : Int).toNat := by decide
              omega
        · rw [decide_eq_false hz]
          refine iteF ⟨_, upd_same, ?_, acc ++ [0], ?_, ?_, ?_⟩
          · rw [List.length_map]; exact small1000 (by omega)
          · rw [upd_upd, List.map_append]; rfl
          · rw [List.length_append]; simp [hl]
          · intro v hv
            rcases List.mem_append.mp hv with q | q
            · exact h0 v q
            · have := List.mem_singleton.mp q
              omega
      · rintro H' ⟨acc, rfl, hl, h0⟩
        refine ⟨by rw [upd_ne npD]; exact upd_same, [(Sum.inr ("cells" : Str), V.ref c), (Sum.inr ("lefts" : Str), .ref D), (Sum.inr ("at" : Str), .int 0), (Sum.inr ("room" : Str), .int 0)], rfl, (by show 4 ≤ 15; decide), ?_⟩
        rw [stD_make]
        have hD1 : H1 D = none := (Same.new hp).free hD
        refine k p c D _ (s1.free hp) (s1.trans ?_) ?_
        · intro b o e
          rw [upd_ne (ne_of_none e hp), upd_ne (ne_of_none e hD1), upd_ne (ne_of_none e hp)]
          exact e
        · refine ⟨upd_same, ncD, cs, acc, ?_, ?_, ?_, c0, c64, h0⟩
          · rw [upd_ne ncp, upd_ne ncD]; exact hcp
          · rw [upd_ne npD.symm, upd_same]
          · rw [hl, List.length_map]
theorem scDraw : FnScope ["state", "many", "at", "place", "left", "number"] ["state", "many"] (defScope sDraw) := ⟨rfl, rfl, rfl, by decide +kernel, rfl, by decide +kernel, by decide +kernel⟩
theorem ok_draw {f f1 : Addr} {fd fd1 : FuncData} (F : Df K mg "_law_draw" sDraw ["state", "many"] f fd) (F1 : Df K mg "_law_mixed" sMixed ["cell", "k"] f1 fd1) (T : Bt mg) : FnOk P w K mg base CX0 2 f fd ["state", "many"] spDraw := by
  have G1 : FnOk P w K mg base CX0 1 f1 fd1 ["cell", "k"] spMixed := ok_mixed F1 T
  refine F.F.ok scDraw (fun vs H Q E h => ?_) (fun cdv A outer s H vs Q E hr h => ?_)
  · obtain ⟨d, c, l, k, m, rfl, _⟩ := h
    rfl
  · obtain ⟨d, c, l, n, m, rfl, S, m0, m1, n1, k⟩ := h
    have hu := hu_of hr
    refine ⟨_, pss_cons (ps_set (i := 2) scDraw.nd rfl (Or.inl rfl) (pe_dget hu (pv 0) pe_str (fun _ _ => rfl)))
      (pss_cons (ps_dput hu (pv 0) pe_str (pe_op op_add (pv 2) pe_int) rfl)
      (pss_cons (ps_set (i := 3) scDraw.nd rfl (Or.inl rfl) (pe_op op_mod (pe_callTy call_int1 (by rfl) T.int (by decide +kernel) (pa_cons (pv 2) pa_nil)) (pe_callB call_len_seq (by rfl) T.len PySem.boot_len (pa_cons (pe_dget hu (pv 0) pe_str (fun _ _ => rfl)) pa_nil))))
      (pss_cons (ps_set (i := 4) scDraw.nd rfl (Or.inl rfl) (pe_ix ix_list (pe_dget hu (pv 0) pe_str (fun _ _ => rfl)) (pv 3) (fun _ _ => rfl)))
      (pss_cons (ps_if (pt_cmpR op_gt (pv 4) pe_int (nomark _))
        (pss_cons (ps_asg (pe_op op_fdivW (pv 4) (pv 1)) (pg_sub (pe_dget hu (pv 0) pe_str (fun _ _ => rfl)) (pv 3) set_list))
        (pss_one (ps_ret (pe_op op_mod (pe_callTy call_int1 (by rfl) T.int (by decide +kernel) (pa_cons (pv 4) pa_nil)) (pv 1))))) pss_nil)
      (pss_cons (ps_set (i := 5) scDraw.nd rfl (Or.inl rfl) (pe_call G1 hr (by rfl) F1.g F1.F.kp F1.b .nil pass0 (pa_cons (pe_call G1 hr (by rfl) F1.g F1.F.kp F1.b .nil pass0 (pa_cons (pe_ix ix_list (pe_dget hu (pv 0) pe_str (fun _ _ => rfl)) (pv 3) (fun _ _ => rfl)) (pa_cons (pv 2) pa_nil))) (pa_cons (pe_op op_add pe_int (pv 2)) pa_nil))))
      (pss_one (ps_ret (pe_op op_mod (pe_op op_fdiv (pe_callTy call_int1 (by rfl) T.int (by decide +kernel) (pa_cons (pe_op op_add (pe_op op_mul (pv 5) pe_int) (pe_call G1 hr (by rfl) F1.g F1.F.kp F1.b .nil pass0 (pa_cons (pv 5) (pa_cons (pe_op op_add pe_int (pv 2)) pa_nil)))) pa_nil)) pe_int) (pv 1))))))))), ?_⟩
    obtain ⟨hd, ncl, cs, ls, hc, hl, hcl, c0, c64, hls⟩ := S
    have ndc : d ≠ c := ne_of hd hc (by intro z; cases z)
    have ndl : d ≠ l := ne_of hd hl (by intro z; cases z)
    refine ⟨_, rfl, d, _, rfl, (stD_at c l n) ▸ DGet.k (k := Sum.inr ("at" : Str)) hd, ?_⟩
    refine ⟨_, rfl, _, _, rfl, rfl, _, rfl, d, _, rfl, DPut.k (k := Sum.inr ("at" : Str)) hd (by show 4 < sizeLine; decide), ?_⟩
    rw [stD_put]
    have hd2 : (upd H d (.dK (stD c l ((n : Int) + 1)))) d = some (.dK (stD c l ((n + 1 : Nat) : Int))) := upd_same
    have hc2 : (upd H d (.dK (stD c l ((n : Int) + 1)))) c = some (.lst (cs.map V.int)) := by rw [upd_ne ndc.symm]; exact hc
    have hl2 : (upd H d (.dK (stD c l ((n : Int) + 1)))) l = some (.lst (ls.map V.int)) := by rw [upd_ne ndl.symm]; exact hl
    have fm2 : Fm d l H (upd H d (.dK (stD c l ((n : Int) + 1)))) := fun b o e nb _ => by rw [upd_ne nb]; exact e
    generalize upd H d (.dK (stD c l ((n : Int) + 1))) = H2 at *
    have el : ((n : Int) % ((cs.map V.int).length : Int)) = ((n % cs.length : Nat) : Int) := by
      rw [List.length_map]
      omega
    refine ⟨_, rfl, .inl ⟨_, rfl, _, rfl, d, _, rfl, (stD_cells c l _) ▸ DGet.k (k := Sum.inr ("cells" : Str)) hd2, c, _, rfl, .inl (SqL.of hc2), _, _, rfl, rfl, (by show (0 : Int) < ((cs.map V.int).length : Int); rw [List.length_map]; omega), ?_⟩⟩
    simp only [el]
    have hj : n % cs.length < cs.length := Nat.mod_lt _ c0
    generalize n % cs.length = j at *
    obtain ⟨y, hy⟩ : ∃ y, ls[j]? = some y := ⟨ls[j]'(by omega), by simp⟩
    obtain ⟨x, hx⟩ : ∃ x, cs[j]? = some x := ⟨cs[j]'(by omega), by simp⟩
    have y0 : 0 ≤ y := hls y (List.mem_of_getElem? hy)
    have hyv : atI (ls.map V.int) ((j : Nat) : Int) = some (.int y) := atI_nat (by rw [List.getElem?_map, hy]; rfl)
    have hxv : atI (cs.map V.int) ((j : Nat) : Int) = some (.int x) := atI_nat (by rw [List.getElem?_map, hx]; rfl)
    refine ⟨_, rfl, d, _, rfl, (stD_lefts c l _) ▸ DGet.k (k := Sum.inr ("lefts" : Str)) hd2, _, rfl, l, _, _, _, rfl, rfl, SqL.of hl2, hyv, ?_⟩
    refine ⟨_, rfl, _, _, rfl, rfl, _, rfl, ?_⟩
    by_cases hy1 : 0 < y
    · rw [decide_eq_true hy1]
      refine iteT ?_
      refine ⟨_, rfl, _, rfl, _, _, rfl, rfl, wide_div m0 m1 (by decide) (by decide), ?_⟩
      refine ⟨_, rfl, d, _, rfl, (stD_lefts c l _) ▸ DGet.k (k := Sum.inr ("lefts" : Str)) hd2, _, rfl, l, _, _, j, rfl, rfl, hl2, ?_, ?_⟩
      · rw [List.length_map]
        unfold ixN
        rw [if_pos (by omega), if_pos (by omega)]
        simp
      refine ⟨_, rfl, .inl ⟨_, rfl, _, rfl, _, _, rfl, rfl, m0, ?_⟩⟩
      refine k _ _ (Int.emod_nonneg _ (by omega)) (Int.emod_lt_of_pos _ m0) ⟨by rw [upd_ne ndl]; exact hd2, ncl, cs, ls.set j (y / m), by rw [upd_ne ncl]; exact hc2, ?_, by rw [List.length_set]; exact hcl, c0, c64, ?_⟩ ?_
      · rw [upd_same, List.map_set]
      · intro v hv
        rcases List.mem_or_eq_of_mem_set hv with q | q
        · exact hls v q
        · rw [q]; exact Int.ediv_nonneg y0 (by omega)
      · intro b o e n1 n2
        rw [upd_ne n2]
        exact fm2 b o e n1 n2
    · rw [decide_eq_false hy1]
      refine iteF ?_
      refine ⟨_, rfl, d, _, rfl, (stD_cells c l _) ▸ DGet.k (k := Sum.inr ("cells" : Str)) hd2, _, rfl, c, _, _, _, rfl, rfl, SqL.of hc2, hxv, _, rfl, x, n, rfl, by omega, by omega, fun r1 a0 a1 => ?_⟩
      refine ⟨_, rfl, _, _, rfl, rfl, _, _, rfl, by omega, by omega, fun r2 b0 b1 => ?_⟩
      refine ⟨_, rfl, _, _, rfl, rfl, .inl ⟨by omega, by omega⟩, _, rfl, _, rfl, _, _, rfl, rfl, _, _, rfl, by omega, by omega, fun r3 e0 e1 => ?_⟩
      refine ⟨_, _, rfl, rfl, .inl ⟨_, rfl, _, _, rfl, rfl, ⟨by decide, by decide⟩, _, rfl, _, _, rfl, rfl, m0, ?_⟩⟩
      exact k _ _ (Int.emod_nonneg _ (by omega)) (Int.emod_lt_of_pos _ m0) ⟨hd2, ncl, cs, ls, hc2, hl2, hcl, c0, c64, hls⟩ fm2
end
end CS
set_option Elab.async false
set_option maxRecDepth 100000
set_option maxHeartbeats 8000000
set_option linter.unusedVariables false
namespace CS
open PySem L2
abbrev sLawRatio : Stmt := top 30
abbrev sLawPlus : Stmt := top 31
abbrev sLawLess : Stmt := top 32
abbrev sLawTimes : Stmt := top 33
abbrev sLawUnder : Stmt := top 35
abbrev sLawDrawn : Stmt := top 37
def spLowP : Sp := fun vs H Q _ => ∃ t b : Int, vs = [.int t, .int b] ∧ 0 < b ∧ t.natAbs < 2 ^ 4000 ∧ b.natAbs < 2 ^ 4000 ∧
  ∀ p, H p = none → Q (.ref p) (upd H p (.tup [.int (low t b).1, .int (low t b).2]))
def spDrawn (K : PySem.W.Frag) : Sp := fun vs H Q _ => ∃ (d c l : Addr) (k : Nat), vs = [.ref d] ∧ StAt H d c l k ∧ k ≤ 90000 ∧
  ∀ p H' x, Fr x → Sz 70 x → StAt H' d c l (k + 3) → Fm d l H H' → FT K H' p x → Q (.ref p) H'
section
variable {P : Program} {w : World} {K : PySem.W.Frag} {mg : Str → Option Value} {base : Heap}
theorem scLawRatio : FnScope ["top", "bottom", "one", "other"] ["top", "bottom"] (defScope sLawRatio) := ⟨rfl, rfl, rfl, by decide +kernel, rfl, by decide +kernel, by decide +kernel⟩
theorem ok_law_ratio {f : Addr} {fd : FuncData} (F : Df K mg "_law_ratio" sLawRatio ["top", "bottom"] f fd) (T : Bt mg) : FnOk P w K mg base CX0 1 f fd ["top", "bottom"] spLowP := by
  refine F.F.ok scLawRatio (fun vs H Q E h => ?_) (fun cdv A outer s H vs Q E hr h => ?_)
  · obtain ⟨t, b, rfl, _⟩ := h
    rfl
  · obtain ⟨t, b, rfl, hb, h1, h2, k⟩ := h
    refine ⟨_, pss_cons (ps_par (i := 2) (j := 3) (by rfl) scLawRatio.nd rfl rfl (by decide) rfl rfl (pa_cons (pe_callB call_abs (by rfl) T.abs (by decide +kernel) (pa_cons (pv 0) pa_nil)) (pa_cons (pv 1) pa_nil)) (by rfl))
      (pss_cons (ps_while PassesOwn.never (pt_cmpR op_ne (pv 3) pe_int (nomark _)) (pss_one (ps_par (i := 2) (j := 3) (by rfl) scLawRatio.nd rfl rfl (by decide) rfl rfl (pa_cons (pv 3) (pa_cons (pe_op op_mod (pe_callTy call_int1 (by rfl) T.int (by decide +kernel) (pa_cons (pv 2) pa_nil)) (pv 3)) pa_nil)) (by rfl))))
      (pss_one (ps_ret (pe_tup (pa_cons (pe_op op_fdivX (pv 0) (pv 2)) (pa_cons (pe_op op_fdivX (pv 1) (pv 2)) pa_nil)))))), ?_⟩
    refine ⟨_, rfl, t, rfl, _, rfl, _, _, rfl, ?_⟩
    have ha : (if t < 0 then -t else t) = ((t.natAbs : Nat) : Int) := by split <;> omega
    refine while_by (fun σ H' => H' = H ∧ ∃ a c : Int, σ = [some (.int t), some (.int b), some (.int a), some (.int c)] ∧ 0 ≤ a ∧ 0 ≤ c ∧ Int.gcd a c = Int.gcd t b) (fun σ _ => match σ with | [_, _, _, some (.int c)] => c.natAbs | _ => 0) ?_ ?_ ?_
    · refine ⟨rfl, _, b, rfl, ?_, Int.le_of_lt hb, ?_⟩
      · rw [ha]; omega
      · rw [ha]
        show Nat.gcd ((t.natAbs : Nat) : Int).natAbs b.natAbs = Nat.gcd t.natAbs b.natAbs
        rw [Int.natAbs_natCast]
    · rintro σ H' ⟨rfl, a, c, rfl, a0, c0, e⟩
      refine ⟨_, rfl, rfl, _, rfl, ?_⟩
      by_cases hc : c = 0
      · subst hc
        refine iteNS rfl ?_
        have hg : a = cm t b := by
          have e2 : cm t b = (Int.gcd t b : Int) := if_neg (by omega)
          rw [e2, ← e, Int.gcd_zero_right]
          omega
        subst hg
        have hcn := cm_ne (t := t) (b := b) (by omega)
        have hz : (cm t b).natAbs.log2 < 9000 := by
          rw [cm_abs]
          have : Int.gcd t b ≤ b.natAbs := Nat.le_of_dvd (by omega) (Nat.gcd_dvd_right _ _)
          exact Nat.lt_of_lt_of_le (PySem.Flt.log2_lt_of (by decide) (Nat.lt_of_le_of_lt this h2)) (by decide)
        exact ⟨_, rfl, _, rfl, _, _, rfl, rfl, ⟨hcn, hz⟩, _, rfl, _, rfl, _, _, rfl, rfl, ⟨hcn, hz⟩, (by show 2 ≤ sizeLine; decide), fun p hp => k p hp⟩
      · rw [decide_eq_false (fun h => hc (by injection h))]
        refine iteT ?_
        have c1 : 0 < c := by omega
        refine ⟨_, rfl, _, rfl, .inl ⟨_, rfl, _, rfl, _, _, rfl, rfl, c1, _, _, rfl, ?_⟩⟩
        have m0 := Int.emod_nonneg a (by omega : c ≠ 0)
        have m1 := Int.emod_lt_of_pos a c1
        refine ⟨⟨rfl, c, a % c, rfl, c0, m0, ?_⟩, ?_⟩
        · rw [euclid_step a0 c1]; exact e
        · show (a % c).natAbs < c.natAbs
          omega
    · exact fun σ H' Q Q' i ⟨v, e, sc, kk, ek, q⟩ => ⟨v, e, sc, kk, ek, i _ _ q⟩
theorem scLawPlus : FnScope ["one", "other"] ["one", "other"] (defScope sLawPlus) := ⟨rfl, rfl, rfl, by decide +kernel, rfl, by decide +kernel, by decide +kernel⟩
theorem ok_law_plus {f fl : Addr} {fd fdl : FuncData} (F : Df K mg "_law_plus" sLawPlus ["one", "other"] f fd) (L : Df K mg "_law_ratio" sLawRatio ["top", "bottom"] fl fdl) (T : Bt mg) : FnOk P w K mg base CX0 2 f fd ["one", "other"] (spF2 K (fun _ _ => True) fadd) := by
  have G : FnOk P w K mg base CX0 1 fl fdl ["top", "bottom"] spLowP := ok_law_ratio L T
  refine F.F.ok scLawPlus (fun vs H Q E h => ?_) (fun cdv A outer s H vs Q E hr h => ?_)
  · obtain ⟨p, q, x, y, rfl, _⟩ := h
    rfl
  · obtain ⟨p, q, x, y, rfl, hp, hq, hx, hy, zx, zy, ok, k⟩ := h
    refine ⟨_, pss_one (ps_ret (pe_call G hr (by rfl) L.g L.F.kp L.b .nil pass0 (pa_cons (pe_op op_add (pe_op op_mulW (pe_fst 0) (pe_snd 1)) (pe_op op_mulW (pe_fst 1) (pe_snd 0))) (pa_cons (pe_op op_mulW (pe_snd 0) (pe_snd 1)) pa_nil)))), ?_⟩
    refine ⟨p, x, rfl, hp, q, y, rfl, hq, _, _, rfl, rfl, cmw zx.1 zy.2, q, y, rfl, hq, p, x, rfl, hp, _, _, rfl, rfl, cmw zy.1 zx.2, _, _, rfl, rfl, p, x, rfl, hp, q, y, rfl, hq, _, _, rfl, rfl, cmw zx.2 zy.2, _, _, rfl, dd0 hx hy, lt_up (abs_add_lt (abs_mul_lt zx.1 zy.2) (abs_mul_lt zy.1 zx.2)) (by decide), lt_up (abs_mul_lt zx.2 zy.2) (by decide), k⟩
theorem scLawLess : FnScope ["one", "other"] ["one", "other"] (defScope sLawLess) := ⟨rfl, rfl, rfl, by decide +kernel, rfl, by decide +kernel, by decide +kernel⟩
theorem ok_law_less {f fl : Addr} {fd fdl : FuncData} (F : Df K mg "_law_less" sLawLess ["one", "other"] f fd) (L : Df K mg "_law_ratio" sLawRatio ["top", "bottom"] fl fdl) (T : Bt mg) : FnOk P w K mg base CX0 2 f fd ["one", "other"] (spF2 K (fun _ _ => True) fsub) := by
  have G : FnOk P w K mg base CX0 1 fl fdl ["top", "bottom"] spLowP := ok_law_ratio L T
  refine F.F.ok scLawLess (fun vs H Q E h => ?_) (fun cdv A outer s H vs Q E hr h => ?_)
  · obtain ⟨p, q, x, y, rfl, _⟩ := h
    rfl
  · obtain ⟨p, q, x, y, rfl, hp, hq, hx, hy, zx, zy, ok, k⟩ := h
    refine ⟨_, pss_one (ps_ret (pe_call G hr (by rfl) L.g L.F.kp L.b .nil pass0 (pa_cons (pe_op op_sub (pe_op op_mulW (pe_fst 0) (pe_snd 1)) (pe_op op_mulW (pe_fst 1) (pe_snd 0))) (pa_cons (pe_op op_mulW (pe_snd 0) (pe_snd 1)) pa_nil)))), ?_⟩
    refine ⟨p, x, rfl, hp, q, y, rfl, hq, _, _, rfl, rfl, cmw zx.1 zy.2, q, y, rfl, hq, p, x, rfl, hp, _, _, rfl, rfl, cmw zy.1 zx.2, _, _, rfl, rfl, p, x, rfl, hp, q, y, rfl, hq, _, _, rfl, rfl, cmw zx.2 zy.2, _, _, rfl, dd0 hx hy, lt_up (abs_sub_lt (abs_mul_lt zx.1 zy.2) (abs_mul_lt zy.1 zx.2)) (by decide), lt_up (abs_mul_lt zx.2 zy.2) (by decide), k⟩
theorem scLawTimes : FnScope ["one", "other"] ["one", "other"] (defScope sLawTimes) := ⟨rfl, rfl, rfl, by decide +kernel, rfl, by decide +kernel, by decide +kernel⟩
theorem ok_law_times {f fl : Addr} {fd fdl : FuncData} (F : Df K mg "_law_times" sLawTimes ["one", "other"] f fd) (L : Df K mg "_law_ratio" sLawRatio ["top", "bottom"] fl fdl) (T : Bt mg) : FnOk P w K mg base CX0 2 f fd ["one", "other"] (spF2 K (fun _ _ => True) fmul) := by
  have G : FnOk P w K mg base CX0 1 fl fdl ["top", "bottom"] spLowP := ok_law_ratio L T
  refine F.F.ok scLawTimes (fun vs H Q E h => ?_) (fun cdv A outer s H vs Q E hr h => ?_)
  · obtain ⟨p, q, x, y, rfl, _⟩ := h
    rfl
  · obtain ⟨p, q, x, y, rfl, hp, hq, hx, hy, zx, zy, ok, k⟩ := h
    refine ⟨_, pss_one (ps_ret (pe_call G hr (by rfl) L.g L.F.kp L.b .nil pass0 (pa_cons (pe_op op_mulW (pe_fst 0) (pe_fst 1)) (pa_cons (pe_op op_mulW (pe_snd 0) (pe_snd 1)) pa_nil)))), ?_⟩
    refine ⟨p, x, rfl, hp, q, y, rfl, hq, _, _, rfl, rfl, cmw zx.1 zy.1, p, x, rfl, hp, q, y, rfl, hq, _, _, rfl, rfl, cmw zx.2 zy.2, _, _, rfl, dd0 hx hy, lt_up (abs_mul_lt zx.1 zy.1) (by decide), lt_up (abs_mul_lt zx.2 zy.2) (by decide), k⟩
theorem scLawUnder : FnScope ["one", "other"] ["one", "other"] (defScope sLawUnder) := ⟨rfl, rfl, rfl, by decide +kernel, rfl, by decide +kernel, by decide +kernel⟩
theorem ok_law_under {f : Addr} {fd : FuncData} (F : Df K mg "_law_under" sLawUnder ["one", "other"] f fd) (T : Bt mg) : FnOk P w K mg base CX0 1 f fd ["one", "other"] (spB2 K flt) := by
  refine F.F.ok scLawUnder (fun vs H Q E h => ?_) (fun cdv A outer s H vs Q E hr h => ?_)
  · obtain ⟨p, q, x, y, rfl, _⟩ := h
    rfl
  · obtain ⟨p, q, x, y, rfl, hp, hq, hx, hy, zx, zy, k⟩ := h
    refine ⟨_, pss_one (ps_ret (pe_cmpR op_lt (pe_op op_mulW (pe_fst 0) (pe_snd 1)) (pe_op op_mulW (pe_fst 1) (pe_snd 0)) (nomark _))), ?_⟩
    refine ⟨p, x, rfl, hp, q, y, rfl, hq, _, _, rfl, rfl, cmw zx.1 zy.2, q, y, rfl, hq, p, x, rfl, hp, _, _, rfl, rfl, cmw zy.1 zx.2, _, _, rfl, rfl, k⟩
theorem scLawDrawn : FnScope ["state"] ["state"] (defScope sLawDrawn) := ⟨rfl, rfl, rfl, by decide +kernel, rfl, by decide +kernel, by decide +kernel⟩
theorem ok_law_drawn {f f1 f2 f3 : Addr} {fd fd1 fd2 fd3 : FuncData} (F : Df K mg "_law_drawn" sLawDrawn ["state"] f fd) (F1 : Df K mg "_law_draw" sDraw ["state", "many"] f1 fd1) (F2 : Df K mg "_law_ratio" sLawRatio ["top", "bottom"] f2 fd2) (F3 : Df K mg "_law_mixed" sMixed ["cell", "k"] f3 fd3) (T : Bt mg) :
    FnOk P w K mg base CX0 3 f fd ["state"] (spDrawn K) := by
  have G1 : FnOk P w K mg base CX0 2 f1 fd1 ["state", "many"] spDraw := ok_draw F1 F3 T
  have G2 : FnOk P w K mg base CX0 1 f2 fd2 ["top", "bottom"] spLowP := ok_law_ratio F2 T
  refine F.F.ok scLawDrawn (fun vs H Q E h => ?_) (fun cdv A outer s H vs Q E hr h => ?_)
  · obtain ⟨d, c, l, k, rfl, _⟩ := h
    rfl
  · obtain ⟨d, c, l, n, rfl, S, hn, k⟩ := h
    have hr1 : Room 1 _ := hr.mono (by decide)
    refine ⟨_, pss_cons (ps_if (pt_cmpR op_gt (pe_call G1 hr (by rfl) F1.g F1.F.kp F1.b .nil pass0 (pa_cons (pv 0) (pa_cons pe_int pa_nil))) pe_int (nomark _))
        (pss_one (ps_ret (pe_call G2 hr1 (by rfl) F2.g F2.F.kp F2.b .nil pass0 (pa_cons (pe_op op_sub (pe_call G1 hr (by rfl) F1.g F1.F.kp F1.b .nil pass0 (pa_cons (pv 0) (pa_cons pe_int pa_nil))) pe_int)
          (pa_cons (pe_op op_add pe_int (pe_call G1 hr (by rfl) F1.g F1.F.kp F1.b .nil pass0 (pa_cons (pv 0) (pa_cons pe_int pa_nil)))) pa_nil))))) pss_nil)
      (pss_one (ps_ret (pe_call G2 hr1 (by rfl) F2.g F2.F.kp F2.b .nil pass0 (pa_cons (pe_op op_sub (pe_call G1 hr (by rfl) F1.g F1.F.kp F1.b .nil pass0 (pa_cons (pv 0) (pa_cons (pe_op op_pow pe_int pe_int) pa_nil))) (pe_op op_pow pe_int pe_int))
          (pa_cons (pe_op op_add pe_int (pe_call G1 hr (by rfl) F1.g F1.F.kp F1.b .nil pass0 (pa_cons (pv 0) (pa_cons (pe_op op_pow pe_int pe_int) pa_nil)))) pa_nil))))), ?_⟩
    refine ⟨_, rfl, d, c, l, n, _, rfl, S, by decide, by decide, by omega, fun r H1 r0 r1 S1 fm1 => ?_⟩
    refine ⟨_, _, rfl, rfl, _, rfl, ?_⟩
    by_cases hr0 : 0 < r
    · rw [decide_eq_true hr0]
      refine iteT ?_
      refine ⟨_, rfl, d, c, l, n + 1, _, rfl, S1, by decide, by decide, by omega, fun u H2 u0 u1 S2 fm2 => ?_⟩
      refine ⟨_, _, rfl, rfl, _, rfl, d, c, l, n + 2, _, rfl, S2, by decide, by decide, by omega, fun v H3 v0 v1 S3 fm3 => ?_⟩
      refine ⟨_, _, rfl, rfl, _, _, rfl, by omega, lt_up (n := 4000) (show (u - 12).natAbs < 2 ^ 70 by omega) (by decide), lt_up (n := 4000) (show (1 + v).natAbs < 2 ^ 70 by omega) (by decide), fun p hp => ?_⟩
      refine k p _ (low (u - 12) (1 + v)) (low_fr (by omega)) (low_sz (by omega) (by omega) (by omega)) (S3.same (Same.new hp)) ((fm1.trans (fm2.trans fm3)).same (Same.new hp)) (SqT.of upd_same)
    · rw [decide_eq_false hr0]
      refine iteF ?_
      have e20 : (10 : Int) ^ (20 : Int).toNat = 100000000000000000000 := by decide
      have e19 : (10 : Int) ^ (19 : Int).toNat = 10000000000000000000 := by decide
      refine ⟨_, rfl, 10, 20, rfl, rfl, ⟨by decide, by decide, by decide⟩, d, c, l, n + 1, _, rfl, S1, by decide, by decide, by omega, fun u H2 u0 u1 S2 fm2 => ?_⟩
      refine ⟨10, 19, rfl, rfl, ⟨by decide, by decide, by decide⟩, _, _, rfl, rfl, _, rfl, 10, 20, rfl, rfl, ⟨by decide, by decide, by decide⟩, d, c, l, n + 2, _, rfl, S2, by decide, by decide, by omega, fun v H3 v0 v1 S3 fm3 => ?_⟩
      rw [e20] at u1 v1
      rw [e19]
      refine ⟨_, _, rfl, rfl, _, _, rfl, by omega, lt_up (n := 4000) (show (u - 10000000000000000000).natAbs < 2 ^ 70 by omega) (by decide), lt_up (n := 4000) (show (1 + v).natAbs < 2 ^ 70 by omega) (by decide), fun p hp => ?_⟩
      refine k p _ (low (u - 10000000000000000000) (1 + v)) (low_fr (by omega)) (low_sz (by omega) (by omega) (by omega)) (S3.same (Same.new hp)) ((fm1.trans (fm2.trans fm3)).same (Same.new hp)) (SqT.of upd_same)
end
end CS
set_option Elab.async false
set_option maxRecDepth 100000
set_option maxHeartbeats 8000000
set_option linter.unusedVariables false
namespace CS
open PySem L2
abbrev sPair : Stmt := top 38
abbrev sLaw : Stmt := top 39
def spPair (K : PySem.W.Frag) : Sp := fun vs H Q _ => ∃ p q x y, vs = [.ref p, .ref q] ∧ FT K H p x ∧ FT K H q y ∧ Fr x ∧ Fr y ∧ Sz 70 x ∧ Sz 70 y ∧ ∀ H', Same H H' → Q (.bl true) H'
def spLaw (K : PySem.W.Frag) : Sp := fun vs H Q _ => ∃ (a : Addr) (ns : List Int), vs = [.ref a] ∧ SqL K H a (ns.map V.int) ∧ ns.length ≤ 63 ∧ ∀ H', Q (.bl true) H'
section
variable {P : Program} {w : World} {K : PySem.W.Frag} {mg : Str → Option Value} {base : Heap}
theorem eqv2 (x : Int × Int) : PyData.eqv (.tuple [.int x.1, .int x.2]) (.tuple [.int x.1, .int x.2]) = true := by
  simp [PyData.eqv, PyData.eqvAll]
theorem ne_same {H : Hp} {p q : Addr} {x y : Int × Int} {Q : VK} (hp : FT K H p x) (hq : FT K H q y) (e : x = y) (h : Q (.bl false) H) : rNeD K (.ref p) (.ref q) H Q := by
  subst e
  refine ⟨.tuple [.int x.1, .int x.2], .tuple [.int x.1, .int x.2], .tup hp (.cons (.int _) (.cons (.int _) .nil)), .tup hq (.cons (.int _) (.cons (.int _) .nil)), rfl, rfl, ?_⟩
  rw [eqv2]
  exact h
theorem eq_same {H : Hp} {p q : Addr} {x y : Int × Int} {Q : VK} (hp : FT K H p x) (hq : FT K H q y) (e : x = y) (h : Q (.bl true) H) : rEqD K (.ref p) (.ref q) H Q := by
  subst e
  refine ⟨.tuple [.int x.1, .int x.2], .tuple [.int x.1, .int x.2], .tup hp (.cons (.int _) (.cons (.int _) .nil)), .tup hq (.cons (.int _) (.cons (.int _) .nil)), rfl, rfl, ?_⟩
  rw [eqv2]
  exact h
theorem FT.new {H : Hp} {r : Addr} {x : Int × Int} : FT K (upd H r (.tup [.int x.1, .int x.2])) r x := SqT.of upd_same
theorem abs_if (z : Int) : (if z < 0 then -z else z) = ((z.natAbs : Nat) : Int) := by split <;> omega
def tSgn (K : PySem.W.Frag) (i : Nat) : TE := fun σ H Q => ∃ p x, σ[i]? = some (some (.ref p)) ∧ FT K H p x ∧ Q (.int (if 0 < x.1 then 1 else -1)) H
theorem sgn_imp (i : Nat) : ∀ σ H Q, tSgn K i σ H Q → tIf (tTest (tOp (rI0 fun i j => .bl (decide (j < i))) (tFst K i) (tC (.int 0)))) (tC (.int 1)) (tUn (rU fun i => .int (-i)) (tC (.int 1))) σ H Q := by
  rintro σ H Q ⟨p, x, e, h, q⟩
  refine ⟨p, x, e, h, _, _, rfl, rfl, _, rfl, ?_⟩
  by_cases h0 : 0 < x.1
  · rw [decide_eq_true h0]
    rw [if_pos h0] at q
    exact iteT q
  · rw [decide_eq_false h0]
    rw [if_neg h0] at q
    exact iteF ⟨1, rfl, q⟩
theorem scPair : FnScope ["one", "other", "due"] ["one", "other"] (defScope sPair) := ⟨rfl, rfl, rfl, by decide +kernel, rfl, by decide +kernel, by decide +kernel⟩
theorem ok_pair {f : Addr} {fd : FuncData} (F : Df K mg "_law_pair_right" sPair ["one", "other"] f fd) {fNeedFraction : Addr} {fdNeedFraction : FuncData} (DNeedFraction : Df K mg "need_fraction" sNeedFraction ["thing"] fNeedFraction fdNeedFraction) (GNeedFraction : FnOk P w K mg base CX0 4 fNeedFraction fdNeedFraction ["thing"] (spNeedFr K)) {fPlus : Addr} {fdPlus : FuncData} (DPlus : Df K mg "plus" sPlus ["one", "other"] fPlus fdPlus) (GPlus : FnOk P w K mg base CX0 5 fPlus fdPlus ["one", "other"] (spF2 K (fun _ _ => True) fadd)) {fLess : Addr} {fdLess : FuncData} (DLess : Df K mg "less" sLess ["one", "other"] fLess fdLess) (GLess : FnOk P w K mg base CX0 5 fLess fdLess ["one", "other"] (spF2 K (fun _ _ => True) fsub)) {fTimes : Addr} {fdTimes : FuncData} (DTimes : Df K mg "times" sTimes ["one", "other"] fTimes fdTimes) (GTimes : FnOk P w K mg base CX0 5 fTimes fdTimes ["one", "other"] (spF2 K (fun _ _ => True) fmul)) {fOver : Addr} {fdOver : FuncData} (DOver : Df K mg "over" sOver ["one", "other"] fOver fdOver) (GOver : FnOk P w K mg base CX0 5 fOver fdOver ["one", "other"] (spF2 K (fun _ y => y.1 ≠ 0) fdiv)) {fIsLess : Addr} {fdIsLess : FuncData} (DIsLess : Df K mg "is_less" sIsLess ["one", "other"] fIsLess fdIsLess) (GIsLess : FnOk P w K mg base CX0 5 fIsLess fdIsLess ["one", "other"] (spB2 K flt)) {fLawPlus : Addr} {fdLawPlus : FuncData} (DLawPlus : Df K mg "_law_plus" sLawPlus ["one", "other"] fLawPlus fdLawPlus) (GLawPlus : FnOk P w K mg base CX0 2 fLawPlus fdLawPlus ["one", "other"] (spF2 K (fun _ _ => True) fadd)) {fLawLess : Addr} {fdLawLess : FuncData} (DLawLess : Df K mg "_law_less" sLawLess ["one", "other"] fLawLess fdLawLess) (GLawLess : FnOk P w K mg base CX0 2 fLawLess fdLawLess ["one", "other"] (spF2 K (fun _ _ => True) fsub)) {fLawTimes : Addr} {fdLawTimes : FuncData} (DLawTimes : Df K mg "_law_times" sLawTimes ["one", "other"] fLawTimes fdLawTimes) (GLawTimes : FnOk P w K mg base CX0 2 fLawTimes fdLawTimes ["one", "other"] (spF2 K (fun _ _ => True) fmul)) {fLawUnder : Addr} {fdLawUnder : FuncData} (DLawUnder : Df K mg "_law_under" sLawUnder ["one", "other"] fLawUnder fdLawUnder) (GLawUnder : FnOk P w K mg base CX0 1 fLawUnder fdLawUnder ["one", "other"] (spB2 K flt)) {fLawRatio : Addr} {fdLawRatio : FuncData} (DLawRatio : Df K mg "_law_ratio" sLawRatio ["top", "bottom"] fLawRatio fdLawRatio) (GLawRatio : FnOk P w K mg base CX0 1 fLawRatio fdLawRatio ["top", "bottom"] (spLowP)) (T : Bt mg) : FnOk P w K mg base CX0 6 f fd ["one", "other"] (spPair K) := by
  refine F.F.ok scPair (fun vs H Q E h => ?_) (fun cdv A outer s H vs Q E hr h => ?_)
  · obtain ⟨p, q, x, y, rfl, _⟩ := h
    rfl
  · obtain ⟨p, q, x, y, rfl, hp, hq, hx, hy, zx, zy, k⟩ := h
    refine ⟨_, pss_cons (ps_if (PW.pt (pw_or (pt_cmpR (op_neD hr.units) (pe_call GNeedFraction (hr.mono (by decide)) (by rfl) DNeedFraction.g DNeedFraction.F.kp DNeedFraction.b .nil pass0 (pa_cons (pv 0) pa_nil)) (pv 0) (nomark _)) (pw_or (pt_cmpR (op_neD hr.units) (pe_call GPlus hr (by rfl) DPlus.g DPlus.F.kp DPlus.b .nil pass0 (pa_cons (pv 0) (pa_cons (pv 1) pa_nil))) (pe_call GLawPlus (hr.mono (by decide)) (by rfl) DLawPlus.g DLawPlus.F.kp DLawPlus.b .nil pass0 (pa_cons (pv 0) (pa_cons (pv 1) pa_nil))) (nomark _)) (pw_or1 (pt_cmpR (op_neD hr.units) (pe_call GPlus hr (by rfl) DPlus.g DPlus.F.kp DPlus.b .nil pass0 (pa_cons (pv 0) (pa_cons (pv 1) pa_nil))) (pe_call GPlus hr (by rfl) DPlus.g DPlus.F.kp DPlus.b .nil pass0 (pa_cons (pv 1) (pa_cons (pv 0) pa_nil))) (nomark _)))))) (pss_one (ps_ret pe_bl)) pss_nil)
      (pss_cons (ps_if (PW.pt (pw_or (pt_cmpR (op_neD hr.units) (pe_call GLess hr (by rfl) DLess.g DLess.F.kp DLess.b .nil pass0 (pa_cons (pv 0) (pa_cons (pv 1) pa_nil))) (pe_call GLawLess (hr.mono (by decide)) (by rfl) DLawLess.g DLawLess.F.kp DLawLess.b .nil pass0 (pa_cons (pv 0) (pa_cons (pv 1) pa_nil))) (nomark _)) (pw_or1 (pt_cmpR (op_neD hr.units) (pe_call GLess hr (by rfl) DLess.g DLess.F.kp DLess.b .nil pass0 (pa_cons (pe_call GPlus hr (by rfl) DPlus.g DPlus.F.kp DPlus.b .nil pass0 (pa_cons (pv 0) (pa_cons (pv 1) pa_nil))) (pa_cons (pv 1) pa_nil))) (pv 0) (nomark _))))) (pss_one (ps_ret pe_bl)) pss_nil)
      (pss_cons (ps_if (PW.pt (pw_or (pt_cmpR (op_neD hr.units) (pe_call GTimes hr (by rfl) DTimes.g DTimes.F.kp DTimes.b .nil pass0 (pa_cons (pv 0) (pa_cons (pv 1) pa_nil))) (pe_call GLawTimes (hr.mono (by decide)) (by rfl) DLawTimes.g DLawTimes.F.kp DLawTimes.b .nil pass0 (pa_cons (pv 0) (pa_cons (pv 1) pa_nil))) (nomark _)) (pw_or1 (pt_cmpR op_ne (pe_call GIsLess hr (by rfl) DIsLess.g DIsLess.F.kp DIsLess.b .nil pass0 (pa_cons (pv 0) (pa_cons (pv 1) pa_nil))) (pe_call GLawUnder (hr.mono (by decide)) (by rfl) DLawUnder.g DLawUnder.F.kp DLawUnder.b .nil pass0 (pa_cons (pv 0) (pa_cons (pv 1) pa_nil))) (nomark _))))) (pss_one (ps_ret pe_bl)) pss_nil)
      (Evl.pss_cut (ps_if (pt_cmpR op_ne (pe_fst 1) (pe_int) (nomark _)) (pss_cons (ps_set (i := 2) scPair.nd rfl (Or.inl rfl) (pe_call GLawRatio (hr.mono (by decide)) (by rfl) DLawRatio.g DLawRatio.F.kp DLawRatio.b .nil pass0 (pa_cons (pe_op op_mulW (pe_op op_mulW (pe_fst 0) (pe_snd 1)) (PE.imp (t1 := tSgn K 1) (pe_ifExp (pt_cmpR op_gt (pe_fst 1) pe_int (nomark _)) pe_int (pe_un un_neg pe_int)) (sgn_imp 1))) (pa_cons (pe_op op_mulW (pe_snd 0) (pe_callB call_abs (by rfl) T.abs (by decide +kernel) (pa_cons (pe_fst 1) pa_nil))) pa_nil)))) (pss_one (ps_if (PW.pt (pw_or (pt_cmpR (op_neD hr.units) (pe_call GOver hr (by rfl) DOver.g DOver.F.kp DOver.b .nil pass0 (pa_cons (pv 0) (pa_cons (pv 1) pa_nil))) (pv 2) (nomark _)) (pw_or (pt_cmpR (op_neD hr.units) (pe_call GOver hr (by rfl) DOver.g DOver.F.kp DOver.b .nil pass0 (pa_cons (pv 0) (pa_cons (pv 1) pa_nil))) (pv 2) (nomark _)) (pw_or1 (pt_cmpR (op_neD hr.units) (pe_call GTimes hr (by rfl) DTimes.g DTimes.F.kp DTimes.b .nil pass0 (pa_cons (pe_call GOver hr (by rfl) DOver.g DOver.F.kp DOver.b .nil pass0 (pa_cons (pv 0) (pa_cons (pv 1) pa_nil))) (pa_cons (pv 1) pa_nil))) (pv 0) (nomark _)))))) (pss_one (ps_ret pe_bl)) pss_nil))) pss_nil)
      (pss_one (ps_ret (pe_and (pe_cmpR op_eq (pe_call GIsLess hr (by rfl) DIsLess.g DIsLess.F.kp DIsLess.b .nil pass0 (pa_cons (pv 0) (pa_cons (pv 1) pa_nil))) (pe_call GIsLess hr (by rfl) DIsLess.g DIsLess.F.kp DIsLess.b .nil pass0 (pa_cons (pe_call GLess hr (by rfl) DLess.g DLess.F.kp DLess.b .nil pass0 (pa_cons (pv 0) (pa_cons (pv 1) pa_nil))) (pa_cons (pe_tup (pa_cons pe_int (pa_cons pe_int pa_nil))) pa_nil))) (nomark _)) (pe_one (pe_cmpR (op_eqD hr.units) (pe_call GPlus hr (by rfl) DPlus.g DPlus.F.kp DPlus.b .nil pass0 (pa_cons (pv 0) (pa_cons (pe_tup (pa_cons pe_int (pa_cons pe_int pa_nil))) pa_nil))) (pv 0) (nomark _))))))))), ?_⟩
    have up70 : ∀ {z : Int × Int}, Sz 70 z → Sz 1900 z := fun h => h.up (by decide)
    have up2 : ∀ {z : Int × Int}, Sz (70 + 70 + 1) z → Sz 1900 z := fun h => h.up (by decide)
    have up3 : ∀ {z : Int × Int}, Sz (70 + 70) z → Sz 1900 z := fun h => h.up (by decide)
    -- need_fraction(one) != one
    refine ⟨_, rfl, p, x, rfl, hp, hx, _, rfl, ne_same hp hp rfl ⟨_, rfl, iteF ?_⟩⟩
    -- plus, _law_plus
    refine ⟨_, rfl, _, rfl, p, q, x, y, rfl, hp, hq, hx, hy, up70 zx, up70 zy, trivial, fun r1 n1 => ?_⟩
    have k1 := Same.new (o := .tup [.int (fadd x y).1, .int (fadd x y).2]) n1
    refine ⟨_, rfl, _, rfl, p, q, x, y, rfl, k1.tup hp, k1.tup hq, hx, hy, up70 zx, up70 zy, trivial, fun r2 n2 => ?_⟩
    have k2 := Same.new (o := .tup [.int (fadd x y).1, .int (fadd x y).2]) n2
    refine ne_same (k2.tup FT.new) FT.new rfl ⟨_, rfl, iteF ?_⟩
    replace k1 := k1.trans k2
    generalize upd (upd H r1 (.tup [.int (fadd x y).1, .int (fadd x y).2])) r2 (.tup [.int (fadd x y).1, .int (fadd x y).2]) = H1 at *
    -- plus, plus
    refine ⟨_, rfl, _, rfl, p, q, x, y, rfl, k1.tup hp, k1.tup hq, hx, hy, up70 zx, up70 zy, trivial, fun r3 n3 => ?_⟩
    have k3 := Same.new (o := .tup [.int (fadd x y).1, .int (fadd x y).2]) n3
    refine ⟨_, rfl, _, rfl, q, p, y, x, rfl, k3.tup (k1.tup hq), k3.tup (k1.tup hp), hy, hx, up70 zy, up70 zx, trivial, fun r4 n4 => ?_⟩
    have k4 := Same.new (o := .tup [.int (fadd y x).1, .int (fadd y x).2]) n4
    refine ne_same (k4.tup FT.new) FT.new (fadd_comm x y) ⟨_, rfl, iteF ?_⟩
    have kA := (k1.trans k3).trans k4
    generalize upd (upd H1 r3 (.tup [.int (fadd x y).1, .int (fadd x y).2])) r4 (.tup [.int (fadd y x).1, .int (fadd y x).2]) = H2 at *
    clear k1 k2 k3 k4 n1 n2 n3 n4
    -- less, _law_less
    refine ⟨_, rfl, _, rfl, p, q, x, y, rfl, kA.tup hp, kA.tup hq, hx, hy, up70 zx, up70 zy, trivial, fun r1 n1 => ?_⟩
    have k1 := Same.new (o := .tup [.int (fsub x y).1, .int (fsub x y).2]) n1
    refine ⟨_, rfl, _, rfl, p, q, x, y, rfl, k1.tup (kA.tup hp), k1.tup (kA.tup hq), hx, hy, up70 zx, up70 zy, trivial, fun r2 n2 => ?_⟩
    have k2 := Same.new (o := .tup [.int (fsub x y).1, .int (fsub x y).2]) n2
    refine ne_same (k2.tup FT.new) FT.new rfl ⟨_, rfl, iteF ?_⟩
    have kB := (kA.trans k1).trans k2
    generalize upd (upd H2 r1 (.tup [.int (fsub x y).1, .int (fsub x y).2])) r2 (.tup [.int (fsub x y).1, .int (fsub x y).2]) = H3 at *
    clear k1 k2 n1 n2
    -- less(plus), one
    refine ⟨_, rfl, _, rfl, p, q, x, y, rfl, kB.tup hp, kB.tup hq, hx, hy, up70 zx, up70 zy, trivial, fun r1 n1 => ?_⟩
    have k1 := Same.new (o := .tup [.int (fadd x y).1, .int (fadd x y).2]) n1
    refine ⟨_, rfl, r1, q, fadd x y, y, rfl, FT.new, k1.tup (kB.tup hq), fadd_fr hx hy, hy, up2 (fadd_sz hx hy zx zy), up70 zy, trivial, fun r2 n2 => ?_⟩
    have k2 := Same.new (o := .tup [.int (fsub (fadd x y) y).1, .int (fsub (fadd x y) y).2]) n2
    refine ⟨_, rfl, ne_same FT.new (k2.tup (k1.tup (kB.tup hp))) (fsub_fadd hx hy) ⟨_, rfl, iteF ?_⟩⟩
    have kC := (kB.trans k1).trans k2
    generalize upd (upd H3 r1 (.tup [.int (fadd x y).1, .int (fadd x y).2])) r2 (.tup [.int (fsub (fadd x y) y).1, .int (fsub (fadd x y) y).2]) = H4 at *
    clear k1 k2 n1 n2
    -- times, _law_times
    refine ⟨_, rfl, _, rfl, p, q, x, y, rfl, kC.tup hp, kC.tup hq, hx, hy, up70 zx, up70 zy, trivial, fun r1 n1 => ?_⟩
    have k1 := Same.new (o := .tup [.int (fmul x y).1, .int (fmul x y).2]) n1
    refine ⟨_, rfl, _, rfl, p, q, x, y, rfl, k1.tup (kC.tup hp), k1.tup (kC.tup hq), hx, hy, up70 zx, up70 zy, trivial, fun r2 n2 => ?_⟩
    have k2 := Same.new (o := .tup [.int (fmul x y).1, .int (fmul x y).2]) n2
    refine ne_same (k2.tup FT.new) FT.new rfl ⟨_, rfl, iteF ?_⟩
    have kD := (kC.trans k1).trans k2
    generalize upd (upd H4 r1 (.tup [.int (fmul x y).1, .int (fmul x y).2])) r2 (.tup [.int (fmul x y).1, .int (fmul x y).2]) = H5 at *
    clear k1 k2 n1 n2 kA kB kC
    -- is_less, _law_under
    refine ⟨_, rfl, _, rfl, p, q, x, y, rfl, kD.tup hp, kD.tup hq, hx, hy, up70 zx, up70 zy, ?_⟩
    refine ⟨_, rfl, _, rfl, p, q, x, y, rfl, kD.tup hp, kD.tup hq, hx, hy, up70 zx, up70 zy, rfl, _, rfl, iteNS rfl ?_⟩
    -- other[0] != 0
    refine ⟨fun σ' H' => (∃ v, σ' = [some (.ref p), some (.ref q), v]) ∧ Same H H', ?_, ?_⟩
    · refine ⟨q, y, rfl, kD.tup hq, rfl, _, rfl, ?_⟩
      by_cases h0 : y.1 = 0
      · rw [h0]
        exact iteNS rfl ⟨⟨none, rfl⟩, kD⟩
      · rw [decide_eq_false (fun h => h0 (by injection h))]
        refine iteT ?_
        have s1 : ((if 0 < y.1 then 1 else -1 : Int)).natAbs < 2 ^ 1 := by split <;> decide
        have s2 : (x.1 * y.2).natAbs < 2 ^ (70 + 70) := abs_mul_lt zx.1 zy.2
        have s3 : ((y.1.natAbs : Nat) : Int).natAbs < 2 ^ 70 := by rw [Int.natAbs_natCast]; exact zy.1
        have s4 : 0 < x.2 * ((y.1.natAbs : Nat) : Int) := Int.mul_pos hx.pos (by omega)
        have s5 := abs_mul_lt s2 s1
        have s6 := abs_mul_lt zx.2 s3
        refine ⟨p, x, rfl, kD.tup hp, q, y, rfl, kD.tup hq, _, _, rfl, rfl, cmw (up70 zx).1 (up70 zy).2, q, y, rfl, kD.tup hq, _, _, rfl, rfl, cmw (lt_up s2 (by decide)) (lt_up s1 (by decide)), ?_⟩
        refine ⟨p, x, rfl, kD.tup hp, q, y, rfl, kD.tup hq, y.1, rfl, ?_⟩
        simp only [abs_if]
        refine ⟨_, _, rfl, rfl, cmw (up70 zx).2 (lt_up s3 (by decide)), _, _, rfl, s4, lt_up s5 (by decide), lt_up s6 (by decide), ?_⟩
        rw [due_eq h0 hx]
        intro u nu
        have kE := kD.trans (Same.new (o := .tup [.int (fdiv x y).1, .int (fdiv x y).2]) nu)
        have hU : FT K (upd H5 u (.tup [.int (fdiv x y).1, .int (fdiv x y).2])) u (fdiv x y) := FT.new
        generalize upd H5 u (.tup [.int (fdiv x y).1, .int (fdiv x y).2]) = H6 at *
        -- over, due, twice
        refine ⟨_, rfl, _, rfl, p, q, x, y, rfl, kE.tup hp, kE.tup hq, hx, hy, up70 zx, up70 zy, h0, fun r1 n1 => ?_⟩
        have k1 := Same.new (o := .tup [.int (fdiv x y).1, .int (fdiv x y).2]) n1
        refine ⟨_, rfl, ne_same FT.new (k1.tup hU) rfl ⟨_, rfl, iteF ?_⟩⟩
        refine ⟨_, rfl, _, rfl, p, q, x, y, rfl, k1.tup (kE.tup hp), k1.tup (kE.tup hq), hx, hy, up70 zx, up70 zy, h0, fun r2 n2 => ?_⟩
        have k2 := Same.new (o := .tup [.int (fdiv x y).1, .int (fdiv x y).2]) n2
        refine ⟨_, rfl, ne_same FT.new (k2.tup (k1.tup hU)) rfl ⟨_, rfl, iteF ?_⟩⟩
        have kF := (kE.trans k1).trans k2
        generalize upd (upd H6 r1 (.tup [.int (fdiv x y).1, .int (fdiv x y).2])) r2 (.tup [.int (fdiv x y).1, .int (fdiv x y).2]) = H7 at *
        -- times(over), one
        refine ⟨_, rfl, _, rfl, p, q, x, y, rfl, kF.tup hp, kF.tup hq, hx, hy, up70 zx, up70 zy, h0, fun r3 n3 => ?_⟩
        have k3 := Same.new (o := .tup [.int (fdiv x y).1, .int (fdiv x y).2]) n3
        refine ⟨_, rfl, r3, q, fdiv x y, y, rfl, FT.new, k3.tup (kF.tup hq), fdiv_fr hx h0, hy, up3 (fdiv_sz hx h0 zx zy), up70 zy, trivial, fun r4 n4 => ?_⟩
        have k4 := Same.new (o := .tup [.int (fmul (fdiv x y) y).1, .int (fmul (fdiv x y) y).2]) n4
        refine ⟨_, rfl, ne_same FT.new (k4.tup (k3.tup (kF.tup hp))) (fmul_fdiv hx hy h0) ⟨_, rfl, iteF ?_⟩⟩
        exact ⟨⟨_, rfl⟩, (kF.trans k3).trans k4⟩
    · rintro σ' H6 ⟨⟨v, rfl⟩, kE⟩
      refine ⟨_, rfl, _, rfl, p, q, x, y, rfl, kE.tup hp, kE.tup hq, hx, hy, up70 zx, up70 zy, ?_⟩
      refine ⟨_, rfl, _, rfl, p, q, x, y, rfl, kE.tup hp, kE.tup hq, hx, hy, up70 zx, up70 zy, trivial, fun r1 n1 => ?_⟩
      have k1 := Same.new (o := .tup [.int (fsub x y).1, .int (fsub x y).2]) n1
      refine ⟨(by show 2 ≤ sizeLine; decide), fun r2 n2 => ?_⟩
      have k2 := Same.new (o := .tup [.int 0, .int 1]) n2
      have z01 : Sz 1900 ((0, 1) : Int × Int) := ⟨Nat.two_pow_pos _, Nat.one_lt_two_pow (by decide)⟩
      have f01 : Fr ((0, 1) : Int × Int) := by decide
      refine ⟨r1, r2, fsub x y, (0, 1), rfl, k2.tup FT.new, FT.new (x := (0, 1)), fsub_fr hx hy, f01, up2 (fsub_sz hx hy zx zy), z01, ?_⟩
      rw [← flt_sub hx hy]
      refine ⟨rfl, _, rfl, ?_⟩
      rw [decide_eq_true rfl]
      refine iteT ?_
      have kF := (kE.trans k1).trans k2
      generalize upd (upd H6 r1 (.tup [.int (fsub x y).1, .int (fsub x y).2])) r2 (.tup [.int 0, .int 1]) = H7 at *
      refine ⟨_, rfl, (by show 2 ≤ sizeLine; decide), fun r3 n3 => ?_⟩
      have k3 := Same.new (o := .tup [.int 0, .int 1]) n3
      refine ⟨p, r3, x, (0, 1), rfl, k3.tup (kF.tup hp), FT.new (x := (0, 1)), hx, f01, up70 zx, z01, trivial, fun r4 n4 => ?_⟩
      have k4 := Same.new (o := .tup [.int (fadd x (0, 1)).1, .int (fadd x (0, 1)).2]) n4
      refine ⟨_, rfl, eq_same FT.new (k4.tup (k3.tup (kF.tup hp))) (fadd_zero hx) ?_⟩
      exact k _ ((kF.trans k3).trans k4)
end
end CS
set_option Elab.async false
set_option maxRecDepth 100000
set_option maxHeartbeats 8000000
set_option linter.unusedVariables false
namespace CS
open PySem L2
section
variable {P : Program} {w : World} {K : PySem.W.Frag} {mg : Str → Option Value} {base : Heap}
theorem scLaw : FnScope ["script", "state", "turn", "one", "other", "top", "bottom"] ["script"] (defScope sLaw) := ⟨rfl, rfl, rfl, by decide +kernel, rfl, by decide +kernel, by decide +kernel⟩
theorem ok_law {f : Addr} {fd : FuncData} (F : Fun K "law" "law" sLaw f fd) {fBegin : Addr} {fdBegin : FuncData} (DBegin : Df K mg "_law_begin" sBegin ["script"] fBegin fdBegin) (GBegin : FnOk P w K mg base CX0 1 fBegin fdBegin ["script"] (spBegin K)) {fLawDrawn : Addr} {fdLawDrawn : FuncData} (DLawDrawn : Df K mg "_law_drawn" sLawDrawn ["state"] fLawDrawn fdLawDrawn) (GLawDrawn : FnOk P w K mg base CX0 3 fLawDrawn fdLawDrawn ["state"] (spDrawn K)) {fPair : Addr} {fdPair : FuncData} (DPair : Df K mg "_law_pair_right" sPair ["one", "other"] fPair fdPair) (GPair : FnOk P w K mg base CX0 6 fPair fdPair ["one", "other"] (spPair K)) {fDraw : Addr} {fdDraw : FuncData} (DDraw : Df K mg "_law_draw" sDraw ["state", "many"] fDraw fdDraw) (GDraw : FnOk P w K mg base CX0 2 fDraw fdDraw ["state", "many"] (spDraw)) {fRatio : Addr} {fdRatio : FuncData} (DRatio : Df K mg "ratio" sRatio ["top", "bottom"] fRatio fdRatio) (GRatio : FnOk P w K mg base CX0 2 fRatio fdRatio ["top", "bottom"] (spLow)) {fLawRatio : Addr} {fdLawRatio : FuncData} (DLawRatio : Df K mg "_law_ratio" sLawRatio ["top", "bottom"] fLawRatio fdLawRatio) (GLawRatio : FnOk P w K mg base CX0 1 fLawRatio fdLawRatio ["top", "bottom"] (spLowP)) {fOver : Addr} {fdOver : FuncData} (DOver : Df K mg "over" sOver ["one", "other"] fOver fdOver) (GOver : FnOk P w K mg base CX0 5 fOver fdOver ["one", "other"] (spF2 K (fun _ y => y.1 ≠ 0) fdiv)) {fIsLess : Addr} {fdIsLess : FuncData} (DIsLess : Df K mg "is_less" sIsLess ["one", "other"] fIsLess fdIsLess) (GIsLess : FnOk P w K mg base CX0 5 fIsLess fdIsLess ["one", "other"] (spB2 K flt)) (T : Bt mg) : FnOk P w K mg base CX0 7 f fd ["script"] (spLaw K) := by
  refine F.ok scLaw (fun vs H Q E h => ?_) (fun cdv A outer s H vs Q E hr h => ?_)
  · obtain ⟨a, ns, rfl, _⟩ := h
    rfl
  · obtain ⟨a, ns, rfl, hS, hlen, k⟩ := h
    refine ⟨_, pss_cons (ps_set (i := 1) scLaw.nd rfl (Or.inl rfl) (pe_call GBegin (hr.mono (by decide)) (by rfl) DBegin.g DBegin.F.kp DBegin.b .nil pass0 (pa_cons (pv 0) pa_nil)))
      (pss_cons (ps_for PassesOwn.never rfl (pi_range1 rfl T.range (pa_cons pe_int pa_nil)) (pg_name (i := 2) scLaw.nd rfl (Or.inl rfl)) (pss_cons (ps_par (i := 3) (j := 4) (by rfl) scLaw.nd rfl rfl (by decide) rfl rfl (pa_cons (pe_call GLawDrawn (hr.mono (by decide)) (by rfl) DLawDrawn.g DLawDrawn.F.kp DLawDrawn.b .nil pass0 (pa_cons (pv 1) pa_nil)) (pa_cons (pe_call GLawDrawn (hr.mono (by decide)) (by rfl) DLawDrawn.g DLawDrawn.F.kp DLawDrawn.b .nil pass0 (pa_cons (pv 1) pa_nil)) pa_nil)) (by rfl)) (pss_cons (ps_if (pt_not (pt_val (pe_call GPair hr (by rfl) DPair.g DPair.F.kp DPair.b .nil pass0 (pa_cons (pv 3) (pa_cons (pv 4) pa_nil))))) (pss_one (ps_ret pe_bl)) pss_nil) (pss_cons (ps_par (i := 5) (j := 6) (by rfl) scLaw.nd rfl rfl (by decide) rfl rfl (pa_cons (pe_op op_sub (pe_call GDraw (hr.mono (by decide)) (by rfl) DDraw.g DDraw.F.kp DDraw.b .nil pass0 (pa_cons (pv 1) (pa_cons (pe_int) pa_nil))) pe_int) (pa_cons (pe_op op_add pe_int (pe_call GDraw (hr.mono (by decide)) (by rfl) DDraw.g DDraw.F.kp DDraw.b .nil pass0 (pa_cons (pv 1) (pa_cons (pe_int) pa_nil)))) pa_nil)) (by rfl)) (pss_one (ps_if (PW.pt (pw_or (pt_cmpR (op_neD hr.units) (pe_call GRatio (hr.mono (by decide)) (by rfl) DRatio.g DRatio.F.kp DRatio.b .nil pass0 (pa_cons (pv 5) (pa_cons (pv 6) pa_nil))) (pe_call GLawRatio (hr.mono (by decide)) (by rfl) DLawRatio.g DLawRatio.F.kp DLawRatio.b .nil pass0 (pa_cons (pv 5) (pa_cons (pv 6) pa_nil))) (nomark _)) (pw_or1 (pt_cmpR (op_neD hr.units) (pe_call GRatio (hr.mono (by decide)) (by rfl) DRatio.g DRatio.F.kp DRatio.b .nil pass0 (pa_cons (pe_op op_sub pe_int (pv 5)) (pa_cons (pe_op op_sub pe_int (pv 6)) pa_nil))) (pe_call GLawRatio (hr.mono (by decide)) (by rfl) DLawRatio.g DLawRatio.F.kp DLawRatio.b .nil pass0 (pa_cons (pv 5) (pa_cons (pv 6) pa_nil))) (nomark _))))) (pss_one (ps_ret pe_bl)) pss_nil))))))
      (pss_cons (ps_if (PW.pt (pw_or (pt_cmpR (op_neD hr.units) (pe_call GRatio (hr.mono (by decide)) (by rfl) DRatio.g DRatio.F.kp DRatio.b .nil pass0 (pa_cons (pe_int) (pa_cons ((pe_un un_neg pe_int)) pa_nil))) (pe_tup (pa_cons pe_int (pa_cons pe_int pa_nil))) (nomark _)) (pw_or (pt_cmpR (op_neD hr.units) (pe_call GRatio (hr.mono (by decide)) (by rfl) DRatio.g DRatio.F.kp DRatio.b .nil pass0 (pa_cons (pe_int) (pa_cons ((pe_un un_neg pe_int)) pa_nil))) (pe_tup (pa_cons (pe_un un_neg pe_int) (pa_cons pe_int pa_nil))) (nomark _)) (pw_or1 (pt_cmpR (op_neD hr.units) (pe_call GOver (hr.mono (by decide)) (by rfl) DOver.g DOver.F.kp DOver.b .nil pass0 (pa_cons (pe_tup (pa_cons pe_int (pa_cons pe_int pa_nil))) (pa_cons (pe_tup (pa_cons (pe_un un_neg pe_int) (pa_cons pe_int pa_nil))) pa_nil))) (pe_tup (pa_cons (pe_un un_neg pe_int) (pa_cons pe_int pa_nil))) (nomark _)))))) (pss_one (ps_ret pe_bl)) pss_nil)
      (pss_one (ps_ret (pe_and (pe_cmpR op_isBl (pe_call GIsLess (hr.mono (by decide)) (by rfl) DIsLess.g DIsLess.F.kp DIsLess.b .nil pass0 (pa_cons (pe_tup (pa_cons pe_int (pa_cons pe_int pa_nil))) (pa_cons (pe_tup (pa_cons pe_int (pa_cons pe_int pa_nil))) pa_nil))) pe_bl (nomark _)) (pe_one (pe_cmpR op_isBl (pe_call GIsLess (hr.mono (by decide)) (by rfl) DIsLess.g DIsLess.F.kp DIsLess.b .nil pass0 (pa_cons (pe_tup (pa_cons pe_int (pa_cons pe_int pa_nil))) (pa_cons (pe_tup (pa_cons pe_int (pa_cons pe_int pa_nil))) pa_nil))) pe_bl (nomark _)))))))), ?_⟩
    refine ⟨_, rfl, a, ns, rfl, hS, hlen, fun d c l H1 nd s1 S0 => ?_⟩
    refine ⟨12, rfl, by decide, by decide, for_range (n := 12) (fun i σ H' => (∃ v2 v3 v4 v5 v6, σ = [some (.ref a), some (.ref d), v2, v3, v4, v5, v6]) ∧ StAt H' d c l (8 * i)) ⟨⟨none, none, none, none, none, rfl⟩, S0⟩ ?_ ?_⟩
    · rintro i σ H2 hi ⟨⟨v2, v3, v4, v5, v6, rfl⟩, S⟩
      refine ⟨_, rfl, d, c, l, 8 * i, rfl, S, by omega, fun p H3 x hx zx S3 fm3 hp => ?_⟩
      refine ⟨_, rfl, d, c, l, 8 * i + 3, rfl, S3, by omega, fun q H4 y hy zy S4 fm4 hq => ?_⟩
      have hp4 := fm4.tup S3 hp
      refine ⟨_, _, rfl, ?_⟩
      refine ⟨_, rfl, _, rfl, p, q, x, y, rfl, hp4, hq, hx, hy, zx, zy, fun H5 s5 => ⟨_, rfl, iteF ?_⟩⟩
      have S5 := S4.same s5
      refine ⟨_, rfl, d, c, l, _, _, rfl, S5, by decide, by decide, by omega, fun u H6 u0 u1 S6 fm6 => ?_⟩
      refine ⟨_, _, rfl, rfl, _, rfl, d, c, l, _, _, rfl, S6, by decide, by decide, by omega, fun v H7 v0 v1 S7 fm7 => ?_⟩
      refine ⟨_, _, rfl, rfl, _, _, rfl, ?_⟩
      have z1 : (u - 100).natAbs < 2 ^ 4000 := lt_up (show (u - 100).natAbs < 2 ^ 70 by omega) (by decide)
      have z2 : (1 + v).natAbs < 2 ^ 4000 := lt_up (show (1 + v).natAbs < 2 ^ 70 by omega) (by decide)
      have z3 : (0 - (u - 100)).natAbs < 2 ^ 4000 := lt_up (show (0 - (u - 100)).natAbs < 2 ^ 70 by omega) (by decide)
      have z4 : (0 - (1 + v)).natAbs < 2 ^ 4000 := lt_up (show (0 - (1 + v)).natAbs < 2 ^ 70 by omega) (by decide)
      have b0 : 0 < 1 + v := by omega
      have e0 : low (0 - (u - 100)) (0 - (1 + v)) = low (u - 100) (1 + v) := by
        rw [Int.zero_sub, Int.zero_sub]
        exact low_neg (by omega)
      have b1 : 0 - (1 + v) ≠ 0 := by omega
      refine ⟨_, rfl, _, rfl, (u - 100), (1 + v), rfl, by omega, z1, z2, fun r1 n1 => ?_⟩
      have k1 := Same.new (o := .tup [.int (low (u - 100) (1 + v)).1, .int (low (u - 100) (1 + v)).2]) n1
      refine ⟨_, rfl, _, rfl, (u - 100), (1 + v), rfl, b0, z1, z2, fun r2 n2 => ?_⟩
      have k2 := Same.new (o := .tup [.int (low (u - 100) (1 + v)).1, .int (low (u - 100) (1 + v)).2]) n2
      refine ne_same (k2.tup FT.new) FT.new rfl ⟨_, rfl, iteF ?_⟩
      refine ⟨_, rfl, _, _, rfl, rfl, _, rfl, _, _, rfl, rfl, _, _, rfl, b1, z3, z4, fun r3 n3 => ?_⟩
      have k3 := Same.new (o := .tup [.int (low (0 - (u - 100)) (0 - (1 + v))).1, .int (low (0 - (u - 100)) (0 - (1 + v))).2]) n3
      refine ⟨_, rfl, _, rfl, (u - 100), (1 + v), rfl, b0, z1, z2, fun r4 n4 => ?_⟩
      have k4 := Same.new (o := .tup [.int (low (u - 100) (1 + v)).1, .int (low (u - 100) (1 + v)).2]) n4
      refine ne_same (k4.tup FT.new) FT.new e0 ⟨_, rfl, iteF ?_⟩
      have S8 := (((S7.same k1).same k2).same k3).same k4
      exact ⟨⟨_, _, _, _, _, rfl⟩, S8⟩
    · rintro σ H2 ⟨⟨v2, v3, v4, v5, v6, rfl⟩, S⟩
      have sm : ∀ z : Int, z.natAbs < 2 ^ 70 → z.natAbs < 2 ^ 4000 := fun z h => lt_up h (by decide)
      have sz : ∀ x : Int × Int, Sz 70 x → Sz 1900 x := fun x h => h.up (by decide)
      -- ratio(0, -7), ratio(6, -4)
      refine ⟨7, rfl, _, _, rfl, by decide, sm _ (by decide), sm _ (by decide), fun r1 n1 => ?_⟩
      refine ⟨(by show 2 ≤ sizeLine; decide), fun r2 n2 => ?_⟩
      refine ne_same (x := low 0 (-7)) (y := (0, 1)) ((Same.new n2).tup FT.new) (FT.new (x := (0, 1))) (by decide +kernel) ⟨_, rfl, iteF ?_⟩
      refine ⟨4, rfl, _, _, rfl, by decide, sm _ (by decide), sm _ (by decide), fun r3 n3 => ?_⟩
      refine ⟨3, rfl, (by show 2 ≤ sizeLine; decide), fun r4 n4 => ?_⟩
      refine ne_same (x := low 6 (-4)) (y := (-3, 2)) ((Same.new n4).tup FT.new) (FT.new (x := (-3, 2))) (by decide +kernel) ⟨_, rfl, iteF ?_⟩
      -- over((1, 2), (-1, 3))
      refine ⟨(by show 2 ≤ sizeLine; decide), fun r5 n5 => ?_⟩
      refine ⟨1, rfl, (by show 2 ≤ sizeLine; decide), fun r6 n6 => ?_⟩
      refine ⟨r5, r6, (1, 2), (-1, 3), rfl, (Same.new n6).tup (FT.new (x := (1, 2))), FT.new (x := (-1, 3)), by decide +kernel, by decide +kernel, sz _ (by constructor <;> decide), sz _ (by constructor <;> decide), by decide, fun r7 n7 => ?_⟩
      refine ⟨3, rfl, (by show 2 ≤ sizeLine; decide), fun r8 n8 => ?_⟩
      refine ne_same (x := fdiv (1, 2) (-1, 3)) (y := (-3, 2)) ((Same.new n8).tup FT.new) (FT.new (x := (-3, 2))) (by decide +kernel) ⟨_, rfl, iteF ?_⟩
      -- is_less((1, 3), (1, 2)) is True and is_less((1, 2), (1, 2)) is False
      refine ⟨(by show 2 ≤ sizeLine; decide), fun p1 m1 => ⟨(by show 2 ≤ sizeLine; decide), fun p2 m2 => ?_⟩⟩
      refine ⟨p1, p2, (1, 3), (1, 2), rfl, (Same.new m2).tup (FT.new (x := (1, 3))), FT.new (x := (1, 2)), by decide +kernel, by decide +kernel, sz _ (by constructor <;> decide), sz _ (by constructor <;> decide), ?_⟩
      refine ⟨_, _, rfl, rfl, true, by decide +kernel, iteT ?_⟩
      refine ⟨(by show 2 ≤ sizeLine; decide), fun p3 m3 => ⟨(by show 2 ≤ sizeLine; decide), fun p4 m4 => ?_⟩⟩
      refine ⟨p3, p4, (1, 2), (1, 2), rfl, (Same.new m4).tup (FT.new (x := (1, 2))), FT.new (x := (1, 2)), by decide +kernel, by decide +kernel, sz _ (by constructor <;> decide), sz _ (by constructor <;> decide), ?_⟩
      refine ⟨_, _, rfl, rfl, ?_⟩
      exact k _
end
end CS
set_option Elab.async false
set_option maxRecDepth 100000
set_option linter.unusedVariables false
namespace CS
open PySem L2
set_option maxHeartbeats 8000000 in
theorem all_mk {l : PySem.W.OpenLaw} {w : World} {K : PySem.W.Frag} {h : Heap} {mg : Str → Option Value} {fa fLowered fAdded fLessened fMultiplied fDivided fIsBelow fIsWhole fIsRow fIsRowOf fIsFraction fNeedFraction fRatio fPlus fLess fTimes fOver fIsLess fMixed fBegin fDraw fLawRatio fLawPlus fLawLess fLawTimes fLawUnder fLawDrawn fPair fLaw fN : Addr} (X : K.In h) (G : h.Ns mainGlobals mg) (hfa : mg "law" = some (.ref fa))
    {odLowered anLowered : Option Addr} {slLowered : Array (Option Value)} {ocLowered kVLowered dcLowered pmLowered cdLowered ctLowered : Value} (aLowered : PySem.W.nsIn K mainGlobals "lowered" = some (some (.ref fLowered))) (lLowered : K.lookup fLowered = some ⟨ocLowered, odLowered, .func (PySem.W.fnOf "lowered" "lowered" (defArgs sLowered) (defBody sLowered) (defScope sLowered) .none kVLowered dcLowered pmLowered anLowered cdLowered ctLowered), slLowered⟩) (cLowered : PySem.W.codeIn K cdLowered "lowered" = true) (kLowered : PySem.W.keepIn K (.ref fLowered) = true)
    {odAdded anAdded : Option Addr} {slAdded : Array (Option Value)} {ocAdded kVAdded dcAdded pmAdded cdAdded ctAdded : Value} (aAdded : PySem.W.nsIn K mainGlobals "added" = some (some (.ref fAdded))) (lAdded : K.lookup fAdded = some ⟨ocAdded, odAdded, .func (PySem.W.fnOf "added" "added" (defArgs sAdded) (defBody sAdded) (defScope sAdded) .none kVAdded dcAdded pmAdded anAdded cdAdded ctAdded), slAdded⟩) (cAdded : PySem.W.codeIn K cdAdded "added" = true) (kAdded : PySem.W.keepIn K (.ref fAdded) = true)
    {odLessened anLessened : Option Addr} {slLessened : Array (Option Value)} {ocLessened kVLessened dcLessened pmLessened cdLessened ctLessened : Value} (aLessened : PySem.W.nsIn K mainGlobals "lessened" = some (some (.ref fLessened))) (lLessened : K.lookup fLessened = some ⟨ocLessened, odLessened, .func (PySem.W.fnOf "lessened" "lessened" (defArgs sLessened) (defBody sLessened) (defScope sLessened) .none kVLessened dcLessened pmLessened anLessened cdLessened ctLessened), slLessened⟩) (cLessened : PySem.W.codeIn K cdLessened "lessened" = true) (kLessened : PySem.W.keepIn K (.ref fLessened) = true)
    {odMultiplied anMultiplied : Option Addr} {slMultiplied : Array (Option Value)} {ocMultiplied kVMultiplied dcMultiplied pmMultiplied cdMultiplied ctMultiplied : Value} (aMultiplied : PySem.W.nsIn K mainGlobals "multiplied" = some (some (.ref fMultiplied))) (lMultiplied : K.lookup fMultiplied = some ⟨ocMultiplied, odMultiplied, .func (PySem.W.fnOf "multiplied" "multiplied" (defArgs sMultiplied) (defBody sMultiplied) (defScope sMultiplied) .none kVMultiplied dcMultiplied pmMultiplied anMultiplied cdMultiplied ctMultiplied), slMultiplied⟩) (cMultiplied : PySem.W.codeIn K cdMultiplied "multiplied" = true) (kMultiplied : PySem.W.keepIn K (.ref fMultiplied) = true)
    {odDivided anDivided : Option Addr} {slDivided : Array (Option Value)} {ocDivided kVDivided dcDivided pmDivided cdDivided ctDivided : Value} (aDivided : PySem.W.nsIn K mainGlobals "divided" = some (some (.ref fDivided))) (lDivided : K.lookup fDivided = some ⟨ocDivided, odDivided, .func (PySem.W.fnOf "divided" "divided" (defArgs sDivided) (defBody sDivided) (defScope sDivided) .none kVDivided dcDivided pmDivided anDivided cdDivided ctDivided), slDivided⟩) (cDivided : PySem.W.codeIn K cdDivided "divided" = true) (kDivided : PySem.W.keepIn K (.ref fDivided) = true)
    {odIsBelow anIsBelow : Option Addr} {slIsBelow : Array (Option Value)} {ocIsBelow kVIsBelow dcIsBelow pmIsBelow cdIsBelow ctIsBelow : Value} (aIsBelow : PySem.W.nsIn K mainGlobals "is_below" = some (some (.ref fIsBelow))) (lIsBelow : K.lookup fIsBelow = some ⟨ocIsBelow, odIsBelow, .func (PySem.W.fnOf "is_below" "is_below" (defArgs sIsBelow) (defBody sIsBelow) (defScope sIsBelow) .none kVIsBelow dcIsBelow pmIsBelow anIsBelow cdIsBelow ctIsBelow), slIsBelow⟩) (cIsBelow : PySem.W.codeIn K cdIsBelow "is_below" = true) (kIsBelow : PySem.W.keepIn K (.ref fIsBelow) = true)
    {odIsWhole anIsWhole : Option Addr} {slIsWhole : Array (Option Value)} {ocIsWhole kVIsWhole dcIsWhole pmIsWhole cdIsWhole ctIsWhole : Value} (aIsWhole : PySem.W.nsIn K mainGlobals "is_whole" = some (some (.ref fIsWhole))) (lIsWhole : K.lookup fIsWhole = some ⟨ocIsWhole, odIsWhole, .func (PySem.W.fnOf "is_whole" "is_whole" (defArgs sIsWhole) (defBody sIsWhole) (defScope sIsWhole) .none kVIsWhole dcIsWhole pmIsWhole anIsWhole cdIsWhole ctIsWhole), slIsWhole⟩) (cIsWhole : PySem.W.codeIn K cdIsWhole "is_whole" = true) (kIsWhole : PySem.W.keepIn K (.ref fIsWhole) = true)
    {odIsRow anIsRow : Option Addr} {slIsRow : Array (Option Value)} {ocIsRow kVIsRow dcIsRow pmIsRow cdIsRow ctIsRow : Value} (aIsRow : PySem.W.nsIn K mainGlobals "is_row" = some (some (.ref fIsRow))) (lIsRow : K.lookup fIsRow = some ⟨ocIsRow, odIsRow, .func (PySem.W.fnOf "is_row" "is_row" (defArgs sIsRow) (defBody sIsRow) (defScope sIsRow) .none kVIsRow dcIsRow pmIsRow anIsRow cdIsRow ctIsRow), slIsRow⟩) (cIsRow : PySem.W.codeIn K cdIsRow "is_row" = true) (kIsRow : PySem.W.keepIn K (.ref fIsRow) = true)
    {odIsRowOf anIsRowOf : Option Addr} {slIsRowOf : Array (Option Value)} {ocIsRowOf kVIsRowOf dcIsRowOf pmIsRowOf cdIsRowOf ctIsRowOf : Value} (aIsRowOf : PySem.W.nsIn K mainGlobals "is_row_of" = some (some (.ref fIsRowOf))) (lIsRowOf : K.lookup fIsRowOf = some ⟨ocIsRowOf, odIsRowOf, .func (PySem.W.fnOf "is_row_of" "is_row_of" (defArgs sIsRowOf) (defBody sIsRowOf) (defScope sIsRowOf) .none kVIsRowOf dcIsRowOf pmIsRowOf anIsRowOf cdIsRowOf ctIsRowOf), slIsRowOf⟩) (cIsRowOf : PySem.W.codeIn K cdIsRowOf "is_row_of" = true) (kIsRowOf : PySem.W.keepIn K (.ref fIsRowOf) = true)
    {odIsFraction anIsFraction : Option Addr} {slIsFraction : Array (Option Value)} {ocIsFraction kVIsFraction dcIsFraction pmIsFraction cdIsFraction ctIsFraction : Value} (aIsFraction : PySem.W.nsIn K mainGlobals "is_fraction" = some (some (.ref fIsFraction))) (lIsFraction : K.lookup fIsFraction = some ⟨ocIsFraction, odIsFraction, .func (PySem.W.fnOf "is_fraction" "is_fraction" (defArgs sIsFraction) (defBody sIsFraction) (defScope sIsFraction) .none kVIsFraction dcIsFraction pmIsFraction anIsFraction cdIsFraction ctIsFraction), slIsFraction⟩) (cIsFraction : PySem.W.codeIn K cdIsFraction "is_fraction" = true) (kIsFraction : PySem.W.keepIn K (.ref fIsFraction) = true)
    {odNeedFraction anNeedFraction : Option Addr} {slNeedFraction : Array (Option Value)} {ocNeedFraction kVNeedFraction dcNeedFraction pmNeedFraction cdNeedFraction ctNeedFraction : Value} (aNeedFraction : PySem.W.nsIn K mainGlobals "need_fraction" = some (some (.ref fNeedFraction))) (lNeedFraction : K.lookup fNeedFraction = some ⟨ocNeedFraction, odNeedFraction, .func (PySem.W.fnOf "need_fraction" "need_fraction" (defArgs sNeedFraction) (defBody sNeedFraction) (defScope sNeedFraction) .none kVNeedFraction dcNeedFraction pmNeedFraction anNeedFraction cdNeedFraction ctNeedFraction), slNeedFraction⟩) (cNeedFraction : PySem.W.codeIn K cdNeedFraction "need_fraction" = true) (kNeedFraction : PySem.W.keepIn K (.ref fNeedFraction) = true)
    {odRatio anRatio : Option Addr} {slRatio : Array (Option Value)} {ocRatio kVRatio dcRatio pmRatio cdRatio ctRatio : Value} (aRatio : PySem.W.nsIn K mainGlobals "ratio" = some (some (.ref fRatio))) (lRatio : K.lookup fRatio = some ⟨ocRatio, odRatio, .func (PySem.W.fnOf "ratio" "ratio" (defArgs sRatio) (defBody sRatio) (defScope sRatio) .none kVRatio dcRatio pmRatio anRatio cdRatio ctRatio), slRatio⟩) (cRatio : PySem.W.codeIn K cdRatio "ratio" = true) (kRatio : PySem.W.keepIn K (.ref fRatio) = true)
    {odPlus anPlus : Option Addr} {slPlus : Array (Option Value)} {ocPlus kVPlus dcPlus pmPlus cdPlus ctPlus : Value} (aPlus : PySem.W.nsIn K mainGlobals "plus" = some (some (.ref fPlus))) (lPlus : K.lookup fPlus = some ⟨ocPlus, odPlus, .func (PySem.W.fnOf "plus" "plus" (defArgs sPlus) (defBody sPlus) (defScope sPlus) .none kVPlus dcPlus pmPlus anPlus cdPlus ctPlus), slPlus⟩) (cPlus : PySem.W.codeIn K cdPlus "plus" = true) (kPlus : PySem.W.keepIn K (.ref fPlus) = true)
    {odLess anLess : Option Addr} {slLess : Array (Option Value)} {ocLess kVLess dcLess pmLess cdLess ctLess : Value} (aLess : PySem.W.nsIn K mainGlobals "less" = some (some (.ref fLess))) (lLess : K.lookup fLess = some ⟨ocLess, odLess, .func (PySem.W.fnOf "less" "less" (defArgs sLess) (defBody sLess) (defScope sLess) .none kVLess dcLess pmLess anLess cdLess ctLess), slLess⟩) (cLess : PySem.W.codeIn K cdLess "less" = true) (kLess : PySem.W.keepIn K (.ref fLess) = true)
    {odTimes anTimes : Option Addr} {slTimes : Array (Option Value)} {ocTimes kVTimes dcTimes pmTimes cdTimes ctTimes : Value} (aTimes : PySem.W.nsIn K mainGlobals "times" = some (some (.ref fTimes))) (lTimes : K.lookup fTimes = some ⟨ocTimes, odTimes, .func (PySem.W.fnOf "times" "times" (defArgs sTimes) (defBody sTimes) (defScope sTimes) .none kVTimes dcTimes pmTimes anTimes cdTimes ctTimes), slTimes⟩) (cTimes : PySem.W.codeIn K cdTimes "times" = true) (kTimes : PySem.W.keepIn K (.ref fTimes) = true)
    {odOver anOver : Option Addr} {slOver : Array (Option Value)} {ocOver kVOver dcOver pmOver cdOver ctOver : Value} (aOver : PySem.W.nsIn K mainGlobals "over" = some (some (.ref fOver))) (lOver : K.lookup fOver = some ⟨ocOver, odOver, .func (PySem.W.fnOf "over" "over" (defArgs sOver) (defBody sOver) (defScope sOver) .none kVOver dcOver pmOver anOver cdOver ctOver), slOver⟩) (cOver : PySem.W.codeIn K cdOver "over" = true) (kOver : PySem.W.keepIn K (.ref fOver) = true)
    {odIsLess anIsLess : Option Addr} {slIsLess : Array (Option Value)} {ocIsLess kVIsLess dcIsLess pmIsLess cdIsLess ctIsLess : Value} (aIsLess : PySem.W.nsIn K mainGlobals "is_less" = some (some (.ref fIsLess))) (lIsLess : K.lookup fIsLess = some ⟨ocIsLess, odIsLess, .func (PySem.W.fnOf "is_less" "is_less" (defArgs sIsLess) (defBody sIsLess) (defScope sIsLess) .none kVIsLess dcIsLess pmIsLess anIsLess cdIsLess ctIsLess), slIsLess⟩) (cIsLess : PySem.W.codeIn K cdIsLess "is_less" = true) (kIsLess : PySem.W.keepIn K (.ref fIsLess) = true)
    {odMixed anMixed : Option Addr} {slMixed : Array (Option Value)} {ocMixed kVMixed dcMixed pmMixed cdMixed ctMixed : Value} (aMixed : PySem.W.nsIn K mainGlobals "_law_mixed" = some (some (.ref fMixed))) (lMixed : K.lookup fMixed = some ⟨ocMixed, odMixed, .func (PySem.W.fnOf "_law_mixed" "_law_mixed" (defArgs sMixed) (defBody sMixed) (defScope sMixed) .none kVMixed dcMixed pmMixed anMixed cdMixed ctMixed), slMixed⟩) (cMixed : PySem.W.codeIn K cdMixed "_law_mixed" = true) (kMixed : PySem.W.keepIn K (.ref fMixed) = true)
    {odBegin anBegin : Option Addr} {slBegin : Array (Option Value)} {ocBegin kVBegin dcBegin pmBegin cdBegin ctBegin : Value} (aBegin : PySem.W.nsIn K mainGlobals "_law_begin" = some (some (.ref fBegin))) (lBegin : K.lookup fBegin = some ⟨ocBegin, odBegin, .func (PySem.W.fnOf "_law_begin" "_law_begin" (defArgs sBegin) (defBody sBegin) (defScope sBegin) .none kVBegin dcBegin pmBegin anBegin cdBegin ctBegin), slBegin⟩) (cBegin : PySem.W.codeIn K cdBegin "_law_begin" = true) (kBegin : PySem.W.keepIn K (.ref fBegin) = true)
    {odDraw anDraw : Option Addr} {slDraw : Array (Option Value)} {ocDraw kVDraw dcDraw pmDraw cdDraw ctDraw : Value} (aDraw : PySem.W.nsIn K mainGlobals "_law_draw" = some (some (.ref fDraw))) (lDraw : K.lookup fDraw = some ⟨ocDraw, odDraw, .func (PySem.W.fnOf "_law_draw" "_law_draw" (defArgs sDraw) (defBody sDraw) (defScope sDraw) .none kVDraw dcDraw pmDraw anDraw cdDraw ctDraw), slDraw⟩) (cDraw : PySem.W.codeIn K cdDraw "_law_draw" = true) (kDraw : PySem.W.keepIn K (.ref fDraw) = true)
    {odLawRatio anLawRatio : Option Addr} {slLawRatio : Array (Option Value)} {ocLawRatio kVLawRatio dcLawRatio pmLawRatio cdLawRatio ctLawRatio : Value} (aLawRatio : PySem.W.nsIn K mainGlobals "_law_ratio" = some (some (.ref fLawRatio))) (lLawRatio : K.lookup fLawRatio = some ⟨ocLawRatio, odLawRatio, .func (PySem.W.fnOf "_law_ratio" "_law_ratio" (defArgs sLawRatio) (defBody sLawRatio) (defScope sLawRatio) .none kVLawRatio dcLawRatio pmLawRatio anLawRatio cdLawRatio ctLawRatio), slLawRatio⟩) (cLawRatio : PySem.W.codeIn K cdLawRatio "_law_ratio" = true) (kLawRatio : PySem.W.keepIn K (.ref fLawRatio) = true)
    {odLawPlus anLawPlus : Option Addr} {slLawPlus : Array (Option Value)} {ocLawPlus kVLawPlus dcLawPlus pmLawPlus cdLawPlus ctLawPlus : Value} (aLawPlus : PySem.W.nsIn K mainGlobals "_law_plus" = some (some (.ref fLawPlus))) (lLawPlus : K.lookup fLawPlus = some ⟨ocLawPlus, odLawPlus, .func (PySem.W.fnOf "_law_plus" "_law_plus" (defArgs sLawPlus) (defBody sLawPlus) (defScope sLawPlus) .none kVLawPlus dcLawPlus pmLawPlus anLawPlus cdLawPlus ctLawPlus), slLawPlus⟩) (cLawPlus : PySem.W.codeIn K cdLawPlus "_law_plus" = true) (kLawPlus : PySem.W.keepIn K (.ref fLawPlus) = true)
    {odLawLess anLawLess : Option Addr} {slLawLess : Array (Option Value)} {ocLawLess kVLawLess dcLawLess pmLawLess cdLawLess ctLawLess : Value} (aLawLess : PySem.W.nsIn K mainGlobals "_law_less" = some (some (.ref fLawLess))) (lLawLess : K.lookup fLawLess = some ⟨ocLawLess, odLawLess, .func (PySem.W.fnOf "_law_less" "_law_less" (defArgs sLawLess) (defBody sLawLess) (defScope sLawLess) .none kVLawLess dcLawLess pmLawLess anLawLess cdLawLess ctLawLess), slLawLess⟩) (cLawLess : PySem.W.codeIn K cdLawLess "_law_less" = true) (kLawLess : PySem.W.keepIn K (.ref fLawLess) = true)
    {odLawTimes anLawTimes : Option Addr} {slLawTimes : Array (Option Value)} {ocLawTimes kVLawTimes dcLawTimes pmLawTimes cdLawTimes ctLawTimes : Value} (aLawTimes : PySem.W.nsIn K mainGlobals "_law_times" = some (some (.ref fLawTimes))) (lLawTimes : K.lookup fLawTimes = some ⟨ocLawTimes, odLawTimes, .func (PySem.W.fnOf "_law_times" "_law_times" (defArgs sLawTimes) (defBody sLawTimes) (defScope sLawTimes) .none kVLawTimes dcLawTimes pmLawTimes anLawTimes cdLawTimes ctLawTimes), slLawTimes⟩) (cLawTimes : PySem.W.codeIn K cdLawTimes "_law_times" = true) (kLawTimes : PySem.W.keepIn K (.ref fLawTimes) = true)
    {odLawUnder anLawUnder : Option Addr} {slLawUnder : Array (Option Value)} {ocLawUnder kVLawUnder dcLawUnder pmLawUnder cdLawUnder ctLawUnder : Value} (aLawUnder : PySem.W.nsIn K mainGlobals "_law_under" = some (some (.ref fLawUnder))) (lLawUnder : K.lookup fLawUnder = some ⟨ocLawUnder, odLawUnder, .func (PySem.W.fnOf "_law_under" "_law_under" (defArgs sLawUnder) (defBody sLawUnder) (defScope sLawUnder) .none kVLawUnder dcLawUnder pmLawUnder anLawUnder cdLawUnder ctLawUnder), slLawUnder⟩) (cLawUnder : PySem.W.codeIn K cdLawUnder "_law_under" = true) (kLawUnder : PySem.W.keepIn K (.ref fLawUnder) = true)
    {odLawDrawn anLawDrawn : Option Addr} {slLawDrawn : Array (Option Value)} {ocLawDrawn kVLawDrawn dcLawDrawn pmLawDrawn cdLawDrawn ctLawDrawn : Value} (aLawDrawn : PySem.W.nsIn K mainGlobals "_law_drawn" = some (some (.ref fLawDrawn))) (lLawDrawn : K.lookup fLawDrawn = some ⟨ocLawDrawn, odLawDrawn, .func (PySem.W.fnOf "_law_drawn" "_law_drawn" (defArgs sLawDrawn) (defBody sLawDrawn) (defScope sLawDrawn) .none kVLawDrawn dcLawDrawn pmLawDrawn anLawDrawn cdLawDrawn ctLawDrawn), slLawDrawn⟩) (cLawDrawn : PySem.W.codeIn K cdLawDrawn "_law_drawn" = true) (kLawDrawn : PySem.W.keepIn K (.ref fLawDrawn) = true)
    {odPair anPair : Option Addr} {slPair : Array (Option Value)} {ocPair kVPair dcPair pmPair cdPair ctPair : Value} (aPair : PySem.W.nsIn K mainGlobals "_law_pair_right" = some (some (.ref fPair))) (lPair : K.lookup fPair = some ⟨ocPair, odPair, .func (PySem.W.fnOf "_law_pair_right" "_law_pair_right" (defArgs sPair) (defBody sPair) (defScope sPair) .none kVPair dcPair pmPair anPair cdPair ctPair), slPair⟩) (cPair : PySem.W.codeIn K cdPair "_law_pair_right" = true) (kPair : PySem.W.keepIn K (.ref fPair) = true)
    {odLaw anLaw : Option Addr} {slLaw : Array (Option Value)} {ocLaw kVLaw dcLaw pmLaw cdLaw ctLaw : Value} (aLaw : PySem.W.nsIn K mainGlobals "law" = some (some (.ref fLaw))) (lLaw : K.lookup fLaw = some ⟨ocLaw, odLaw, .func (PySem.W.fnOf "law" "law" (defArgs sLaw) (defBody sLaw) (defScope sLaw) .none kVLaw dcLaw pmLaw anLaw cdLaw ctLaw), slLaw⟩) (cLaw : PySem.W.codeIn K cdLaw "law" = true) (kLaw : PySem.W.keepIn K (.ref fLaw) = true)
    (z_isinstance : PySem.W.nsIn K mainGlobals "isinstance" = some none) (z_int : PySem.W.nsIn K mainGlobals "int" = some none) (z_tuple : PySem.W.nsIn K mainGlobals "tuple" = some none) (z_len : PySem.W.nsIn K mainGlobals "len" = some none) (z_abs : PySem.W.nsIn K mainGlobals "abs" = some none) (z_range : PySem.W.nsIn K mainGlobals "range" = some none) (z_list : PySem.W.nsIn K mainGlobals "list" = some none) (z_gcd : PySem.W.nsIn K mainGlobals "gcd" = some (some (.builtin "math.gcd")))
    {odN : Option Addr} {slN : Array (Option Value)} {t1N t2N : Tok} {nN : Nat} (aN : PySem.W.nsIn K mainGlobals "NOUGHT" = some (some (.ref fN))) (lN : K.lookup fN = some ⟨.type "tuple", odN, .seq #[.int 0 t1N, .int 1 t2N] nN, slN⟩) :
    ∃ fd : FuncData, (∀ (s : Shared) (v : Value), BindsTo s fd ⟨[v], []⟩ [("script", v)]) ∧ ∀ base : Heap, K.In base → base.Ns mainGlobals mg → FnOk l.prog w K mg base CX0 7 fa fd ["script"] (spLaw K) := by
  have e := hfa.symm.trans (PySem.W.mg_of X G aLaw)
  cases e
  have T : Bt mg := ⟨PySem.W.mg_of X G z_gcd, PySem.W.mg_none_of X G z_isinstance, PySem.W.mg_none_of X G z_int, PySem.W.mg_none_of X G z_tuple, PySem.W.mg_none_of X G z_len, PySem.W.mg_none_of X G z_abs, PySem.W.mg_none_of X G z_range, PySem.W.mg_none_of X G z_list⟩
  have gN := PySem.W.mg_of X G aN
  have hN : ∀ H, FT K H fN (0, 1) := fun H => .inr ⟨_, _, _, lN, rfl, rfl, (by show 2 ≤ sizeLine; decide), .cons ⟨t1N, rfl⟩ (.cons ⟨t2N, rfl⟩ .nil)⟩
  have FLowered := fun_mk (st := sLowered) lLowered cLowered kLowered
  have DLowered : Df K mg "lowered" sLowered ["top", "bottom"] fLowered _ := ⟨FLowered, FLowered.binds (ps := ["top", "bottom"]) fun _ _ _ _ _ _ us hl => match us, hl with | [_, _], _ => rfl, PySem.W.mg_of X G aLowered⟩
  have FAdded := fun_mk (st := sAdded) lAdded cAdded kAdded
  have DAdded : Df K mg "added" sAdded ["one", "other"] fAdded _ := ⟨FAdded, FAdded.binds (ps := ["one", "other"]) fun _ _ _ _ _ _ us hl => match us, hl with | [_, _], _ => rfl, PySem.W.mg_of X G aAdded⟩
  have FLessened := fun_mk (st := sLessened) lLessened cLessened kLessened
  have DLessened : Df K mg "lessened" sLessened ["one", "other"] fLessened _ := ⟨FLessened, FLessened.binds (ps := ["one", "other"]) fun _ _ _ _ _ _ us hl => match us, hl with | [_, _], _ => rfl, PySem.W.mg_of X G aLessened⟩
  have FMultiplied := fun_mk (st := sMultiplied) lMultiplied cMultiplied kMultiplied
  have DMultiplied : Df K mg "multiplied" sMultiplied ["one", "other"] fMultiplied _ := ⟨FMultiplied, FMultiplied.binds (ps := ["one", "other"]) fun _ _ _ _ _ _ us hl => match us, hl with | [_, _], _ => rfl, PySem.W.mg_of X G aMultiplied⟩
  have FDivided := fun_mk (st := sDivided) lDivided cDivided kDivided
  have DDivided : Df K mg "divided" sDivided ["one", "other"] fDivided _ := ⟨FDivided, FDivided.binds (ps := ["one", "other"]) fun _ _ _ _ _ _ us hl => match us, hl with | [_, _], _ => rfl, PySem.W.mg_of X G aDivided⟩
  have FIsBelow := fun_mk (st := sIsBelow) lIsBelow cIsBelow kIsBelow
  have DIsBelow : Df K mg "is_below" sIsBelow ["one", "other"] fIsBelow _ := ⟨FIsBelow, FIsBelow.binds (ps := ["one", "other"]) fun _ _ _ _ _ _ us hl => match us, hl with | [_, _], _ => rfl, PySem.W.mg_of X G aIsBelow⟩
  have FIsWhole := fun_mk (st := sIsWhole) lIsWhole cIsWhole kIsWhole
  have DIsWhole : Df K mg "is_whole" sIsWhole ["thing"] fIsWhole _ := ⟨FIsWhole, FIsWhole.binds (ps := ["thing"]) fun _ _ _ _ _ _ us hl => match us, hl with | [_], _ => rfl, PySem.W.mg_of X G aIsWhole⟩
  have FIsRow := fun_mk (st := sIsRow) lIsRow cIsRow kIsRow
  have DIsRow : Df K mg "is_row" sIsRow ["thing"] fIsRow _ := ⟨FIsRow, FIsRow.binds (ps := ["thing"]) fun _ _ _ _ _ _ us hl => match us, hl with | [_], _ => rfl, PySem.W.mg_of X G aIsRow⟩
  have FIsRowOf := fun_mk (st := sIsRowOf) lIsRowOf cIsRowOf kIsRowOf
  have DIsRowOf : Df K mg "is_row_of" sIsRowOf ["thing", "many"] fIsRowOf _ := ⟨FIsRowOf, FIsRowOf.binds (ps := ["thing", "many"]) fun _ _ _ _ _ _ us hl => match us, hl with | [_, _], _ => rfl, PySem.W.mg_of X G aIsRowOf⟩
  have FIsFraction := fun_mk (st := sIsFraction) lIsFraction cIsFraction kIsFraction
  have DIsFraction : Df K mg "is_fraction" sIsFraction ["thing"] fIsFraction _ := ⟨FIsFraction, FIsFraction.binds (ps := ["thing"]) fun _ _ _ _ _ _ us hl => match us, hl with | [_], _ => rfl, PySem.W.mg_of X G aIsFraction⟩
  have FNeedFraction := fun_mk (st := sNeedFraction) lNeedFraction cNeedFraction kNeedFraction
  have DNeedFraction : Df K mg "need_fraction" sNeedFraction ["thing"] fNeedFraction _ := ⟨FNeedFraction, FNeedFraction.binds (ps := ["thing"]) fun _ _ _ _ _ _ us hl => match us, hl with | [_], _ => rfl, PySem.W.mg_of X G aNeedFraction⟩
  have FRatio := fun_mk (st := sRatio) lRatio cRatio kRatio
  have DRatio : Df K mg "ratio" sRatio ["top", "bottom"] fRatio _ := ⟨FRatio, FRatio.binds (ps := ["top", "bottom"]) fun _ _ _ _ _ _ us hl => match us, hl with | [_, _], _ => rfl, PySem.W.mg_of X G aRatio⟩
  have FPlus := fun_mk (st := sPlus) lPlus cPlus kPlus
  have DPlus : Df K mg "plus" sPlus ["one", "other"] fPlus _ := ⟨FPlus, FPlus.binds (ps := ["one", "other"]) fun _ _ _ _ _ _ us hl => match us, hl with | [_, _], _ => rfl, PySem.W.mg_of X G aPlus⟩
  have FLess := fun_mk (st := sLess) lLess cLess kLess
  have DLess : Df K mg "less" sLess ["one", "other"] fLess _ := ⟨FLess, FLess.binds (ps := ["one", "other"]) fun _ _ _ _ _ _ us hl => match us, hl with | [_, _], _ => rfl, PySem.W.mg_of X G aLess⟩
  have FTimes := fun_mk (st := sTimes) lTimes cTimes kTimes
  have DTimes : Df K mg "times" sTimes ["one", "other"] fTimes _ := ⟨FTimes, FTimes.binds (ps := ["one", "other"]) fun _ _ _ _ _ _ us hl => match us, hl with | [_, _], _ => rfl, PySem.W.mg_of X G aTimes⟩
  have FOver := fun_mk (st := sOver) lOver cOver kOver
  have DOver : Df K mg "over" sOver ["one", "other"] fOver _ := ⟨FOver, FOver.binds (ps := ["one", "other"]) fun _ _ _ _ _ _ us hl => match us, hl with | [_, _], _ => rfl, PySem.W.mg_of X G aOver⟩
  have FIsLess := fun_mk (st := sIsLess) lIsLess cIsLess kIsLess
  have DIsLess : Df K mg "is_less" sIsLess ["one", "other"] fIsLess _ := ⟨FIsLess, FIsLess.binds (ps := ["one", "other"]) fun _ _ _ _ _ _ us hl => match us, hl with | [_, _], _ => rfl, PySem.W.mg_of X G aIsLess⟩
  have FMixed := fun_mk (st := sMixed) lMixed cMixed kMixed
  have DMixed : Df K mg "_law_mixed" sMixed ["cell", "k"] fMixed _ := ⟨FMixed, FMixed.binds (ps := ["cell", "k"]) fun _ _ _ _ _ _ us hl => match us, hl with | [_, _], _ => rfl, PySem.W.mg_of X G aMixed⟩
  have FBegin := fun_mk (st := sBegin) lBegin cBegin kBegin
  have DBegin : Df K mg "_law_begin" sBegin ["script"] fBegin _ := ⟨FBegin, FBegin.binds (ps := ["script"]) fun _ _ _ _ _ _ us hl => match us, hl with | [_], _ => rfl, PySem.W.mg_of X G aBegin⟩
  have FDraw := fun_mk (st := sDraw) lDraw cDraw kDraw
  have DDraw : Df K mg "_law_draw" sDraw ["state", "many"] fDraw _ := ⟨FDraw, FDraw.binds (ps := ["state", "many"]) fun _ _ _ _ _ _ us hl => match us, hl with | [_, _], _ => rfl, PySem.W.mg_of X G aDraw⟩
  have FLawRatio := fun_mk (st := sLawRatio) lLawRatio cLawRatio kLawRatio
  have DLawRatio : Df K mg "_law_ratio" sLawRatio ["top", "bottom"] fLawRatio _ := ⟨FLawRatio, FLawRatio.binds (ps := ["top", "bottom"]) fun _ _ _ _ _ _ us hl => match us, hl with | [_, _], _ => rfl, PySem.W.mg_of X G aLawRatio⟩
  have FLawPlus := fun_mk (st := sLawPlus) lLawPlus cLawPlus kLawPlus
  have DLawPlus : Df K mg "_law_plus" sLawPlus ["one", "other"] fLawPlus _ := ⟨FLawPlus, FLawPlus.binds (ps := ["one", "other"]) fun _ _ _ _ _ _ us hl => match us, hl with | [_, _], _ => rfl, PySem.W.mg_of X G aLawPlus⟩
  have FLawLess := fun_mk (st := sLawLess) lLawLess cLawLess kLawLess
  have DLawLess : Df K mg "_law_less" sLawLess ["one", "other"] fLawLess _ := ⟨FLawLess, FLawLess.binds (ps := ["one", "other"]) fun _ _ _ _ _ _ us hl => match us, hl with | [_, _], _ => rfl, PySem.W.mg_of X G aLawLess⟩
  have FLawTimes := fun_mk (st := sLawTimes) lLawTimes cLawTimes kLawTimes
  have DLawTimes : Df K mg "_law_times" sLawTimes ["one", "other"] fLawTimes _ := ⟨FLawTimes, FLawTimes.binds (ps := ["one", "other"]) fun _ _ _ _ _ _ us hl => match us, hl with | [_, _], _ => rfl, PySem.W.mg_of X G aLawTimes⟩
  have FLawUnder := fun_mk (st := sLawUnder) lLawUnder cLawUnder kLawUnder
  have DLawUnder : Df K mg "_law_under" sLawUnder ["one", "other"] fLawUnder _ := ⟨FLawUnder, FLawUnder.binds (ps := ["one", "other"]) fun _ _ _ _ _ _ us hl => match us, hl with | [_, _], _ => rfl, PySem.W.mg_of X G aLawUnder⟩
  have FLawDrawn := fun_mk (st := sLawDrawn) lLawDrawn cLawDrawn kLawDrawn
  have DLawDrawn : Df K mg "_law_drawn" sLawDrawn ["state"] fLawDrawn _ := ⟨FLawDrawn, FLawDrawn.binds (ps := ["state"]) fun _ _ _ _ _ _ us hl => match us, hl with | [_], _ => rfl, PySem.W.mg_of X G aLawDrawn⟩
  have FPair := fun_mk (st := sPair) lPair cPair kPair
  have DPair : Df K mg "_law_pair_right" sPair ["one", "other"] fPair _ := ⟨FPair, FPair.binds (ps := ["one", "other"]) fun _ _ _ _ _ _ us hl => match us, hl with | [_, _], _ => rfl, PySem.W.mg_of X G aPair⟩
  have FLaw := fun_mk (st := sLaw) lLaw cLaw kLaw
  refine ⟨PySem.W.fnOf "law" "law" (defArgs sLaw) (defBody sLaw) (defScope sLaw) .none kVLaw dcLaw pmLaw anLaw cdLaw ctLaw, fun s v => .of_eq rfl, fun base _ _ => ?_⟩
  have Gneed := ok_need_fraction (P := l.prog) (w := w) (base := base) DNeedFraction DIsFraction (ok_is_fraction DIsFraction DIsRowOf DIsRow DIsWhole T)
  have Gplus := ok_plus DPlus DNeedFraction Gneed DAdded (ok_added DAdded DLowered T)
  have Gless := ok_less DLess DNeedFraction Gneed DLessened (ok_lessened DLessened DLowered T)
  have Gtimes := ok_times DTimes DNeedFraction Gneed DMultiplied (ok_multiplied DMultiplied DLowered T)
  have Gover := ok_over DOver DNeedFraction Gneed DDivided (ok_divided DDivided DLowered T) gN hN
  have Gisless := ok_is_less DIsLess DNeedFraction Gneed DIsBelow (ok_is_below DIsBelow T)
  have Gpair := ok_pair DPair DNeedFraction Gneed DPlus Gplus DLess Gless DTimes Gtimes DOver Gover DIsLess Gisless DLawPlus (ok_law_plus DLawPlus DLawRatio T) DLawLess (ok_law_less DLawLess DLawRatio T) DLawTimes (ok_law_times DLawTimes DLawRatio T) DLawUnder (ok_law_under DLawUnder T) DLawRatio (ok_law_ratio DLawRatio T) T
  exact ok_law FLaw DBegin (ok_begin DBegin T) DLawDrawn (ok_law_drawn DLawDrawn DDraw DLawRatio DMixed T) DPair Gpair DDraw (ok_draw DDraw DMixed T) DRatio (ok_ratio DRatio DIsWhole DLowered T) DLawRatio (ok_law_ratio DLawRatio T) DOver Gover DIsLess Gisless T
theorem walk {l : PySem.W.OpenLaw} {q : Program} {loose : List Str} {XP : (Str → Option Value) → Heap → Prop} {YP : World → Heap → Prop} {d : DefRec} {K : Params → PySem.W.Frag} (hn : l.most = some 63) (hdf : d.params.defaults = [])
    (hY : ∀ (w : World) (h : Heap), YP w h → (K w.params).In h)
    (F : ∀ (w : World) (mg : Str → Option Value) (fa : Addr) (h : Heap), (K w.params).In h → h.Ns mainGlobals mg → mg d.name = some (.ref fa) →
      ∃ fd : FuncData, (∀ (s : Shared) (u : Value), BindsTo s fd ⟨[u], []⟩ [("script", u)]) ∧ ∀ base : Heap, (K w.params).In base → base.Ns mainGlobals mg → FnOk l.prog w (K w.params) mg base CX0 7 fa fd ["script"] (spLaw (K w.params))) :
    PySem.W.WalkO q loose XP YP l.row.toRowW d [] (fun f vs => PySem.call f vs) :=
  L2.walk_of (n := 63) (k := 7) (x := "script") (CX := fun _ => CX0) (sp := fun w => spLaw (K w.params)) hn (by decide) hdf ⟨rfl, by decide, by decide⟩ hY F (fun _ _ a ns hl _ hS => ⟨a, ns, rfl, hS, hl, fun _ => rfl⟩) fun _ _ _ _ _ z => z
end CS
open PySem PySem.W PyProof.Rows
set_option maxRecDepth 100000 in
set_option maxHeartbeats 0 in
theorem PySem.Challenge.cw_curtainsteps_k01_whole_ratios_holds : PySem.Challenge.rw_curtainsteps_k01_whole_ratios.Holds := by
  w_on; o_law; k_head; (case hw => w_witness2)
  k_fill
  refine CS.walk (l := PySem.Challenge.rw_curtainsteps_k01_whole_ratios) rfl rfl (fun w h Y => PySem.W.kIn_of Y) ?F
  case F =>
    intro w mg fa h KX G hmg
    refine' CS.all_mk KX G hmg ?aLowered ?lLowered ?cLowered ?kLowered ?aAdded ?lAdded ?cAdded ?kAdded ?aLessened ?lLessened ?cLessened ?kLessened ?aMultiplied ?lMultiplied ?cMultiplied ?kMultiplied ?aDivided ?lDivided ?cDivided ?kDivided ?aIsBelow ?lIsBelow ?cIsBelow ?kIsBelow ?aIsWhole ?lIsWhole ?cIsWhole ?kIsWhole ?aIsRow ?lIsRow ?cIsRow ?kIsRow ?aIsRowOf ?lIsRowOf ?cIsRowOf ?kIsRowOf ?aIsFraction ?lIsFraction ?cIsFraction ?kIsFraction ?aNeedFraction ?lNeedFraction ?cNeedFraction ?kNeedFraction ?aRatio ?lRatio ?cRatio ?kRatio ?aPlus ?lPlus ?cPlus ?kPlus ?aLess ?lLess ?cLess ?kLess ?aTimes ?lTimes ?cTimes ?kTimes ?aOver ?lOver ?cOver ?kOver ?aIsLess ?lIsLess ?cIsLess ?kIsLess ?aMixed ?lMixed ?cMixed ?kMixed ?aBegin ?lBegin ?cBegin ?kBegin ?aDraw ?lDraw ?cDraw ?kDraw ?aLawRatio ?lLawRatio ?cLawRatio ?kLawRatio ?aLawPlus ?lLawPlus ?cLawPlus ?kLawPlus ?aLawLess ?lLawLess ?cLawLess ?kLawLess ?aLawTimes ?lLawTimes ?cLawTimes ?kLawTimes ?aLawUnder ?lLawUnder ?cLawUnder ?kLawUnder ?aLawDrawn ?lLawDrawn ?cLawDrawn ?kLawDrawn ?aPair ?lPair ?cPair ?kPair ?aLaw ?lLaw ?cLaw ?kLaw ?z_isinstance ?z_int ?z_tuple ?z_len ?z_abs ?z_range ?z_list ?z_gcd ?aN ?lN
    (case aLowered => k_is)
    (case lLowered => k_is)
    (case cLowered => k_is)
    (case kLowered => k_is)
    (case aAdded => k_is)
    (case lAdded => k_is)
    (case cAdded => k_is)
    (case kAdded => k_is)
    (case aLessened => k_is)
    (case lLessened => k_is)
    (case cLessened => k_is)
    (case kLessened => k_is)
    (case aMultiplied => k_is)
    (case lMultiplied => k_is)
    (case cMultiplied => k_is)
    (case kMultiplied => k_is)
    (case aDivided => k_is)
    (case lDivided => k_is)
    (case cDivided => k_is)
    (case kDivided => k_is)
    (case aIsBelow => k_is)
    (case lIsBelow => k_is)
    (case cIsBelow => k_is)
    (case kIsBelow => k_is)
    (case aIsWhole => k_is)
    (case lIsWhole => k_is)
    (case cIsWhole => k_is)
    (case kIsWhole => k_is)
    (case aIsRow => k_is)
    (case lIsRow => k_is)
    (case cIsRow => k_is)
    (case kIsRow => k_is)
    (case aIsRowOf => k_is)
    (case lIsRowOf => k_is)
    (case cIsRowOf => k_is)
    (case kIsRowOf => k_is)
    (case aIsFraction => k_is)
    (case lIsFraction => k_is)
    (case cIsFraction => k_is)
    (case kIsFraction => k_is)
    (case aNeedFraction => k_is)
    (case lNeedFraction => k_is)
    (case cNeedFraction => k_is)
    (case kNeedFraction => k_is)
    (case aRatio => k_is)
    (case lRatio => k_is)
    (case cRatio => k_is)
    (case kRatio => k_is)
    (case aPlus => k_is)
    (case lPlus => k_is)
    (case cPlus => k_is)
    (case kPlus => k_is)
    (case aLess => k_is)
    (case lLess => k_is)
    (case cLess => k_is)
    (case kLess => k_is)
    (case aTimes => k_is)
    (case lTimes => k_is)
    (case cTimes => k_is)
    (case kTimes => k_is)
    (case aOver => k_is)
    (case lOver => k_is)
    (case cOver => k_is)
    (case kOver => k_is)
    (case aIsLess => k_is)
    (case lIsLess => k_is)
    (case cIsLess => k_is)
    (case kIsLess => k_is)
    (case aMixed => k_is)
    (case lMixed => k_is)
    (case cMixed => k_is)
    (case kMixed => k_is)
    (case aBegin => k_is)
    (case lBegin => k_is)
    (case cBegin => k_is)
    (case kBegin => k_is)
    (case aDraw => k_is)
    (case lDraw => k_is)
    (case cDraw => k_is)
    (case kDraw => k_is)
    (case aLawRatio => k_is)
    (case lLawRatio => k_is)
    (case cLawRatio => k_is)
    (case kLawRatio => k_is)
    (case aLawPlus => k_is)
    (case lLawPlus => k_is)
    (case cLawPlus => k_is)
    (case kLawPlus => k_is)
    (case aLawLess => k_is)
    (case lLawLess => k_is)
    (case cLawLess => k_is)
    (case kLawLess => k_is)
    (case aLawTimes => k_is)
    (case lLawTimes => k_is)
    (case cLawTimes => k_is)
    (case kLawTimes => k_is)
    (case aLawUnder => k_is)
    (case lLawUnder => k_is)
    (case cLawUnder => k_is)
    (case kLawUnder => k_is)
    (case aLawDrawn => k_is)
    (case lLawDrawn => k_is)
    (case cLawDrawn => k_is)
    (case kLawDrawn => k_is)
    (case aPair => k_is)
    (case lPair => k_is)
    (case cPair => k_is)
    (case kPair => k_is)
    (case aLaw => k_is)
    (case lLaw => k_is)
    (case cLaw => k_is)
    (case kLaw => k_is)
    (case z_isinstance => k_is)
    (case z_int => k_is)
    (case z_tuple => k_is)
    (case z_len => k_is)
    (case z_abs => k_is)
    (case z_range => k_is)
    (case z_list => k_is)
    (case z_gcd => k_is)
    (case aN => k_is)
    (case lN => k_is)
