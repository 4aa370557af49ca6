import PyProof.Rows.All
import Wide.All
import OpenK.AllK
import Wide.FinOn
import HandS.ForMost
import HandS.Gcd
import HandS.Wide
import HandS.IsInst
import KE.KTypeName
import PyProof.IsiStr
import HandS.Flow
import HandS.Style
import HandS.Lambda
import HandS.Nested
import HandS.CallSlots
import KE.KDflt
import HandS.ExcInit
import HandS.ExcField
import HandS.ExcOwn
import HandS.WordsExc
import KE.KExcInit
import HandS.TryMany
import HandS.Ends
import HandS.Words
import PyProof.ReprRoads
import PyProof.ReprLen
import HandS.Evl
import HandS.Conv
import HandS.Zip
import HandS.TupAny
import HandS.Star
import HandS.Walk
import HandS.More
import KE.KExcIs
import HandS.ExcValue
import HandS.HotCalls
import HandS.TupLe
import HandS.ExcIs
import HandS.Deep
import PySem.Challenge.RW_curtainsteps_k38_errors_by_their_classes
set_option Elab.async false
set_option maxRecDepth 100000
set_option maxHeartbeats 4000000
/-! x.__class__.__name__ of whole numbers, truth values and tuples; // by any divisor that is not too great. -/
namespace CS
open PySem
section
variable {P : Program} {w : World} {A : Around} {E : Value → Shared → Prop} {hp : Heap} {gs : Array GenState} {dr : Drawn} {tk : Nat} {os : OsState}
theorem cls_of_int {i : Int} {u : Tok} {Q : Value → Shared → Prop} (q : Q (.type "int") ⟨hp, gs, dr, tk + 1, os⟩) : wpAny (model P w) A (getAttr (.int i u) "__class__" true) Q E ⟨hp, gs, dr, tk, os⟩ := by
  have ty : Shared.TypeIs ⟨hp, gs, dr, tk, os⟩ (.int i u) "int" := rfl
  have lo := F.slot_int_getattribute.lookup
  have bi := F.slot_int_getattribute.bind (.int i u)
  unfold getAttr
  all_goals (repeat' first | assumption | wp_step)
  refine class_call_int ?_
  all_goals (repeat' first | assumption | wp_step)
theorem cls_of_bool {b : Bool} {Q : Value → Shared → Prop} (q : Q (.type "bool") ⟨hp, gs, dr, tk + 1, os⟩) : wpAny (model P w) A (getAttr (.bool b) "__class__" true) Q E ⟨hp, gs, dr, tk, os⟩ := by
  have ty : Shared.TypeIs ⟨hp, gs, dr, tk, os⟩ (.bool b) "bool" := rfl
  have lo := F.slot_bool_getattribute.lookup
  have bi := F.slot_bool_getattribute.bind (.bool b)
  unfold getAttr
  all_goals (repeat' first | assumption | wp_step)
  refine class_call_bool ?_
  all_goals (repeat' first | assumption | wp_step)
theorem cls_of_tuple {a : Addr} {od : Option Addr} {dt : Data} {sl : Array (Option Value)} {Q : Value → Shared → Prop} (ha : hp.get? a = some ⟨.type "tuple", od, dt, sl⟩) (q : Q (.type "tuple") ⟨hp, gs, dr, tk + 1, os⟩) :
    wpAny (model P w) A (getAttr (.ref a) "__class__" true) Q E ⟨hp, gs, dr, tk, os⟩ := by
  have ty : Shared.TypeIs ⟨hp, gs, dr, tk, os⟩ (.ref a) "tuple" := ⟨_, ha, rfl⟩
  have lo := F.slot_tuple_getattribute.lookup
  have bi := F.slot_tuple_getattribute.bind (.ref a)
  unfold getAttr
  all_goals (repeat' first | assumption | wp_step)
  refine class_call_tuple ha rfl ?_
  all_goals (repeat' first | assumption | wp_step)
theorem cls_of_str {x : Str} {u : Tok} {Q : Value → Shared → Prop} (q : Q (.type "str") ⟨hp, gs, dr, tk + 1, os⟩) : wpAny (model P w) A (getAttr (.str x u) "__class__" true) Q E ⟨hp, gs, dr, tk, os⟩ := by
  have ty : Shared.TypeIs ⟨hp, gs, dr, tk, os⟩ (.str x u) "str" := rfl
  have lo := F.slot_str_getattribute.lookup
  have bi := F.slot_str_getattribute.bind (.str x u)
  unfold getAttr
  all_goals (repeat' first | assumption | wp_step)
  refine class_call_str ?_
  all_goals (repeat' first | assumption | wp_step)
end
end CS
set_option Elab.async false
set_option maxRecDepth 100000
set_option maxHeartbeats 4000000
namespace CS
open PySem L2
/-- the name of a plain value's class -/
inductive CN (K : PySem.W.Frag) (H : Hp) : V → Str → Prop where
  | int (i : Int) : CN K H (.int i) "int"
  | bl (b : Bool) : CN K H (.bl b) "bool"
  | str (x : Str) : CN K H (.str x) "str"
  | tup {a : Addr} {xs : List V} (h : SqT K H a xs) : CN K H (.ref a) "tuple"
def tCN (K : PySem.W.Frag) (te : TE) : TE := fun σ H Q => te σ H fun x H1 => ∃ nm, CN K H1 x nm ∧ Q (.str nm) H1
section
variable {X : Cx} {pins : List (Addr × Obj)} {σ : St} {H : Hp} {s : Shared}
/-- a built-in class's __name__ -/
theorem name_ok {T q : String} {Q : VK} (I : Inv X pins σ H s) (ht : PySem.W.kitMeta T = true) (hs : Manifest.isStub T = false)
    (e : PySem.W.findCls X.K (.type T) (.type "type") "__name__" = some (.get (.builtin "getset_descriptor.__get__") (.builtin "type.__name__") (.type T) (.type "type"))) (hq : PySem.W.ktynFast T = q) (hz : (Str.ofString q).length ≤ sizeLine)
    (h : Q (.str (Str.ofString q)) H) : wpAny (model X.prog X.w) X.A (getAttr (.type T) "__name__" true) (EP X pins σ Q) X.xe s := by
  obtain ⟨m, Fm⟩ := I.fr
  exact PySem.W.ktyn_attr Fm I.ok.mod.kin ht hs e hq hz fun tk u => ⟨.str _, H, I.tok u, ⟨tk, rfl⟩, h⟩
theorem cn_ok {x : V} {u : Value} {nm : Str} {Q : VK} (I : Inv X pins σ H s) (r : RelV x u) (c : CN X.K H x nm) (h : Q (.str nm) H) :
    wpAny (model X.prog X.w) X.A (getAttr u "__class__" true) (fun v s1 => wpAny (model X.prog X.w) X.A (getAttr v "__name__" true) (EP X pins σ Q) X.xe s1) X.xe s := by
  cases c with
  | int i =>
    obtain ⟨t, rfl⟩ := r
    obtain ⟨hh, g, d, tt, os⟩ := s
    exact cls_of_int (name_ok (I.tok (tt + 1)) (by decide +kernel) (by decide +kernel) (by first | kernel_rfl | rfl) (by decide +kernel) (by decide +kernel) h)
  | bl b =>
    cases (show u = Value.bool b from r)
    obtain ⟨hh, g, d, tt, os⟩ := s
    exact cls_of_bool (name_ok (I.tok (tt + 1)) (by decide +kernel) (by decide +kernel) (by first | kernel_rfl | rfl) (by decide +kernel) (by decide +kernel) h)
  | str x =>
    obtain ⟨t, rfl⟩ := r
    obtain ⟨hh, g, d, tt, os⟩ := s
    exact cls_of_str (name_ok (I.tok (tt + 1)) (by decide +kernel) (by decide +kernel) (by first | kernel_rfl | rfl) (by decide +kernel) (by decide +kernel) h)
  | @tup a xs hT =>
    cases (show u = Value.ref a from r)
    obtain ⟨its, _, ⟨o, h1, h2, _⟩, _⟩ := I.tuple hT
    obtain ⟨oc, od, dt, sl⟩ := o
    simp only at h2
    subst h2
    obtain ⟨hh, g, d, tt, os⟩ := s
    exact cls_of_tuple h1 (name_ok (I.tok (tt + 1)) (by decide +kernel) (by decide +kernel) (by first | kernel_rfl | rfl) (by decide +kernel) (by decide +kernel) h)
/-- e.__class__.__name__ -/
theorem pe_cn {e : Expr} {te : TE} {p1 p2 : PySem.Pos} (he : PE X e te) (hb1 : attributeBase e "__class__" X.env (eval e X.env) = eval e X.env := by rfl)
    (hb2 : attributeBase (.Attribute e "__class__" p1) "__name__" X.env (eval (.Attribute e "__class__" p1) X.env) = eval (.Attribute e "__class__" p1) X.env := by rfl) :
    PE X (.Attribute (.Attribute e "__class__" p1) "__name__" p2) (tCN X.K te) :=
  ⟨fun pins s σ H Q I h => attr_of hb2 (attr_of hb1 (thn (he.run pins s σ H _ I h) fun u s1 ⟨x, H1, I1, rx, nm, c, q⟩ => cn_ok I1 rx c q))⟩
/-- // by any divisor below 2 ^ 9000 in size -/
def CDivX (_ j : Int) : Prop := j ≠ 0 ∧ j.natAbs.log2 < 9000
theorem op_fdivX : OpR X (binaryOp .FloorDiv) (rI CDivX fun i j => .int (i.fdiv j)) := opI fun _ _ _ _ _ _ _ hc q =>
  PyProof.Rows.floordiv_int hc.1 q (.inl (PyProof.noPylong_of_log2 hc.2))
end
end CS
set_option maxHeartbeats 1000000
namespace CS
/-- in least terms, the lower one positive -/
def Fr (x : Int × Int) : Prop := 1 ≤ x.2 ∧ Int.gcd x.1 x.2 = 1
instance (x : Int × Int) : Decidable (Fr x) := by unfold Fr; infer_instance
def Sz (n : Nat) (x : Int × Int) : Prop := x.1.natAbs < 2 ^ n ∧ x.2.natAbs < 2 ^ n
def cm (t b : Int) : Int := if b < 0 then -(Int.gcd t b : Int) else (Int.gcd t b : Int)
def low (t b : Int) : Int × Int := (t.fdiv (cm t b), b.fdiv (cm t b))
theorem gcd_pos {t b : Int} (hb : b ≠ 0) : 0 < Int.gcd t b := Int.gcd_pos_of_ne_zero_right t hb
theorem cm_ne {t b : Int} (hb : b ≠ 0) : cm t b ≠ 0 := by
  have := gcd_pos (t := t) hb
  unfold cm
  split <;> omega
theorem cm_dvd (t b : Int) : cm t b ∣ t ∧ cm t b ∣ b := by
  unfold cm
  split
  · exact ⟨Int.neg_dvd.mpr (Int.gcd_dvd_left t b), Int.neg_dvd.mpr (Int.gcd_dvd_right t b)⟩
  · exact ⟨Int.gcd_dvd_left t b, Int.gcd_dvd_right t b⟩
theorem cm_abs (t b : Int) : (cm t b).natAbs = Int.gcd t b := by
  unfold cm
  split <;> omega
theorem low_parts {t b : Int} (hb : b ≠ 0) : t = cm t b * (low t b).1 ∧ b = cm t b * (low t b).2 := by
  obtain ⟨⟨t', ht⟩, ⟨b', hb'⟩⟩ := cm_dvd t b
  have hg := cm_ne (t := t) hb
  have e1 : t.fdiv (cm t b) = t' := by
    conv => lhs; lhs; rw [ht]
    exact Int.mul_fdiv_cancel_left t' hg
  have e2 : b.fdiv (cm t b) = b' := by
    conv => lhs; lhs; rw [hb']
    exact Int.mul_fdiv_cancel_left b' hg
  unfold low
  simp only [e1, e2]
  exact ⟨ht, hb'⟩
theorem low_fr {t b : Int} (hb : b ≠ 0) : Fr (low t b) := by
  obtain ⟨h1, h2⟩ := low_parts (t := t) hb
  have hp := gcd_pos (t := t) hb
  have hs : (b < 0 → cm t b < 0) ∧ (0 < b → 0 < cm t b) := by
    unfold cm
    split <;> constructor <;> intro h <;> omega
  have e : Int.gcd t b = (cm t b).natAbs * Int.gcd (low t b).1 (low t b).2 := by
    have z : ∀ g a c : Int, t = g * a → b = g * c → Int.gcd t b = g.natAbs * Int.gcd a c := by
      intro g a c e1 e2
      rw [e1, e2, Int.gcd_mul_left]
    exact z _ _ _ h1 h2
  rw [cm_abs] at e
  constructor
  · rcases Int.lt_or_gt_of_ne hb with h | h
    · have hc := hs.1 h
      rcases Int.lt_or_le 0 (low t b).2 with q | q
      · omega
      · have : 0 ≤ cm t b * (low t b).2 := Int.mul_nonneg_of_nonpos_of_nonpos (by omega) q
        omega
    · have hc := hs.2 h
      rcases Int.lt_or_le 0 (low t b).2 with q | q
      · omega
      · have : cm t b * (low t b).2 ≤ 0 := Int.mul_nonpos_of_nonneg_of_nonpos (by omega) q
        omega
  · have e' : Int.gcd t b * 1 = Int.gcd t b * Int.gcd (low t b).1 (low t b).2 := by omega
    exact (Nat.eq_of_mul_eq_mul_left hp e').symm
theorem low_cross {t b : Int} (hb : b ≠ 0) : (low t b).1 * b = t * (low t b).2 := by
  obtain ⟨h1, h2⟩ := low_parts (t := t) hb
  generalize low t b = y at *
  generalize cm t b = g at *
  subst h1
  subst h2
  grind
theorem low_le {t b : Int} (hb : b ≠ 0) : (low t b).1.natAbs ≤ t.natAbs ∧ (low t b).2.natAbs ≤ b.natAbs := by
  obtain ⟨h1, h2⟩ := low_parts (t := t) hb
  have hg : 0 < (cm t b).natAbs := by have := cm_ne (t := t) hb; omega
  constructor
  · conv => rhs; rw [h1, Int.natAbs_mul]
    exact Nat.le_mul_of_pos_left _ hg
  · conv => rhs; rw [h2, Int.natAbs_mul]
    exact Nat.le_mul_of_pos_left _ hg
theorem cop_dvd {k m n : Int} (h : k ∣ m * n) (c : Int.gcd k m = 1) : k ∣ n := by
  have h2 : k.natAbs ∣ m.natAbs * n.natAbs := by
    rw [← Int.natAbs_mul]
    exact Int.natAbs_dvd_natAbs.mpr h
  exact Int.natAbs_dvd_natAbs.mp (Nat.Coprime.dvd_of_dvd_mul_left (show Nat.Coprime k.natAbs m.natAbs from c) h2)
theorem Fr.uniq {x y : Int × Int} (hx : Fr x) (hy : Fr y) (h : x.1 * y.2 = y.1 * x.2) : x = y := by
  obtain ⟨a, b⟩ := x
  obtain ⟨c, d⟩ := y
  obtain ⟨hb, hab⟩ := hx
  obtain ⟨hd, hcd⟩ := hy
  simp only at *
  have d1 : b ∣ d := by
    have : b ∣ a * d := ⟨c, by grind⟩
    exact cop_dvd this (by rw [Int.gcd_comm]; exact hab)
  have d2 : d ∣ b := by
    have : d ∣ c * b := ⟨a, by grind⟩
    exact cop_dvd this (by rw [Int.gcd_comm]; exact hcd)
  have e : b = d := Int.dvd_antisymm (by omega) (by omega) d1 d2
  subst e
  have : a = c := Int.eq_of_mul_eq_mul_right (by omega) h
  rw [this]
theorem low_uniq {t b : Int} {x : Int × Int} (hb : b ≠ 0) (hx : Fr x) (h : x.1 * b = t * x.2) : low t b = x := by
  refine (low_fr hb).uniq hx ?_
  have c := low_cross (t := t) hb
  have : b * ((low t b).1 * x.2) = b * (x.1 * (low t b).2) := by
    generalize low t b = y at *
    grind
  exact Int.eq_of_mul_eq_mul_left hb this
def fadd (x y : Int × Int) : Int × Int := low (x.1 * y.2 + y.1 * x.2) (x.2 * y.2)
def fsub (x y : Int × Int) : Int × Int := low (x.1 * y.2 - y.1 * x.2) (x.2 * y.2)
def fmul (x y : Int × Int) : Int × Int := low (x.1 * y.1) (x.2 * y.2)
def fdiv (x y : Int × Int) : Int × Int := low (x.1 * y.2) (x.2 * y.1)
def flt (x y : Int × Int) : Bool := decide (x.1 * y.2 < y.1 * x.2)
theorem Fr.pos {x : Int × Int} (h : Fr x) : 0 < x.2 := by have := h.1; omega
theorem Fr.ne {x : Int × Int} (h : Fr x) : x.2 ≠ 0 := by have := h.1; omega
theorem dd {x y : Int × Int} (hx : Fr x) (hy : Fr y) : x.2 * y.2 ≠ 0 := Int.mul_ne_zero hx.ne hy.ne
theorem dd0 {x y : Int × Int} (hx : Fr x) (hy : Fr y) : 0 < x.2 * y.2 := Int.mul_pos hx.pos hy.pos
theorem fadd_fr {x y : Int × Int} (hx : Fr x) (hy : Fr y) : Fr (fadd x y) := low_fr (dd hx hy)
theorem fsub_fr {x y : Int × Int} (hx : Fr x) (hy : Fr y) : Fr (fsub x y) := low_fr (dd hx hy)
theorem fmul_fr {x y : Int × Int} (hx : Fr x) (hy : Fr y) : Fr (fmul x y) := low_fr (dd hx hy)
theorem fdiv_fr {x y : Int × Int} (hx : Fr x) (h : y.1 ≠ 0) : Fr (fdiv x y) := low_fr (Int.mul_ne_zero hx.ne h)
theorem fadd_comm (x y : Int × Int) : fadd x y = fadd y x := by
  unfold fadd
  rw [Int.add_comm, Int.mul_comm x.2 y.2]
theorem fsub_fadd {x y : Int × Int} (hx : Fr x) (hy : Fr y) : fsub (fadd x y) y = x := by
  have hp := fadd_fr hx hy
  have c : (fadd x y).1 * (x.2 * y.2) = (x.1 * y.2 + y.1 * x.2) * (fadd x y).2 := low_cross (dd hx hy)
  refine low_uniq (dd hp hy) hx ?_
  generalize fadd x y = p at *
  grind
theorem fmul_fdiv {x y : Int × Int} (hx : Fr x) (hy : Fr y) (h : y.1 ≠ 0) : fmul (fdiv x y) y = x := by
  have hp := fdiv_fr hx h
  have c : (fdiv x y).1 * (x.2 * y.1) = (x.1 * y.2) * (fdiv x y).2 := low_cross (Int.mul_ne_zero hx.ne h)
  refine low_uniq (dd hp hy) hx ?_
  generalize fdiv x y = p at *
  grind
theorem low_neg {t b : Int} (hb : b ≠ 0) : low (-t) (-b) = low t b := by
  refine low_uniq (by omega) (low_fr hb) ?_
  have c := low_cross (t := t) hb
  grind
theorem due_eq {x y : Int × Int} (h : y.1 ≠ 0) (hx : Fr x) : low (x.1 * y.2 * (if 0 < y.1 then 1 else -1)) (x.2 * (y.1.natAbs : Int)) = fdiv x y := by
  unfold fdiv
  split
  · next q =>
    rw [show ((y.1.natAbs : Nat) : Int) = y.1 by omega]
    congr 1
    omega
  · next q =>
    rw [show ((y.1.natAbs : Nat) : Int) = -y.1 by omega]
    have := low_neg (t := x.1 * y.2) (b := x.2 * y.1) (Int.mul_ne_zero hx.ne h)
    rw [← this]
    congr 1
    · omega
    · grind
theorem flt_sub {x y : Int × Int} (hx : Fr x) (hy : Fr y) : flt x y = flt (fsub x y) (0, 1) := by
  have hp := fsub_fr hx hy
  have c : (fsub x y).1 * (x.2 * y.2) = (x.1 * y.2 - y.1 * x.2) * (fsub x y).2 := low_cross (dd hx hy)
  have k := dd0 hx hy
  have m := hp.pos
  unfold flt
  simp only [Int.mul_one, Int.zero_mul]
  generalize fsub x y = p at *
  generalize hk : x.2 * y.2 = kk at *
  generalize hd : x.1 * y.2 - y.1 * x.2 = dl at *
  rw [decide_eq_decide]
  constructor
  · intro q
    have q2 : dl < 0 := by omega
    have : dl * p.2 < 0 := Int.mul_neg_of_neg_of_pos q2 m
    rcases Int.lt_or_le p.1 0 with z | z
    · exact z
    · have := Int.mul_nonneg z (Int.le_of_lt k)
      omega
  · intro q
    have : p.1 * kk < 0 := Int.mul_neg_of_neg_of_pos q k
    rcases Int.lt_or_le dl 0 with z | z
    · omega
    · have := Int.mul_nonneg z (Int.le_of_lt m)
      omega
theorem fadd_zero {x : Int × Int} (hx : Fr x) : fadd x (0, 1) = x := by
  unfold fadd
  refine low_uniq ?_ hx ?_
  · have := hx.ne
    simp only [Int.mul_one]
    exact this
  · grind
/-! sizes -/
theorem abs_mul_lt {a b : Int} {m n : Nat} (ha : a.natAbs < 2 ^ m) (hb : b.natAbs < 2 ^ n) : (a * b).natAbs < 2 ^ (m + n) := by
  rw [Int.natAbs_mul, Nat.pow_add]
  exact Nat.mul_lt_mul'' ha hb
theorem abs_add_lt {a b : Int} {m : Nat} (ha : a.natAbs < 2 ^ m) (hb : b.natAbs < 2 ^ m) : (a + b).natAbs < 2 ^ (m + 1) := by
  rw [Nat.pow_succ]
  omega
theorem abs_sub_lt {a b : Int} {m : Nat} (ha : a.natAbs < 2 ^ m) (hb : b.natAbs < 2 ^ m) : (a - b).natAbs < 2 ^ (m + 1) := by
  rw [Nat.pow_succ]
  omega
theorem lt_up {a : Nat} {m n : Nat} (ha : a < 2 ^ m) (h : m ≤ n) : a < 2 ^ n := Nat.lt_of_lt_of_le ha (Nat.pow_le_pow_right (by decide) h)
theorem Sz.up {x : Int × Int} {m n : Nat} (h : Sz m x) (q : m ≤ n) : Sz n x := ⟨lt_up h.1 q, lt_up h.2 q⟩
theorem low_sz {t b : Int} {n : Nat} (hb : b ≠ 0) (h1 : t.natAbs < 2 ^ n) (h2 : b.natAbs < 2 ^ n) : Sz n (low t b) :=
  ⟨Nat.lt_of_le_of_lt (low_le hb).1 h1, Nat.lt_of_le_of_lt (low_le hb).2 h2⟩
theorem fadd_sz {x y : Int × Int} {m n : Nat} (hx : Fr x) (hy : Fr y) (sx : Sz m x) (sy : Sz n y) : Sz (m + n + 1) (fadd x y) := by
  refine low_sz (dd hx hy) ?_ ?_
  · refine abs_add_lt (abs_mul_lt sx.1 sy.2) ?_
    rw [Int.mul_comm]
    exact abs_mul_lt sx.2 sy.1
  · exact lt_up (abs_mul_lt sx.2 sy.2) (by omega)
theorem fsub_sz {x y : Int × Int} {m n : Nat} (hx : Fr x) (hy : Fr y) (sx : Sz m x) (sy : Sz n y) : Sz (m + n + 1) (fsub x y) := by
  refine low_sz (dd hx hy) ?_ ?_
  · refine abs_sub_lt (abs_mul_lt sx.1 sy.2) ?_
    rw [Int.mul_comm]
    exact abs_mul_lt sx.2 sy.1
  · exact lt_up (abs_mul_lt sx.2 sy.2) (by omega)
theorem fmul_sz {x y : Int × Int} {m n : Nat} (hx : Fr x) (hy : Fr y) (sx : Sz m x) (sy : Sz n y) : Sz (m + n) (fmul x y) :=
  low_sz (dd hx hy) (abs_mul_lt sx.1 sy.1) (abs_mul_lt sx.2 sy.2)
theorem fdiv_sz {x y : Int × Int} {m n : Nat} (hx : Fr x) (h : y.1 ≠ 0) (sx : Sz m x) (sy : Sz n y) : Sz (m + n) (fdiv x y) :=
  low_sz (Int.mul_ne_zero hx.ne h) (abs_mul_lt sx.1 sy.2) (abs_mul_lt sx.2 sy.1)
/-! Euclid's loop -/
theorem euclid_step {a b : Int} (h : 0 ≤ a) (hb : 0 < b) : Int.gcd b (a % b) = Int.gcd a b := by
  obtain ⟨m, rfl⟩ := Int.eq_ofNat_of_zero_le h
  obtain ⟨n, rfl⟩ := Int.eq_ofNat_of_zero_le (Int.le_of_lt hb)
  show Nat.gcd n ((m : Int) % (n : Int)).natAbs = Nat.gcd m n
  rw [← Int.natCast_emod, Int.natAbs_natCast, Nat.gcd_comm m n, Nat.gcd_rec n m, Nat.gcd_comm]
end CS
set_option Elab.async false
set_option maxRecDepth 100000
set_option maxHeartbeats 4000000
set_option linter.unusedVariables false
namespace CS
open PySem L2
theorem PE.imp {X : Cx} {e : Expr} {t t1 : TE} (h : PE X e t) (k : ∀ σ H Q, t1 σ H Q → t σ H Q) : PE X e t1 := ⟨fun pins s σ H Q I q => h.run pins s σ H Q I (k σ H Q q)⟩
/-- a fraction's tuple stands at p -/
abbrev FT (K : PySem.W.Frag) (H : Hp) (p : Addr) (x : Int × Int) : Prop := SqT K H p [.int x.1, .int x.2]
/-- slot i holds a fraction's tuple: its item 0, its item 1 -/
def tFst (K : PySem.W.Frag) (i : Nat) : TE := fun σ H Q => ∃ p x, σ[i]? = some (some (.ref p)) ∧ FT K H p x ∧ Q (.int x.1) H
def tSnd (K : PySem.W.Frag) (i : Nat) : TE := fun σ H Q => ∃ p x, σ[i]? = some (some (.ref p)) ∧ FT K H p x ∧ Q (.int x.2) H
section
variable {X : Cx}
theorem pe_fst (i : Nat) {x : Str} {pos p2 pos' : PySem.Pos} {j : Nat} (hN : X.N[i]? = some x := by rfl) (hv : Vis X.env.scope x := by first | exact Or.inl rfl | exact Or.inr (Or.inl rfl) | exact Or.inr (Or.inr rfl)) (hd : (x == ("__debug__" : Str)) = false := by decide)
    (hcd : (x == ("__classdict__" : Str)) = false := by decide) : PE X (.Subscript (.Name x pos) (.Constant (.int 0) j p2) pos') (tFst X.K i) :=
  PE.imp (pe_ix ix_tup (pe_var hN hv hd hcd) pe_int (fun _ _ => rfl)) fun σ H Q ⟨p, x, e, h, q⟩ => ⟨_, e, p, _, 0, .int x.1, rfl, rfl, h, atI_nat (j := 0) rfl, q⟩
theorem pe_snd (i : Nat) {x : Str} {pos p2 pos' : PySem.Pos} {j : Nat} (hN : X.N[i]? = some x := by rfl) (hv : Vis X.env.scope x := by first | exact Or.inl rfl | exact Or.inr (Or.inl rfl) | exact Or.inr (Or.inr rfl)) (hd : (x == ("__debug__" : Str)) = false := by decide)
    (hcd : (x == ("__classdict__" : Str)) = false := by decide) : PE X (.Subscript (.Name x pos) (.Constant (.int 1) j p2) pos') (tSnd X.K i) :=
  PE.imp (pe_ix ix_tup (pe_var hN hv hd hcd) pe_int (fun _ _ => rfl)) fun σ H Q ⟨p, x, e, h, q⟩ => ⟨_, e, p, _, 1, .int x.2, rfl, rfl, h, atI_nat (j := 1) rfl, q⟩
end
theorem cmw {a b : Int} (ha : a.natAbs < 2 ^ 1900) (hb : b.natAbs < 2 ^ 1900) : CMulW a b := wide_mul ha hb (by decide) (by decide) (by decide)
end CS
set_option Elab.async false
set_option maxRecDepth 100000
set_option maxHeartbeats 4000000
set_option linter.unusedVariables false
/-! A function object as a value: what its call without arguments does is told by a promise over the abstract heap, in which the cells that it captured are tracked, too. -/
namespace CS
open PySem PySem.Spec PyProof.Rows L2 LamX
/-- the function object at f -/
def FunO (f : Addr) (fd : FuncData) : HO := .ext fun h => ∃ od sl, h.get? f = some (⟨.type "function", od, .func fd, sl⟩ : Obj)
/-- the very object at c -/
def CellX (c : Addr) (o : Obj) : HO := .ext fun h => h.get? c = some o
theorem funO_at {P : Program} {w : World} {H : Hp} {h : Heap} {f : Addr} {fd : FuncData} (ok : HOk P w H h) (e : H f = some (FunO f fd)) : ∃ od sl, h.get? f = some (⟨.type "function", od, .func fd, sl⟩ : Obj) := by
  have x : ObjOk P w H h f (FunO f fd) := ok f _ e
  exact x.1
theorem cellX_at {P : Program} {w : World} {H : Hp} {h : Heap} {c : Addr} {o : Obj} (ok : HOk P w H h) (e : H c = some (CellX c o)) : h.get? c = some o := by
  have x : ObjOk P w H h c (CellX c o) := ok c _ e
  exact x.1
theorem cellX_ok {P : Program} {w : World} {H : Hp} {h : Heap} {c : Addr} {o : Obj} (e : h.get? c = some o) : ObjOk P w H h c (CellX c o) := ⟨e, ⟨o, e⟩, fun _ _ z k => k _ z⟩
/-- with the objects of l tracked, without them -/
def addC (l : Addr → Option Obj) (H : Hp) : Hp := fun b => match l b with
  | some o => some (CellX b o)
  | none => H b
def Free (l : Addr → Option Obj) (H : Hp) : Prop := ∀ b o, l b = some o → H b = none
def Cin (l : Addr → Option Obj) (H : Hp) : Prop := ∀ b o, l b = some o → H b = some (CellX b o)
def subC (l : Addr → Option Obj) (H : Hp) : Hp := fun b => if (l b).isSome then none else H b
section
variable {l : Addr → Option Obj} {H H2 : Hp} {b : Addr} {o : Obj}
theorem addC_in (e : l b = some o) : addC l H b = some (CellX b o) := by
  unfold addC
  rw [e]
theorem addC_out (e : l b = none) : addC l H b = H b := by
  unfold addC
  rw [e]
theorem subC_in (e : l b = some o) : subC l H b = none := by
  unfold subC
  rw [e]
  rfl
theorem subC_out (e : l b = none) : subC l H b = H b := by
  unfold subC
  rw [e]
  rfl
theorem cin_add : Cin l (addC l H) := fun _ _ e => addC_in e
theorem free_sub : Free l (subC l H) := fun _ _ e => subC_in e
theorem sub_add (F : Free l H) : subC l (addC l H) = H := by
  funext b
  cases e : l b with
  | none => rw [subC_out e, addC_out e]
  | some o => rw [subC_in e, F b o e]
theorem add_sub (C : Cin l H) : addC l (subC l H) = H := by
  funext b
  cases e : l b with
  | none => rw [addC_out e, subC_out e]
  | some o => rw [addC_in e, C b o e]
theorem Cin.out (C : Cin l H) {u : HO} (e : H b = some u) (n : ∀ c o, u ≠ CellX c o) : l b = none := by
  cases q : l b with
  | none => rfl
  | some o =>
    have := C b o q
    rw [e] at this
    exact absurd (Option.some.inj this) (n b o)
theorem Free.out (F : Free l H) {u : HO} (e : H b = some u) : l b = none := by
  cases q : l b with
  | none => rfl
  | some o =>
    rw [F b o q] at e
    cases e
theorem cx_tup {c : Addr} {o : Obj} {xs : List V} : (HO.tup xs) ≠ CellX c o := fun z => by
  unfold CellX at z
  cases z
theorem cx_frz {c : Addr} {o o2 : Obj} {u : HO} : (HO.frz o2 u) ≠ CellX c o := fun z => by
  unfold CellX at z
  cases z
theorem cx_tbl {c : Addr} {o : Obj} {ps : Array Value} : (HO.tbl ps) ≠ CellX c o := fun z => by
  unfold CellX at z
  cases z
theorem sub_none (n : H b = none) : subC l H b = none := by
  unfold subC
  split
  · rfl
  · exact n
end
section
variable {P : Program} {w : World} {l : Addr → Option Obj} {H H2 : Hp} {h h' : Heap} {fs : List Addr}
theorem hok_sub (C : Cin l H) (ok : HOk P w H h) : HOk P w (subC l H) h := fun b u e => by
  have hb : l b = none := free_sub.out e
  rw [subC_out hb] at e
  refine (ok b u e).stay (fun _ _ _ q => q) (fun c hc => ?_) (fun c xs hc => ?_)
  · rw [subC_out (C.out hc fun _ _ z => by unfold CellX at z; cases z)]
    exact hc
  · rw [subC_out (C.out hc fun _ _ => cx_tup)]
    exact hc
theorem hok_add (F : Free l H2) (ok : HOk P w H2 h) (k : ∀ b o, l b = some o → h.get? b = some o) : HOk P w (addC l H2) h := fun b u e => by
  cases q : l b with
  | some o =>
    rw [addC_in q] at e
    cases e
    exact cellX_ok (k b o q)
  | none =>
    rw [addC_out q] at e
    refine (ok b u e).stay (fun _ _ _ q => q) (fun c hc => ?_) (fun c xs hc => ?_)
    · rw [addC_out (F.out hc)]
      exact hc
    · rw [addC_out (F.out hc)]
      exact hc
/-- the step of a body, told with the cells -/
theorem un_add (C : Cin l H) (F : Free l H2) (u : Un fs [] (subC l H) H2 h h') : Un fs [] H (addC l H2) h h' where
  keep := fun b o q n hb hx => u.keep b o q (sub_none n) hb hx
  slot := fun b o q n hb hx => u.slot b o q (sub_none n) hb hx
  free := fun b o q n hx => by
    have e : l b = none := by
      cases z : l b with
      | none => rfl
      | some o2 =>
        rw [C b o2 z] at n
        cases n
    rw [addC_out e]
    exact u.free b o q (sub_none n) hx
  there := u.there
  tups := fun b xs e => by
    have q := C.out e fun _ _ => cx_tup
    rw [addC_out q]
    exact u.tups b xs (by rw [subC_out q]; exact e)
  frzs := fun b o2 x e => by
    have q := C.out e fun _ _ => cx_frz
    rw [addC_out q]
    exact u.frzs b o2 x (by rw [subC_out q]; exact e)
  tbls := fun b ps e => by
    have q := C.out e fun _ _ => cx_tbl
    rw [addC_out q]
    exact u.tbls b ps (by rw [subC_out q]; exact e)
/-- .. and a caller's, told without them -/
theorem un_sub (F : Free l H) (C : Cin l H2) (hk : HOk P w H2 h') (hh : ∀ b o, l b = some o → h.get? b = some o) (u : Un fs [] (addC l H) H2 h h') : Un fs [] H (subC l H2) h h' where
  keep := fun b o q n hb hx => by
    cases z : l b with
    | none => exact u.keep b o q (by rw [addC_out z]; exact n) hb hx
    | some o2 =>
      have e := hh b o2 z
      rw [q] at e
      cases e
      exact cellX_at hk (C b _ z)
  slot := fun b o q n hb hx => by
    cases z : l b with
    | none => exact u.slot b o q (by rw [addC_out z]; exact n) hb hx
    | some o2 =>
      have e := hh b o2 z
      rw [q] at e
      cases e
      exact ⟨o.slots, cellX_at hk (C b _ z)⟩
  free := fun b o q n hx => by
    cases z : l b with
    | none => exact sub_none (u.free b o q (by rw [addC_out z]; exact n) hx)
    | some o2 => exact subC_in z
  there := u.there
  tups := fun b xs e => by
    have q := F.out e
    have := u.tups b xs (by rw [addC_out q]; exact e)
    rw [subC_out q]
    exact this
  frzs := fun b o2 x e => by
    have q := F.out e
    have := u.frzs b o2 x (by rw [addC_out q]; exact e)
    rw [subC_out q]
    exact this
  tbls := fun b ps e => by
    have q := F.out e
    have := u.tbls b ps (by rw [addC_out q]; exact e)
    rw [subC_out q]
    exact this
/-- an exception that leaves a body, told with the cells -/
theorem cx_add {outer : List Env} {s s' : Shared} {E : XK} {u : Value} (C : Cin l H) (ok : HOk P w H s.heap) (nf : ∀ b ∈ frs outer, H b = none) (c : L2.CX P w outer (subC l H) s (fun cls d H' => Free l H' → E cls d (addC l H')) u s') : L2.CX P w outer H s E u s' := by
  obtain ⟨a, B, H', cls, d, rfl, fl, hok, ub, na, os, ag, hE⟩ := c
  have hh : ∀ b o, l b = some o → s.heap.get? b = some o := fun b o e => cellX_at ok (C b o e)
  have nfr : ∀ b o, l b = some o → b ∉ frs outer := fun b o e z => by
    have := nf b z
    rw [C b o e] at this
    cases this
  have F : Free l H' := fun b o e => ub.free b o (hh b o e) (subC_in e)
  have kB : ∀ b o, l b = some o → B.get? b = some o := fun b o e => ub.keep b o (hh b o e) (subC_in e) (nfr b o e)
  refine ⟨a, B, addC l H', cls, d, rfl, fl, hok_add F hok kB, ⟨fun b o q n hb => ub.keep b o q (sub_none n) hb, ub.slot, fun b o q n => ?_, ub.there, fun b xs e => ?_, fun b o2 x e => ?_, fun b ps e => ?_⟩, ?_, os, ag, hE F⟩
  · have e : l b = none := by
      cases z : l b with
      | none => rfl
      | some o2 =>
        rw [C b o2 z] at n
        cases n
    rw [addC_out e]
    exact ub.free b o q (sub_none n)
  · have q := C.out e fun _ _ => cx_tup
    rw [addC_out q]
    exact ub.tups b xs (by rw [subC_out q]; exact e)
  · have q := C.out e fun _ _ => cx_frz
    rw [addC_out q]
    exact ub.frzs b o2 x (by rw [subC_out q]; exact e)
  · have q := C.out e fun _ _ => cx_tbl
    rw [addC_out q]
    exact ub.tbls b ps (by rw [subC_out q]; exact e)
  · cases z : l a with
    | none => rw [addC_out z]; exact na
    | some o =>
      have e1 := kB a o z
      have e2 : B.get? a = none := fl.2.1
      rw [e1] at e2
      cases e2
end
/-! what a function object's call does -/
abbrev Act := Addr → Hp → VK → XK → Prop
def ActOk (P : Program) (w : World) (K : PySem.W.Frag) (mg : Str → Option Value) (base : Heap) (k : Nat) (act : Act) : Prop :=
  ∀ (f : Addr) (A : Around) (outer : List Env) (s : Shared) (H : Hp) (Q : VK) (E : XK), Room k A → Env0 P w K mg base A outer s H → act f H Q E →
    (∃ fd, H f = some (FunO f fd)) ∧ codeAny (model P w) A (.call (.ref f) ⟨[], []⟩) (CR (L2.CX P w) outer P w H s Q E) s
section
variable {X : Cx} {act : Act} {k i : Nat} {x : Str} {E : L2.St → XK} {p pos : PySem.Pos}
def tAct (act : Act) (i : Nat) (E : L2.St → XK) : TE := fun σ H Q => ∃ f, σ[i]? = some (some (.ref f)) ∧ act f H Q (E σ)
/-- x(), x a name that holds such an object -/
theorem pe_act0 (ha : ActOk X.prog X.w X.K X.mg X.base k act) (hr : Room k X.A) (hx : ∀ σ, PassesAt (L2.CX X.prog X.w) X σ (E σ)) (hN : X.N[i]? = some x) (hv : Vis X.env.scope x) (hd : (x == ("__debug__" : Str)) = false := by decide) (hcd : (x == ("__classdict__" : Str)) = false := by decide) :
    PE X (.Call (.Name x p) [] [] pos) (tAct act i E) := by
  refine ⟨fun pins s σ H Q I h => ?_⟩
  obtain ⟨f, hs, q⟩ := h
  obtain ⟨⟨fd, hf⟩, hc⟩ := ha f X.A X.stack s H Q (E σ) hr I.env0 q
  have hv2 := (pe_var (pos := p) hN hv hd hcd).run pins s σ H (fun v H1 => v = .ref f ∧ H1 = H ∧ act f H Q (E σ)) I ⟨.ref f, hs, rfl, rfl, q⟩
  refine wpAny_Call_Name_kw (thn hv2 fun u s1 ⟨v, H1, I1, r1, ev, eH, q1⟩ => ?_)
  subst ev
  subst eH
  obtain rfl : u = Value.ref f := r1
  obtain ⟨⟨fd, hf⟩, hc⟩ := ha f X.A X.stack s1 H1 Q (E σ) hr I1.env0 q1
  obtain ⟨od, sl, ho⟩ := funO_at I1.hok hf
  refine PySem.W.callWith_F0 (first := []) ⟨_, od, _, sl, ho⟩ ?_
  show wpAny _ _ (call (.ref f) []) _ _ _
  refine wpAny_call (codeAny_mono hc fun r s' hq => ?_)
  match r with
  | .error er => exact hx σ pins H1 s1 er s' I1 hq
  | .ok (.ret u) => exact I1.after hq
  | .ok .next => exact hq.elim
  | .ok .brk => exact hq.elim
  | .ok .cont => exact hq.elim
end
/-! a lambda's call -/
/-- the scope of a lambda whose own names (its parameters) are none of N -/
structure LScope (sc scope : Scope) (N : List Str) : Prop where
  kind : scope.kind = .function
  co : scope.isCoroutine = false
  gen : scope.isGenerator = false
  cell : ∀ y ∈ scope.names, y.2 ≠ .cell
  own : ∀ y ∈ scope.names, y.2 = .local → y.1 ∉ N
  free : ∀ y ∈ scope.names, y.2 = .free → sc.names.lookup y.1 = some .cell ∨ sc.names.lookup y.1 = some .free
theorem LScope.has {X : Cx} {scope : Scope} {N : List Str} (L : LScope X.env.scope scope N) (ok : X.Ok) : ∀ y ∈ scope.names, y.2 = .free → ∃ c, X.env.cells.lookup y.1 = some c := fun y hy e =>
  (L.free y hy e).elim (fun k => ok.has _ (.inl k)) fun k => ok.has _ (.inr k)
abbrev clo (X : Cx) (scope : Scope) : List (Str × Addr) := cloFrom X.env.cells scope.names []
abbrev lfd (X : Cx) (scope : Scope) (params : Arguments) (body : Expr) (c' : Addr) (dV doc pm ctv : Value) : FuncData :=
  PySem.W.kdv_fn "<lambda>" (X.env.qual ++ "<lambda>") params (.expr body) scope (clo X scope) dV doc pm (.ref c') ctv
/-- the objects of l are the captured cells, with what the slots tell -/
structure Held (X : Cx) (scope : Scope) (σ : L2.St) (l : Addr → Option Obj) : Prop where
  all : ∀ y c, (clo X scope).lookup y = some c → ∃ o v, l c = some o ∧ o.data = .cell v
  val : ∀ (i : Nat) (x : Str) (v : V), X.N[i]? = some x → σ[i]? = some (some v) → scope.names.lookup x = some .free → ∃ c o u, (clo X scope).lookup x = some c ∧ l c = some o ∧ o.data = .cell (some u) ∧ RelV v u
section
variable {X : Cx} {scope : Scope} {σ : L2.St} {l : Addr → Option Obj} {params : Arguments} {body : Expr} {f c' : Addr} {dV doc pm ctv : Value} {k : Nat} {binds : List (Str × Value)} {E : XK} {tb : TE}
theorem lam_inv {A : Around} {outer : List Env} {s : Shared} {H : Hp} {h₁ : Heap} {tk : Nat} (ok : X.Ok) (L : LScope X.env.scope scope X.N) (V : Held X scope σ l) (hlen : σ.length = X.N.length) (C : Cin l H) (e0 : Env0 X.prog X.w X.K X.mg X.base A outer s H) (hd : A.handled = none)
    (hns : h₁.Ns s.heap.objs.size fun y => binds.reverse.lookup y) (kp : ∀ b o, s.heap.get? b = some o → h₁.get? b = some o) : Inv (lamCx X A outer s (subC l H) E scope f c') [] σ (subC l H) { s with heap := h₁, toks := tk } := by
  have hfree := L.has ok
  have at_ : ∀ {c o}, l c = some o → s.heap.get? c = some o := fun {c o} e => cellX_at e0.hok (C c o e)
  have hs := hok_sub C e0.hok
  refine {
    ok := {
      mod := e0.mod, kind := L.kind, glob := rfl, blt := rfl, above := Nat.le_refl _
      inj := fun y z c e1 e2 => ok.inj y z c (NdefX.clo_cm hfree e1) (NdefX.clo_cm hfree e2)
      has := fun y hy => ?_
      cab := fun y c z _ => absurd (show false = true from z) (by decide)
      hd := fun _ => hd
      frames := Around.frames_deeper e0.frames
      stk := .inr ⟨rfl, rfl⟩
      exf := fun b z => absurd (show b ∈ ([] : List Addr) from z) (by simp)
      bs := fun b o e => ⟨(e0.bs b o e).1, sub_none (e0.bs b o e).2⟩
      bsz := e0.bsz
      noex := fun b _ _ z => absurd (show b ∈ ([] : List Addr) from z) (by simp)
      exfs := fun b z => absurd (show b ∈ ([] : List Addr) from z) (by simp)
      funs := e0.funs
      frf := fun b hb => sub_none (e0.frf b hb) }
    os := rfl
    bare := e0.bare
    base := Un.kept kp
    loc := ⟨_, hns, fun i y v e1 e2 e3 => ?_⟩
    cell := fun y c e => ?_
    free := hs.fresh (Nat.le_refl _)
    freeC := fun y c e => ?_
    pin := fun q hq => absurd (show q ∈ ([] : List (Addr × Obj)) ++ [] from hq) (by simp)
    hok := hs.kept kp
    len := hlen }
  · have hy : scope.names.lookup y = some .cell ∨ scope.names.lookup y = some .free := hy
    rcases hy with hy | hy
    · exact absurd rfl (L.cell _ (PySem.mem_of_lookup hy))
    · obtain ⟨c, hc⟩ := hfree _ (PySem.mem_of_lookup hy) rfl
      exact ⟨c, NdefX.clo_has hfree (PySem.mem_of_lookup hy) hc⟩
  · have e3 : Vis scope y := e3
    have e1 : X.N[i]? = some y := e1
    rcases e3 with q | q | q
    · exact absurd (List.mem_of_getElem? e1) (L.own _ (PySem.mem_of_lookup q) rfl)
    · exact absurd rfl (L.cell _ (PySem.mem_of_lookup q))
    · obtain ⟨c, o, u, h1, h2, h3, r⟩ := V.val i y v e1 e2 q
      exact ⟨u, r, .inr ⟨.inr q, c, h1, o, kp _ _ (at_ h2), h3⟩⟩
  · obtain ⟨o, v, h1, h2⟩ := V.all y c e
    exact ⟨v, o, kp _ _ (at_ h1), h2⟩
  · obtain ⟨o, v, h1, h2⟩ := V.all y c e
    exact subC_in h1
/-- how its parameters are bound where nothing is passed -/
def BindL (X : Cx) (scope : Scope) (params : Arguments) (body : Expr) (dV : Value) (H : Hp) : Prop := ∀ (P : Program) (w : World) (s : Shared) (c' : Addr) (doc pm ctv : Value), HOk P w H s.heap →
  ∃ binds, BindsTo s (lfd X scope params body c' dV doc pm ctv) ⟨[], []⟩ binds ∧ ∀ y ∈ binds, scope.names.lookup y.1 = some .local
/-- what such an object's call does: the body's reading, over what is tracked but the cells -/
def lact (X : Cx) (scope : Scope) (params : Arguments) (body : Expr) (σ : L2.St) (l : Addr → Option Obj) (tb : XK → TE) : Act := fun f H Q E =>
  ∃ (c' : Addr) (dV doc pm ctv : Value) (H1 : Hp) (Q0 : VK) (E0 : XK), H = addC l H1 ∧ Free l H1 ∧ H1 f = some (FunO f (lfd X scope params body c' dV doc pm ctv)) ∧ H1 c' = some (CodeO c' (X.env.qual ++ "<lambda>")) ∧
    BindL X scope params body dV H ∧ tb E0 σ H1 Q0 ∧ (∀ v H2, Free l H2 → Q0 v H2 → Q v (addC l H2)) ∧ ∀ cls d H2, Free l H2 → E0 cls d H2 → E cls d (addC l H2)
theorem lact_ok {tb : XK → TE} (ok : X.Ok) (L : LScope X.env.scope scope X.N) (V : Held X scope σ l) (hlen : σ.length = X.N.length)
    (hb : ∀ (A : Around) (outer : List Env) (s : Shared) (H : Hp) (E : XK) (f c' : Addr), Room k (A.deeper (lamEnv X scope s.heap.objs.size f c')) → PE (lamCx X A outer s H E scope f c') body (tb E)) :
    ActOk X.prog X.w X.K X.mg X.base (k + 1) (lact X scope params body σ l tb) := by
  intro f A outer s H Q E hr e0 h
  obtain ⟨c', dV, doc, pm, ctv, H1, Q0, E0, rfl, F, hf, hc, hbind, q, hQ, hE⟩ := h
  have hf2 : addC l H1 f = some (FunO f (lfd X scope params body c' dV doc pm ctv)) := by rw [addC_out (F.out hf)]; exact hf
  have hc2 : addC l H1 c' = some (CodeO c' (X.env.qual ++ "<lambda>")) := by rw [addC_out (F.out hc)]; exact hc
  refine ⟨⟨_, hf2⟩, ?_⟩
  obtain ⟨od, sl, ho⟩ := funO_at e0.hok hf2
  have C : Cin l (addC l H1) := cin_add
  have es : subC l (addC l H1) = H1 := sub_add F
  obtain ⟨binds, hbi, hloc⟩ := hbind _ _ s c' doc pm ctv e0.hok
  refine PySem.W.kla_callFunE hr.depth ho rfl L.co L.gen rfl (NdefX.codeO_at e0.hok hc2) (hbi _ _ _ _ ?_)
  refine wpAny_newFunctionEnv L.cell hloc (fun h₁ hns hsb => ⟨((e0.mod.nolimit).keeps fun b o e => (e0.bs b o e).1).fresh _ hsb, ?_⟩) L.kind
  show codeAny _ _ (.expr body (lamEnv X scope s.heap.objs.size f c')) _ _
  have kp : ∀ b o, s.heap.get? b = some o → h₁.get? b = some o := fun b o e => hsb.extBut b o (Nat.ne_of_lt (Heap.lt_size e)) (Heap.get?_push_of_some _ e)
  have I := lam_inv (E := E0) (f := f) (c' := c') (tk := s.toks + binds.length) ok L V hlen C e0 hr.hd hns kp
  rw [es] at I
  have nfr : ∀ b ∈ frs outer, addC l H1 b = none := e0.frf
  have cx : ∀ {e : Value} {s3 : Shared}, L2.CX X.prog X.w outer H1 s E0 e s3 → L2.CX X.prog X.w outer (addC l H1) s E e s3 := fun {e s3} hx => by
    refine cx_add C e0.hok nfr ?_
    rw [es]
    obtain ⟨a, B, H', cls, d, x1, x2, x3, x4, x5, x6, x7, x8⟩ := hx
    exact ⟨a, B, H', cls, d, x1, x2, x3, x4, x5, x6, x7, fun F' => hE cls d H' F' x8⟩
  refine PySem.W.kla_codeExpr (wpAny_mono ((hb A outer s H1 E0 f c' (hr.deeper _)).run [] _ σ H1 Q0 I q) (fun u s2 hq => ?_) fun e s2 he => wpAny_mono he (fun _ _ hx => cx hx) fun _ _ hx => cx hx)
  obtain ⟨v, H2, I2, r, q2⟩ := hq
  have F2 : Free l H2 := fun b o e => I2.base.free b o (cellX_at e0.hok (C b o e)) (F b o e) (by intro z; cases z)
  have un : Un (frs outer) [] (subC l (addC l H1)) H2 s.heap s2.heap := by rw [es]; exact I2.base
  refine ⟨v, addC l H2, I2.os, I2.bare, un_add C F2 un, hok_add F2 I2.hok fun b o e => ?_, r, hQ v H2 F2 q2⟩
  refine I2.base.keep b o (cellX_at e0.hok (C b o e)) (F b o e) (fun z => ?_) (by intro z; cases z)
  have := nfr b z
  rw [C b o e] at this
  cases this
end
end CS
set_option Elab.async false
set_option maxRecDepth 100000
set_option maxHeartbeats 4000000
set_option linter.unusedVariables false
namespace CS
open PySem PySem.Spec PyProof.Rows L2 LamX
/-! the making of such an object; a def that is handed it -/
theorem funO_ok {P : Program} {w : World} {H : Hp} {h : Heap} {f : Addr} {fd : FuncData} {od : Option Addr} {sl : Array (Option Value)} (e : h.get? f = some (⟨.type "function", od, .func fd, sl⟩ : Obj)) : ObjOk P w H h f (FunO f fd) :=
  ⟨⟨od, sl, e⟩, ⟨_, e⟩, fun _ _ ⟨a, b, z⟩ k => ⟨a, b, k _ z⟩⟩
/-- one more code object of the name q in the table -/
theorem tabs_more {T : List (Addr × Str)} {H : Hp} {P c' : Addr} {q : Str} {ps : Array Value} {pos : PySem.Pos} (hT : Tabs T H) (hP : H P = some (.tbl ps)) (ht : TriplesOk ps.toList) (hn : H c' = none) (hu : ∀ p ∈ T, p.1 = P → p.2 = q) :
    Tabs T (upd (upd H P (.tbl (ps ++ #[rawInt pos.line, rawInt pos.col, .ref c']))) c' (CodeO c' q)) := by
  have nP : P ≠ c' := ne_of_none hP hn
  rintro ⟨B, z⟩ hp
  obtain ⟨bs, b1, b2, b3⟩ := hT _ hp
  have nB : B ≠ c' := ne_of_none b1 hn
  have old : ∀ c, H c = some (CodeO c z) → upd (upd H P (.tbl (ps ++ #[rawInt pos.line, rawInt pos.col, .ref c']))) c' (CodeO c' q) c = some (CodeO c z) := fun c hc => by
    rw [upd_ne (ne_of_none hc hn), upd_ne (fun y => by rw [y, hP] at hc; exact codeO_ne _ (Option.some.inj hc).symm)]
    exact hc
  by_cases e : B = P
  · subst e
    obtain rfl : z = q := hu _ hp rfl
    rw [show H B = _ from b1] at hP
    cases hP
    refine ⟨_, by show upd _ _ _ B = _; rw [upd_ne nB, upd_same], ?_, fun p2 cv hcv => ?_⟩
    · rw [Array.toList_append]
      exact PySem.TriplesOk_snoc _ _ _ _ b2
    · rw [Array.toList_append] at hcv
      rcases among_app _ b2 hcv with y | y
      · obtain ⟨c, rfl, hc⟩ := b3 p2 cv y
        exact ⟨c, rfl, old c hc⟩
      · exact ⟨c', y, upd_same⟩
  · refine ⟨bs, by show upd _ _ _ B = _; rw [upd_ne nB, upd_ne e]; exact b1, b2, fun p2 cv hcv => ?_⟩
    obtain ⟨c, rfl, hc⟩ := b3 p2 cv hcv
    exact ⟨c, rfl, old c hc⟩
section
variable {X : Cx} {pins : List (Addr × Obj)} {σ : L2.St} {H : Hp} {s : Shared} {scope : Scope} {params : Arguments} {body : Expr}
/-- the object alone is new -/
theorem fun_new {c' : Addr} {dV doc pm ctv : Value} {tk : Nat} (I : Inv X pins σ H s) : Inv X pins σ (upd H s.heap.objs.size (FunO s.heap.objs.size (lfd X scope params body c' dV doc pm ctv))) { s with heap := s.heap.push (PySem.W.kdv_obj "<lambda>" (X.env.qual ++ "<lambda>") params (.expr body) scope (clo X scope) dV doc pm c' ctv), toks := tk } :=
  I.laid (fun b u e => Heap.get?_push_of_some _ e) (Nat.le_refl _) (funO_ok (Heap.get?_push_size _ rfl))
/-- what is known behind the making -/
def Made (X : Cx) (scope : Scope) (params : Arguments) (body : Expr) (T : List (Addr × Str)) (H : Hp) (dV : Value) (f : Addr) (H1 : Hp) : Prop :=
  ExtN H H1 ∧ Tabs T H1 ∧ H f = none ∧ ∃ (c' : Addr) (doc pm ctv : Value), H1 f = some (FunO f (lfd X scope params body c' dV doc pm ctv)) ∧ H1 c' = some (CodeO c' (X.env.qual ++ "<lambda>"))
theorem lam_made {T : List (Addr × Str)} {c P : Addr} {pos : PySem.Pos} {dV : Value} {E : Value → Shared → Prop} {Q : Value → Shared → Prop} (I : Inv X pins σ H s) (TB : TabB X.base X.mg c P) (hcode : X.env.code = .ref c) (hm : (P, X.env.qual ++ "<lambda>") ∈ T)
    (hu : ∀ p ∈ T, p.1 = P → p.2 = X.env.qual ++ "<lambda>") (hT : Tabs T H) (hfree : ∀ y ∈ scope.names, y.2 = .free → ∃ c, X.env.cells.lookup y.1 = some c) (h : ∀ f H1 s', Inv X pins σ H1 s' → Made X scope params body T H dV f H1 → Q (.ref f) s') :
    wpAny (model X.prog X.w) X.A (makeTail "<lambda>" (X.env.qual ++ "<lambda>") params (.expr body) scope X.env dV .none none pos pos.line) Q E s := by
  obtain ⟨ps, hP, ht, ha⟩ := hT _ hm
  have gP : s.heap.get? P = some (PySem.W.tabObj ps) := I.hok P _ hP
  cases hc : codeAmong pos ps.toList with
  | some cv =>
    obtain ⟨c', rfl, hc'⟩ := ha pos cv hc
    refine PySem.W.kdv_makeTailHit (closure_ok hfree) I.ok.glob (I.mod.glob.keeps I.bk) hcode (TB.code.keeps I.bk) gP ht hc (TB.bm.keeps I.bk) fun ctv doc h' tk hx hge => ?_
    have I1 : Inv X pins σ H { s with heap := h', toks := tk } := I.kept hx
    have n1 : H h'.objs.size = none := I1.hok.fresh (Nat.le_refl _)
    refine h _ _ _ (fun_new (c' := c') (tk := tk) I1) ⟨fun b o e _ => by rw [upd_ne (ne_of_none e n1)]; exact e, hT.ext fun b o e => by rw [upd_ne (ne_of_none e n1)]; exact e, n1, c', doc, _, ctv, upd_same, by rw [upd_ne (ne_of_none hc' n1)]; exact hc'⟩
  | none =>
    refine PySem.W.kdv_makeTail (closure_ok hfree) I.ok.glob (I.mod.glob.keeps I.bk) hcode (TB.code.keeps I.bk) gP ht hc TB.gP (TB.bm.keeps I.bk) fun c' ctv doc h' tk hx hge _ hrec htb => ?_
    obtain ⟨c2, oc, vs, t, e2, r1, r2, r3⟩ := hrec
    cases e2
    have nC : H c' = none := I.hok.fresh hge
    have I1 := inv_table (t' := tk) I hP (fun b o hb e => hx b o hb e) htb hge ⟨oc, vs, t, r1, r2, r3⟩
    have n1 := I1.hok.fresh (a := h'.objs.size) (Nat.le_refl _)
    have T1 := tabs_more (pos := pos) hT hP ht nC hu
    have X1 : ExtN H (upd (upd H P (.tbl (ps ++ #[rawInt pos.line, rawInt pos.col, .ref c']))) c' (CodeO c' (X.env.qual ++ "<lambda>"))) := fun b o e n => by
      rw [upd_ne (ne_of_none e nC), upd_ne (fun y => by rw [y, hP] at e; cases e; exact n _ rfl)]
      exact e
    have hc' : upd (upd H P (.tbl (ps ++ #[rawInt pos.line, rawInt pos.col, .ref c']))) c' (CodeO c' (X.env.qual ++ "<lambda>")) c' = some (CodeO c' (X.env.qual ++ "<lambda>")) := upd_same
    have nH : H h'.objs.size = none := by
      by_cases y : h'.objs.size = c'
      · rw [y]; exact nC
      · by_cases y2 : h'.objs.size = P
        · rw [y2, upd_ne (ne_of_none hP nC), upd_same] at n1
          cases n1
        · rw [upd_ne y, upd_ne y2] at n1
          exact n1
    generalize upd (upd H P (.tbl (ps ++ #[rawInt pos.line, rawInt pos.col, .ref c']))) c' (CodeO c' (X.env.qual ++ "<lambda>")) = H2 at *
    refine h _ _ _ (fun_new (c' := c') (tk := tk) I1) ⟨X1.trans fun b o e _ => by rw [upd_ne (ne_of_none e n1)]; exact e, T1.ext fun b o e => by rw [upd_ne (ne_of_none e n1)]; exact e, nH, c', doc, _, ctv, upd_same, by rw [upd_ne (ne_of_none hc' n1)]; exact hc'⟩
/-- lambda: body -/
def tLamV (X : Cx) (scope : Scope) (params : Arguments) (body : Expr) (T : List (Addr × Str)) : TE := fun _ H Q => Tabs T H ∧ ∀ f H1 dV, Made X scope params body T H dV f H1 → BindL X scope params body dV H1 → Q (.ref f) H1
theorem Made.of_ext {T : List (Addr × Str)} {H0 H1 : Hp} {dV : Value} {f : Addr} (e : ∀ b o, H b = some o → H0 b = some o) (n : ∀ b, H0 b = none → H b = none) (m : Made X scope params body T H0 dV f H1) : Made X scope params body T H dV f H1 :=
  ⟨(ExtN.of e).trans m.1, m.2.1, n _ m.2.2.1, m.2.2.2⟩
theorem pe_lam0 {T : List (Addr × Str)} {c P : Addr} {pos : PySem.Pos} (TB : TabB X.base X.mg c P) (hcode : X.env.code = .ref c) (hm : (P, X.env.qual ++ "<lambda>") ∈ T)
    (hu : ∀ p ∈ T, p.1 = P → p.2 = X.env.qual ++ "<lambda>") (L : LScope X.env.scope scope X.N) (hp : params = ⟨[], [], none, [], [], none, []⟩) : PE X (.Lambda params body scope pos) (tLamV X scope params body T) := by
  subst hp
  refine ⟨fun pins s σ H Q I ⟨hT, h⟩ => ?_⟩
  refine PySem.W.kla_eval rfl ?_
  rw [makeFunction_eq]
  simp only [List.zip_nil_right, List.filterMap_nil, List.isEmpty_nil, if_true, pure_bind]
  refine lam_made I TB hcode hm hu hT (L.has I.ok) fun f H1 s' I1 m => ⟨.ref f, H1, I1, rfl, h f H1 .none m fun P w s c' doc pm ctv _ => ⟨[], .of_eq rfl, fun _ z => nomatch z⟩⟩
theorem pe_lam1 {T : List (Addr × Str)} {c P : Addr} {pos p1 p2 : PySem.Pos} {x : Str} {i : Int} {j : Nat} (TB : TabB X.base X.mg c P) (hcode : X.env.code = .ref c) (hm : (P, X.env.qual ++ "<lambda>") ∈ T)
    (hu : ∀ p ∈ T, p.1 = P → p.2 = X.env.qual ++ "<lambda>") (L : LScope X.env.scope scope X.N) (hx : scope.names.lookup x = some .local) (hp : params = ⟨[], [⟨x, none, p1⟩], none, [], [], none, [.Constant (.int i) j p2]⟩) : PE X (.Lambda params body scope pos) (tLamV X scope params body T) := by
  subst hp
  refine ⟨fun pins s σ H Q I ⟨hT, h⟩ => ?_⟩
  refine PySem.W.kdv_lam rfl rfl (evalAll_cons ?_)
  have h0 := (pe_int (X := X) (i := i) (j := j) (pos := p2)).run pins s σ H (fun v H1 => v = .int i ∧ H1 = H) I ⟨rfl, rfl⟩
  refine thn h0 fun u s1 ⟨v, H1, I1, r, ev, eH⟩ => ?_
  subst ev
  subst eH
  obtain ⟨t, rfl⟩ := r
  refine evalAll_nil ?_
  rw [makeFunction_eq]
  simp only [List.zip_nil_right, List.filterMap_nil, List.isEmpty_nil, if_true, pure_bind, List.isEmpty_cons, Bool.false_eq_true, if_false]
  refine wpAny_bind (wpAny_newTextTuple ?_)
  have nd : H1 s1.heap.objs.size = none := I1.hok.fresh (Nat.le_refl _)
  have I2 : Inv X pins σ (upd H1 s1.heap.objs.size (.tup [.int i])) { s1 with heap := s1.heap.push { cls := .type "tuple", data := .seq [Value.int i t].toArray } } :=
    I1.laid (t' := s1.toks) (fun b u e => Heap.get?_push_of_some _ e) (Nat.le_refl _) ⟨by show 1 ≤ sizeLine; decide, [Value.int i t], .cons ⟨t, rfl⟩ .nil, ⟨_, Heap.get?_push_size _ rfl, rfl, _, rfl⟩⟩
  have e2 : ∀ b o, H1 b = some o → upd H1 s1.heap.objs.size (.tup [.int i]) b = some o := fun b o e => by
    rw [upd_ne (ne_of_none e nd)]
    exact e
  have hT2 := hT.ext e2
  have ht : upd H1 s1.heap.objs.size (.tup [.int i]) s1.heap.objs.size = some (.tup [.int i]) := upd_same
  have n2 : ∀ b, upd H1 s1.heap.objs.size (.tup [.int i]) b = none → H1 b = none := fun b z => NdefX.upd_none z
  generalize upd H1 s1.heap.objs.size (.tup [.int i]) = H2 at *
  refine lam_made I2 TB hcode hm hu hT2 (L.has I2.ok) fun f H3 s' I3 m => ⟨.ref f, H3, I3, rfl, h f H3 _ (m.of_ext e2 n2) fun P w s c' doc pm ctv ok => ?_⟩
  have ht3 : H3 s1.heap.objs.size = some (.tup [.int i]) := m.1 _ _ ht fun _ z => by cases z
  obtain ⟨_, its, vs, o, h1, h2, n, h3⟩ := (show ObjOk P w H3 s.heap s1.heap.objs.size (.tup [.int i]) from ok _ _ ht3)
  cases vs with
  | @cons _ u _ ur ra rw' =>
    cases rw'
    exact ⟨[(x, u)], .of_defaults rfl h1 h3 rfl (by simp), fun y hy => by
      rw [List.mem_singleton.mp hy]
      exact hx⟩
end
section
variable {X : Cx} {scope : Scope} {params : Arguments} {body : Expr} {k : Nat}
/-- the captured cells' objects, now -/
def heldNow (X : Cx) (scope : Scope) (h : Heap) : Addr → Option Obj := fun c => if (clo X scope).any (fun p => decide (p.2 = c)) then h.get? c else none
theorem held_mem {h : Heap} {c : Addr} {o : Obj} (e : heldNow X scope h c = some o) : (∃ y, (y, c) ∈ clo X scope) ∧ h.get? c = some o := by
  unfold heldNow at e
  split at e
  · rename_i q
    obtain ⟨⟨y, c2⟩, hp, z⟩ := List.any_eq_true.mp q
    exact ⟨⟨y, of_decide_eq_true z ▸ hp⟩, e⟩
  · cases e
theorem held_in {h : Heap} {y : Str} {c : Addr} (e : (clo X scope).lookup y = some c) : heldNow X scope h c = h.get? c := by
  unfold heldNow
  rw [if_pos (List.any_eq_true.mpr ⟨(y, c), PySem.mem_of_lookup e, decide_eq_true rfl⟩)]
theorem clo_mem (L : LScope X.env.scope scope X.N) (ok : X.Ok) {y : Str} {c : Addr} (e : (y, c) ∈ clo X scope) : X.env.cells.lookup y = some c := by
  rcases cloFrom_mem e with hm | ⟨h1, h2⟩
  · cases hm
  · obtain ⟨c1, hc⟩ := L.has ok _ h1 rfl
    have hc : X.env.cells.lookup y = some c1 := hc
    rw [h2, hc]
    rfl
theorem held_of {pins : List (Addr × Obj)} {σ : L2.St} {H : Hp} {s : Shared} (L : LScope X.env.scope scope X.N) (I : Inv X pins σ H s) : Held X scope σ (heldNow X scope s.heap) ∧ Free (heldNow X scope s.heap) H := by
  have hfree := L.has I.ok
  refine ⟨⟨fun y c e => ?_, fun i x v e1 e2 e3 => ?_⟩, fun c o e => ?_⟩
  · obtain ⟨v, o, ho, hd⟩ := I.cell y c (NdefX.clo_cm hfree e)
    exact ⟨o, v, by rw [held_in e]; exact ho, hd⟩
  · obtain ⟨m, hn, hl⟩ := I.loc
    have hm := PySem.mem_of_lookup e3
    have hvis : Vis X.env.scope x := (L.free _ hm rfl).elim (fun k => .inr (.inl k)) fun k => .inr (.inr k)
    obtain ⟨u, r, lo⟩ := hl i x v e1 e2 hvis
    rcases lo with ⟨k, _⟩ | ⟨_, c, ec, o, ho, hd⟩
    · rcases L.free _ hm rfl with k2 | k2 <;> (rw [show X.env.kindOf x = _ from k2] at k; cases k)
    · have e4 := NdefX.clo_has hfree hm ec
      exact ⟨c, o, u, e4, by rw [held_in e4]; exact ho, hd, r⟩
  · obtain ⟨⟨y, hy⟩, _⟩ := held_mem e
    exact I.freeC y c (clo_mem L I.ok hy)
/-- what a def makes of the exceptions of what it is handed, is the same with cells tracked -/
def Nat1 (Wx : Value → Option Addr → Hp → VK → Prop) : Prop := ∀ (l : Addr → Option Obj) (cls : Value) (d : Option Addr) (H : Hp) (Q : VK), Free l H → Wx cls d H Q → Wx cls d (addC l H) (fun v H2 => Cin l H2 ∧ Q v (subC l H2))
/-- the promise of a def that calls what it is handed, gives out what that gives, and makes Wx of its exceptions -/
def spGive (Wx : Value → Option Addr → Hp → VK → Prop) (act : Act) : Sp := fun vs H Q _ => ∃ f, vs = [.ref f] ∧ act f H Q (fun cls d H' => Wx cls d H' Q)
/-- x(lambda: body) -/
theorem pe_give {Wx : Value → Option Addr → Hp → VK → Prop} {T : List (Addr × Str)} {x a : Str} {g : Addr} {fd : FuncData} {j : Nat} {tb : XK → TE} {p lpos pos : PySem.Pos} (nat : Nat1 Wx)
    (G : ∀ act, ActOk X.prog X.w X.K X.mg X.base (k + 1) act → FnOk X.prog X.w X.K X.mg X.base CX0 j g fd [a] (spGive Wx act)) (hr : Room j X.A) (hg : Gl X x) (hm : X.mg x = some (.ref g)) (hk : PySem.W.keepIn X.K (.ref g) = true) (hb : Binds X.K fd [a] [])
    (hfn : ∀ y, X.fn y = true) (L : LScope X.env.scope scope X.N) (he : PE X (.Lambda params body scope lpos) (tLamV X scope params body T))
    (hbody : ∀ (A : Around) (outer : List Env) (s : Shared) (H : Hp) (E : XK) (f c' : Addr), Room k (A.deeper (lamEnv X scope s.heap.objs.size f c')) → PE (lamCx X A outer s H E scope f c') body (tb E)) (hdb : (x == ("__debug__" : Str)) = false := by decide) :
    PE X (.Call (.Name x p) [.Lambda params body scope lpos] [] pos) (fun σ H Q => Tabs T H ∧ ∀ H1, ExtN H H1 → Tabs T H1 → tb (fun cls d H2 => Wx cls d H2 Q) σ H1 Q) := by
  refine ⟨fun pins s σ H Q I ⟨hT, h⟩ => ?_⟩
  refine wpAny_Call_Name_kw (ld_glob I hg hm ?_ hdb)
  refine PySem.W.callWith_K (h₀ := X.base) I.ok.mod.kin hk (thn ((pa_cons he pa_nil).run pos pins s σ H (fun vs H1 => ∃ f dV, vs = [.ref f] ∧ Made X scope params body T H dV f H1 ∧ BindL X scope params body dV H1) I ⟨hT, fun f H1 dV m b => ⟨f, dV, rfl, m, b⟩⟩) fun us s1 ⟨vs, H1, I1, r, f, dV, ev, m, bl⟩ => ⟨I1.kIn, ?_⟩) rfl rfl
  subst ev
  obtain ⟨V, F⟩ := held_of L I1
  obtain ⟨x1, t1, nf, c', doc, pm, ctv, hf, hc⟩ := m
  have q := h H1 x1 t1
  have hh : ∀ b o, heldNow X scope s1.heap b = some o → s1.heap.get? b = some o := fun b o e => (held_mem e).2
  have cell_hi : ∀ b o, heldNow X scope s1.heap b = some o → X.s_0.heap.objs.size ≤ b := fun b o e => by
    obtain ⟨⟨y, hy⟩, _⟩ := held_mem e
    exact I.ok.cab y b (hfn y) (clo_mem L I.ok hy)
  have cell_ne : ∀ b o, heldNow X scope s1.heap b = some o → b ≠ X.env.locals := fun b o e => by
    obtain ⟨⟨y, hy⟩, _⟩ := held_mem e
    exact I1.cne y b (clo_mem L I.ok hy)
  have okA := hok_add F I1.hok hh
  generalize heldNow X scope s1.heap = l at *
  have A := lact_ok (params := params) (body := body) I.ok L V I1.len hbody
  have e0 := I1.env0
  have none_of : ∀ b, H1 b = none → l b = none → addC l H1 b = none := fun b n e => by rw [addC_out e]; exact n
  have lbase : ∀ b o, X.base.get? b = some o → l b = none := fun b o e => by
    cases z : l b with
    | none => rfl
    | some o2 => exact absurd (Nat.lt_of_lt_of_le (Heap.lt_size e) I.ok.bsz) (Nat.not_lt.mpr (cell_hi b o2 z))
  have lfr : ∀ b ∈ frs X.stack, l b = none := fun b hb => by
    cases z : l b with
    | none => rfl
    | some o2 =>
      rcases List.mem_cons.mp (I1.stkSub b hb) with y | y
      · exact absurd y (cell_ne b o2 z)
      · obtain ⟨_, ob, hob, _⟩ := I1.ok.funs.mem y
        exact absurd (Heap.lt_size hob) (Nat.not_lt.mpr (cell_hi b o2 z))
  have e1 : Env0 X.prog X.w X.K X.mg X.base X.A X.stack s1 (addC l H1) := ⟨e0.frames, e0.mod, fun b o e => ⟨(e0.bs b o e).1, none_of b (e0.bs b o e).2 (lbase b o e)⟩, e0.bsz, e0.funs, fun b hb => none_of b (e0.frf b hb) (lfr b hb), okA, e0.bare⟩
  have hsp : spGive Wx (lact X scope params body σ l tb) [.ref f] (addC l H1) (fun v H2 => Cin l H2 ∧ Q v (subC l H2)) (fun _ _ _ => False) := by
    refine ⟨f, rfl, c', dV, doc, pm, ctv, H1, Q, _, rfl, F, hf, hc, fun P w s c' doc pm ctv ok => ?_, q, fun v H2 F2 q2 => ⟨cin_add, by rw [sub_add F2]; exact q2⟩, fun cls d H2 F2 q2 => nat l cls d H2 Q F2 q2⟩
    have := hok_sub (l := l) cin_add ok
    rw [sub_add F] at this
    exact bl P w s c' doc pm ctv this
  refine wpAny_call (codeAny_mono ((G _ A).run X.A X.stack s1 (addC l H1) ⟨us, []⟩ (us ++ []) [.ref f] _ _ hr e1 (hb s1 us I1.kIn (by rw [List.append_nil, ← r.length]; rfl)) (by rw [List.append_nil]; exact r) hsp) fun r s' hq => ?_)
  match r with
  | .error er => exact hq.elim
  | .ok (.ret u) =>
    obtain ⟨v, H2, os, bare, un, hok, r2, C2, q2⟩ := hq
    exact ⟨v, subC l H2, I1.call' (ch := []) os (un_sub F C2 hok hh un) (hok_sub C2 hok) bare (fun b z => absurd z (by simp)), r2, q2⟩
  | .ok .next => exact hq.elim
  | .ok .brk => exact hq.elim
  | .ok .cont => exact hq.elim
end
end CS
set_option Elab.async false
set_option maxRecDepth 100000
set_option maxHeartbeats 4000000
set_option linter.unusedVariables false
/-! An exception class of the program's own over any built-in one, whose __init__ stores its one argument. -/
namespace CS
open PySem PySem.Spec PyProof.Rows L2
/-- what the written part says of it: x its name, f the field, bmB the built-in classes above -/
structure OwnX (K : PySem.W.Frag) (mg : Str → Option Value) (x f : Str) (C fI : Addr) (bmB : List Value) (newId : String) : Prop where
  gC : mg x = some (.ref C)
  ini : PySem.W.excInitIn K C bmB newId = true
  ovr : PySem.W.excOver K C bmB = true
  sa : PySem.W.findIn K (.ref C) "__setattr__" = some (some (.builtin "object.__setattr__"))
  tk : PySem.W.takerIn K C f = some none
  xf : XfC K C
  noF : PySem.W.findIn K (.ref C) f = some none
  iC : PySem.W.findIn K (.ref C) "__init__" = some (some (.ref fI))
  tI : PySem.W.typeIn K (.ref fI) = some (.type "function")
  kC : PySem.W.keepIn K (.ref C) = true
  tyC : PySem.W.typeIn K (.ref C) = some (.type "type")
section
variable {X : Cx} {pins : List (Addr × Obj)} {σ : L2.St} {H : Hp} {s : Shared} {a C fI : Addr} {x f : Str} {y : V} {u : Value} {bmB : List Value} {B newId initId : String}
/-- what the store leaves -/
def Stored (H : Hp) (a C : Addr) (f : Str) (y : V) (dx : Addr) (H' : Hp) : Prop := H dx = none ∧ dx ≠ a ∧ H' a = some (exo a C (some dx)) ∧ H' dx = some (exd dx [(f, y)]) ∧ ∀ b, b ≠ a → b ≠ dx → H' b = H b
theorem put_new {A : Around} {Q : Unit → Shared → Prop} {E : Value → Shared → Prop} (SF : StoreFacts B bmB "object.__setattr__" "object") (T : OwnX X.K X.mg x f C fI bmB newId) (I : Inv X pins σ H s) (e : H a = some (exo a C none)) (ry : RelV y u)
    (h : ∀ dx H' s', Stored H a C f y dx H' → Inv X pins σ H' s' → Q () s') : wpAny (model X.prog X.w) A (setAttr (.ref a) f u) Q E s := by
  obtain ⟨t1, ho⟩ := exo_at I.hok e
  obtain ⟨hp, g, d, t, os⟩ := s
  have hnd : H hp.objs.size = none := I.hok.fresh (Nat.le_refl _)
  have lt : a < hp.objs.size := Heap.lt_size ho
  have dne : hp.objs.size ≠ a := Nat.ne_of_gt lt
  obtain ⟨cd, hc, hd⟩ := PySem.W.any_some T.xf.hdC
  refine PySem.W.set_plain I.kIn (od := none) ⟨ho, rfl, rfl, trivial⟩ T.sa ?_
  refine PySem.W.osa_openX SF I.kIn (od := none) ⟨ho, rfl, rfl, trivial⟩ T.ovr T.tk fun b => ?_
  refine wpAny_bind (wpAny_pure (wpAny_bind (PySem.W.instanceDict_exc ho (PySem.W.looks_clsIn I.kIn hc) hd ?_)))
  have e1 : (hp.push (PySem.W.dictOf [] 0)).get? hp.objs.size = some (PySem.W.dictOf [] 0) := Heap.get?_push_size _ rfl
  have n1 : (hp.push (PySem.W.dictOf [] 0)).Ns hp.objs.size (fun _ => none) := ⟨_, _, _, e1, rfl, fun q hq => absurd hq (by simp), fun _ => rfl⟩
  have I1 : Inv X pins σ (upd H hp.objs.size (exd hp.objs.size [])) ⟨hp.push (PySem.W.dictOf [] 0), g, d, t, os⟩ := I.laid (fun b o q => Heap.get?_push_of_some _ q) (Nat.le_refl _) (exd_ok (Heap.Ns1.of_empty n1) fun _ => True.intro)
  have ea : upd H hp.objs.size (exd hp.objs.size []) a = some (exo a C none) := by rw [upd_ne (Ne.symm dne)]; exact e
  have ho1 := Heap.get?_push_of_some (PySem.W.dictOf [] 0) ho
  have ho2 := Heap.get?_update_self (fun o : Obj => { o with dict := some hp.objs.size }) ho1 rfl
  have I2 := I1.write (x := a) (e := a) (o := exo a C (some hp.objs.size)) (t' := t) (h' := (hp.push (PySem.W.dictOf [] 0)).update a fun o => { o with dict := some hp.objs.size }) (by rw [ea]; exact True.intro) (.inl rfl)
    (fun b o hb q => by rw [Heap.get?_update_other _ _ (Ne.symm hb)]; exact q) ⟨_, ho2⟩ (exo_ok ho2)
  have n2 : ((hp.push (PySem.W.dictOf [] 0)).update a fun o => { o with dict := some hp.objs.size }).Ns hp.objs.size (fun _ => none) :=
    ⟨_, _, _, by rw [Heap.get?_update_other _ _ (Ne.symm dne)]; exact e1, rfl, fun q hq => absurd hq (by simp), fun _ => rfl⟩
  have ed : upd (upd H hp.objs.size (exd hp.objs.size [])) a (exo a C (some hp.objs.size)) hp.objs.size = some (exd hp.objs.size []) := by rw [upd_ne dne, upd_same]
  show wpAny _ _ (Builtin.ObjectAttr.storeInDict hp.objs.size _ f u) _ _ _
  refine PySem.HandSPX.store_in_new n2 fun h3 tk3 hn3 hs3 => ?_
  obtain ⟨o3, es3, ep3, q3, r3⟩ := id hn3
  have I3 := I2.write (x := hp.objs.size) (e := hp.objs.size) (o := exd hp.objs.size [(f, y)]) (t' := tk3) (h' := h3) (by rw [ed]; exact True.intro) (.inl rfl) (fun b o hb q => (hs3.2 b hb).trans q) ⟨_, q3⟩
    (exd_ok hn3 (relO_put (fs := []) ry fun g => True.intro))
  exact h _ _ _ ⟨hnd, dne, by rw [upd_ne (Ne.symm dne), upd_same], upd_same, fun b h1 h2 => by rw [upd_ne h2, upd_ne h1, upd_ne h2]⟩ I3
/-- self.f = e, self an exception that has no field yet -/
def tPut (C : Addr) (f : Str) (to te : TE) : TS := fun D σ H => te σ H fun y H1 => to σ H1 fun x H2 => ∃ a, x = .ref a ∧ H2 a = some (exo a C none) ∧ ∀ dx H', Stored H2 a C f y dx H' → D.nx σ H'
theorem ps_put {o e : Expr} {to te : TE} {p' pos : PySem.Pos} (SF : StoreFacts B bmB "object.__setattr__" "object") (T : OwnX X.K X.mg x f C fI bmB newId) (ho : PE X o to) (he : PE X e te) (hs : swapsWith e (some (.Attribute o f p')) pos.line X.env = pure false := by rfl) : PS X (.Assign [.Attribute o f p'] e pos) (tPut C f to te) := by
  refine ⟨fun pins s σ H D I h => plainObj_wpAny_Assign_Attribute (thn (he.run pins s σ H _ I h) fun v s1 ⟨y, H1, I1, r1, q1⟩ => thn (ho.run pins s1 σ H1 _ I1 q1) fun w2 s2 ⟨z, H2, I2, r2, a, ez, ea, q⟩ => ?_) hs⟩
  subst ez
  obtain rfl : w2 = Value.ref a := r2
  exact put_new SF T I2 ea r1 fun dx H' s' st J => ⟨σ, H', J, q dx H' st⟩
/-- the promise of such an __init__ -/
def spPut (C : Addr) (f : Str) : Sp := fun vs H Q _ => ∃ a y, vs = [.ref a, y] ∧ H a = some (exo a C none) ∧ ∀ dx H', Stored H a C f y dx H' → Q .non H'
theorem ok_put {P : Program} {w : World} {K : PySem.W.Frag} {mg : Str → Option Value} {base : Heap} {st : Stmt} {qual : Str} {fd : FuncData} {p1 p2 p3 p4 : PySem.Pos} (SF : StoreFacts B bmB "object.__setattr__" "object") (T : OwnX K mg x f C fI bmB newId)
    (F : Fun K "__init__" qual st fI fd) (S : FnScope ["self", f] ["self", f] (defScope st)) (hb : defBody st = [.Assign [.Attribute (.Name "self" p1) f p2] (.Name f p3) p4]) (hf : (defScope st).names.lookup f = some .local) (hs : (defScope st).names.lookup ("self" : Str) = some .local)
    (hd : (f == ("__debug__" : Str)) = false) (hcd : (f == ("__classdict__" : Str)) = false) (hsw : ∀ env : Env, swapsWith (.Name f p3) (some (.Attribute (.Name "self" p1) f p2)) p4.line env = pure false) : FnOk P w K mg base CX0 1 fI fd ["self", f] (spPut C f) := by
  refine F.ok S (fun vs H Q E h => ?_) (fun cdv A outer s H vs Q E hr h => ?_)
  · obtain ⟨a, y, rfl, _⟩ := h
    rfl
  · obtain ⟨a, y, rfl, ea, k⟩ := h
    rw [hb]
    refine ⟨_, pss_one (ps_put SF T (pe_var (i := 0) rfl (.inl hs) (by decide) (by decide)) (pe_var (i := 1) rfl (.inl hf) hd hcd) (hsw _)), ?_⟩
    exact ⟨_, rfl, _, rfl, a, rfl, ea, fun dx H' st => k dx H' st⟩
/-- C(e) as an exception that is raised -/
def tMkX (C : Addr) (f : Str) (ta : TA) : L2.St → Hp → XK → Prop := fun σ H Q => ta σ H fun vs H1 => ∃ v, vs = [v] ∧ ∀ d, H1 d = none → Q (.ref C) (some d) (upd H1 d (.xd [(f, v)]))
theorem pmk_own1 {e : Expr} {ta : TA} {p pos : PySem.Pos} {k : Nat} {fd : FuncData} (FB : ExcBaseFacts B newId initId bmB) (T : OwnX X.K X.mg x f C fI bmB newId) (G : FnOk X.prog X.w X.K X.mg X.base CX0 k fI fd ["self", f] (spPut C f)) (hb : Binds X.K fd ["self", f] []) (hr : Room (k + 1) X.A) (hg : Gl X x) (ha : PA X [e] ta)
    (hdb : (x == ("__debug__" : Str)) = false := by decide) (he : starEach [e] X.env = (false, eval e X.env) :: starEach [] X.env := by rfl) (hpl : (backTo pos (starEach [] X.env)).any (·.1) = false := by rfl) : PMk X (.Call (.Name x p) [e] [] pos) (tMkX C f ta) := fun pins s σ H Q I h => by
  refine wpAny_Call_Name_kw (ld_glob I hg T.gC (PySem.W.callWith_K (h₀ := X.base) I.ok.mod.kin T.kC (thn (ha.run pos pins s σ H _ I h) fun us s1 ⟨vs, H1, I1, r1, v, ev, q⟩ => ⟨I1.kIn, ?_⟩) he hpl) hdb)
  subst ev
  obtain ⟨nm, N, qn, bs, bm, hdct, sn, sub, ab, col, dd, k0, k1, k2, k3, k5, hC, hT⟩ := PySem.W.excInit_of I1.kIn T.ini
  have hus : us.length ≤ sizeLine := by
    rw [← r1.length]
    show 1 ≤ sizeLine
    decide
  obtain ⟨hp, g, dr, tk, os⟩ := s1
  obtain ⟨a, ea⟩ : ∃ a, a = hp.objs.size + 1 := ⟨_, rfl⟩
  obtain ⟨h2, eh⟩ : ∃ h2, h2 = (hp.push (PySem.W.kdv_tup us)).push (PySem.HandSPX.excO C hp.objs.size) := ⟨_, rfl⟩
  have big : hp.objs.size ≤ a := by rw [ea]; exact Nat.le_succ _
  have kp : ∀ b o, hp.get? b = some o → h2.get? b = some o := fun b o z => by
    rw [eh]
    exact Heap.get?_push_of_some _ (Heap.get?_push_of_some _ z)
  have at_ : h2.get? a = some (PySem.HandSPX.excO C hp.objs.size) := by
    rw [eh, ea]
    heap_get
  have na : H1 a = none := I1.hok.fresh big
  have I2 : Inv X pins σ (upd H1 a (exo a C none)) ⟨h2, g, dr, tk, os⟩ := I1.laid (t' := tk) kp big (exo_ok at_)
  have hsp : spPut C f [.ref a, v] (upd H1 a (exo a C none)) (fun v2 H2 => v2 = .non ∧ ∃ dx, Stored (upd H1 a (exo a C none)) a C f v dx H2) (fun _ _ _ => False) := ⟨a, v, rfl, upd_same, fun dx H' st => ⟨rfl, dx, st⟩⟩
  have run := G.run (A := X.A.under (.builtin "type.__call__" ⟨.ref C :: us, []⟩)) (outer := X.stack) (s := ⟨h2, g, dr, tk, os⟩) (args := ⟨.ref a :: us, []⟩) (us := .ref a :: us) (vs := [.ref a, v]) (Q := _) (E := fun _ _ _ => False) (H := upd H1 a (exo a C none)) (hr.make C us []) (I2.env0.make C us [])
    (by have := hb ⟨h2, g, dr, tk, os⟩ (.ref a :: us) I2.kIn (by rw [List.append_nil, List.length_cons, ← r1.length]; rfl); rw [List.append_nil] at this; exact this) (.cons rfl r1) hsp
  show wpAny _ _ (call (.ref C) us) _ _ _
  refine wpAny_call (PySem.HandSPX.call_own FB hT hC (PySem.W.looks_findIn I1.kIn T.iC) (fun self => PySem.W.bind_fn I1.kIn self T.tI) hus ?_)
  rw [← ea, ← eh]
  refine codeAny_mono run fun r s' hq => ?_
  match r with
  | .error er => exact hq.elim
  | .ok .next => exact hq.elim
  | .ok .brk => exact hq.elim
  | .ok .cont => exact hq.elim
  | .ok (.ret z) =>
    obtain ⟨v2, H2, os2, bare2, un2, hok2, rv, ev2, dx, st1, st2, st3, st4, st5⟩ := hq
    have nd : H1 dx = none := by rw [upd_ne st2] at st1; exact st1
    have eq : upd (del H2 a) dx (.xd [(f, v)]) = upd H1 dx (.xd [(f, v)]) := by
      funext b
      by_cases h1 : b = dx
      · rw [h1, upd_same, upd_same]
      · rw [upd_ne h1, upd_ne h1]
        by_cases h2 : b = a
        · rw [h2, del_same, na]
        · rw [del_ne h2, st5 b h2 h1, upd_ne h2]
    obtain ⟨h3, g3, d3, t3, os3⟩ := s'
    have fin := mk_end (Q := Q) (d2 := d3) (t2 := t3) (raises_own T.xf.exC T.tyC) I1 big kp un2 hok2 os2 bare2 st3 st4 nd (by rw [eq]; exact q dx nd)
    subst ev2
    exact ⟨rv, fin⟩
end
end CS
set_option Elab.async false
set_option maxRecDepth 100000
set_option maxHeartbeats 4000000
set_option linter.unusedVariables false
/-! try with several except clauses, some with a name, some without. -/
namespace CS
open PySem PySem.Spec PyProof.Rows L2
/-- the exception at a, of the class cls with the dict d, has landed; W0 is what is wanted of one that no clause takes -/
structure Landed (X : Cx) (pins : List (Addr × Obj)) (σ : L2.St) (H : Hp) (a : Addr) (cls : Value) (d : Option Addr) (s : Shared) : Prop where
  go : ∃ (B : Heap) (sI : Shared), HandSPX.FlyingZ B (X.env :: X.outer) a (Zc cls d) s.heap ∧ Inv X pins σ H sI ∧ (∀ b o, sI.heap.get? b = some o → b ∉ frs X.stack → B.get? b = some o) ∧ sI.heap.UpToSlots s.heap ∧ s.os = sI.os ∧ AllBare s.gens
  no : H a = none
abbrev TSx := Addr → Value → Option Addr → TS
section
variable {X : Cx} {pins : List (Addr × Obj)} {σ : L2.St} {H : Hp} {s : Shared} {a : Addr} {cls : Value} {d : Option Addr}
theorem Landed.inv (L : Landed X pins σ H a cls d s) : Inv X pins σ H s := by
  obtain ⟨B, sI, fl, J, nb, up, os, ag⟩ := L.go
  exact J.landed nb fl.1 up os ag
/-- the state within a suite -/
theorem Landed.suite (L : Landed X pins σ H a cls d s) (hf : X.env.frame = some X.env.locals) : ∃ oe, Zc cls d oe ∧ (∃ vs, oe.data = .fields vs) ∧ s.heap.get? a = some oe ∧ Inv (X.suite a ((a, oe) :: (X.pn ++ pins))) [] σ H s := by
  have J := L.inv
  obtain ⟨B, sI, fl, _⟩ := L.go
  obtain ⟨oe, vs, he, hz, hd⟩ := fl.there
  have no : a ∉ frs (X.env :: X.outer) := fun hm => by
    obtain ⟨_, o, e, n⟩ := fl.2.2.1.mem hm
    rw [he] at e
    cases e
    exact n _ hd
  have in_ : ∀ e ∈ X.env :: X.outer, e.frame ≠ some a := fun e he q => no (List.mem_filterMap.mpr ⟨e, he, q⟩)
  refine ⟨oe, hz, ⟨vs, hd⟩, he, J.suite he hd L.no (fun z => in_ _ List.mem_cons_self (by rw [hf, z])) fun hm => ?_⟩
  obtain ⟨e, h1, h2⟩ := List.mem_filterMap.mp hm
  exact in_ e (List.mem_cons_of_mem _ h1) h2
/-- it is looked at once more -/
theorem Landed.again {M : Model} {A : Around} {E : Value → Shared → Prop} {Q : Unit → Shared → Prop} (L : Landed X pins σ H a cls d s) (h : ∀ s', Landed X pins σ H a cls d s' → Q () s') :
    ∃ B, HandSPX.FlyingZ B (X.env :: X.outer) a (Zc cls d) s.heap ∧ ∀ h', HandSPX.FlyingZ B (X.env :: X.outer) a (Zc cls d) h' → s.heap.UpToSlots h' → Q () { s with heap := h' } := by
  obtain ⟨B, sI, fl, J, nb, up, os, ag⟩ := L.go
  exact ⟨B, fl, fun h' fl' up' => h _ ⟨⟨B, sI, fl', J, nb, up.trans up', os, ag⟩, L.no⟩⟩
end
/-- clauses with a name or without; what they wish of an exception, the wish W0 where none takes it -/
inductive Clauses (X : Cx) (W0 : WX) : List ExceptHandler → (Ends → WX) → Prop
  | nil : Clauses X W0 [] (fun _ => W0)
  | plain {x : Str} {c : Value} {ts : TSx} {b₀ : Stmt} {suite : List Stmt} {np pos' : PySem.Pos} {hds : List ExceptHandler} {W : Ends → WX} (hc : Names X x c)
      (hsu : ∀ (a : Addr) (oe : Obj) (cls : Value) (d : Option Addr) (pn : List (Addr × Obj)), Zc cls d oe → (∃ vs, oe.data = .fields vs) → PSs (X.suite a ((a, oe) :: pn)) (b₀ :: suite) (ts a cls d)) (r : Clauses X W0 hds W) :
      Clauses X W0 (.ExceptHandler (some (.Name x np)) none (b₀ :: suite) pos' :: hds) (fun D cls d σ H => ∃ b, PySem.W.exmOne X.K cls c = some b ∧ (b = true → ∀ a, H a = none → ts a cls d D σ H) ∧ (b = false → W D cls d σ H))
  | named {x n : Str} {c : Value} {i : Nat} {ts : TSx} {b₀ : Stmt} {suite : List Stmt} {np pos' : PySem.Pos} {hds : List ExceptHandler} {W : Ends → WX} (hc : Names X x c) (hi : X.N[i]? = some n) (hln : X.env.kindOf n = some .local)
      (hsu : ∀ (a : Addr) (oe : Obj) (cls : Value) (d : Option Addr) (pn : List (Addr × Obj)), Zc cls d oe → (∃ vs, oe.data = .fields vs) → PSs (X.suite a ((a, oe) :: pn)) (b₀ :: suite) (ts a cls d)) (r : Clauses X W0 hds W) :
      Clauses X W0 (.ExceptHandler (some (.Name x np)) (some n) (b₀ :: suite) pos' :: hds) (fun D cls d σ H => ∃ b, PySem.W.exmOne X.K cls c = some b ∧
        (b = true → ∀ a, H a = none → ts a cls d { nx := fun σ' H' => D.nx (σ'.set i none) H', rt := D.rt, bk := fun σ' H' => D.bk (σ'.set i none) H', ct := fun σ' H' => D.ct (σ'.set i none) H' } (σ.set i (some (.ref a))) H) ∧ (b = false → W D cls d σ H))
section
variable {X : Cx} {pins : List (Addr × Obj)} {σ : L2.St} {H : Hp} {s : Shared} {a : Addr} {cls : Value} {d : Option Addr} {W0 : WX}
/-- a clause's test -/
theorem Landed.test (L : Landed X pins σ H a cls d s) (hf : X.env.frame = some X.env.locals) {x : Str} {c : Value} {np : PySem.Pos} (hc : Names X x c) {b : Bool} (hb : PySem.W.exmOne X.K cls c = some b) {Q E : Value → Shared → Prop}
    (q : (∀ (A : Around) (Q E : Bool → Shared → Prop), True) → ∀ M, PySem.W.Looks M s.heap (typeOf (.ref a)) cls → Q c s) : wpAny (model X.prog X.w) (X.A.mark (some (.ref a))) (eval (.Name x np) X.env) Q E s := by
  obtain ⟨oe, hz, hd, he, S⟩ := L.suite hf
  have q2 : Q c s := q (fun _ _ _ => trivial) (model X.prog X.w) fun A Q E s k q => wpAny_typeOf_ref (k _ _ he) (by rw [hz.1]; exact q)
  obtain ⟨hg, hdbg, hm | ⟨hm, hv, hnn⟩⟩ := hc
  · exact ld_glob (X := X.suite a ((a, oe) :: (X.pn ++ pins))) S hg hm q2 hdbg
  · exact ld_blt (X := X.suite a ((a, oe) :: (X.pn ++ pins))) S hg hm hv q2 hnn hdbg
theorem ends_plain {a : Addr} {p : Addr × Obj} {D : Ends} {f : Flow} (ok : X.Ok) (h : SP (X.suite a (p :: (X.pn ++ pins))) [] D f s) : SP X pins D f s := by
  cases f with
  | ret u =>
    obtain ⟨v, σ6, H6, S6, r, q⟩ := h
    exact ⟨v, σ6, H6, S6.unsuite ok, r, q⟩
  | next =>
    obtain ⟨σ6, H6, S6, q⟩ := h
    exact ⟨σ6, H6, S6.unsuite ok, q⟩
  | brk =>
    obtain ⟨σ6, H6, S6, q⟩ := h
    exact ⟨σ6, H6, S6.unsuite ok, q⟩
  | cont =>
    obtain ⟨σ6, H6, S6, q⟩ := h
    exact ⟨σ6, H6, S6.unsuite ok, q⟩
theorem caught (hs : X.stack = X.env :: X.outer) (hf : X.env.frame = some X.env.locals) (hN : X.N.Nodup) (tk : Takes X W0) {D : Ends} {hds : List ExceptHandler} {W : Ends → WX} (C : Clauses X W0 hds W) (L : Landed X pins σ H a cls d s) (w : W D cls d σ H) :
    wpAny (model X.prog X.w) X.A (handleBy (.ref a) X.env hds) (SP X pins D) X.xe s := by
  have ok := L.inv.ok
  have LT : ∀ M, PySem.W.Looks M s.heap (typeOf (.ref a)) cls := fun M => by
    obtain ⟨oe, hz, _, he, _⟩ := L.suite hf
    exact fun A Q E s k q => wpAny_typeOf_ref (k _ _ he) (by rw [hz.1]; exact q)
  induction C with
  | nil =>
    refine wpAny_handleBy_nil ?_
    obtain ⟨B, sI, fl, J, nb, up, os, ag⟩ := L.go
    obtain ⟨_, _, _, oe, vs, T, oT, ts, he, _, hd, h1, _⟩ := id fl
    have out : wpAny (model X.prog X.w) X.A (setFlight (.ref a) X.env.frame) (fun _ s4 => wpAny (model X.prog X.w) X.A (throw (.ref a) : Sem Flow) (SP X pins D) X.xe s4) X.xe s := by
      rw [hf]
      exact HandSPX.setFlight_upZ fl fun h4 hh4 up4 => wpAny_throw (tk _ _ ⟨a, B, sI, pins, σ, H, cls, d, rfl, J, nb, up.trans up4, .inr (.inr (by rw [hs]; exact hh4)), L.no, os, ag, w⟩)
    unfold PySem.passOn
    refine wpAny_bind (wpAny_field he hd h1 ?_)
    rw [if_neg (show ¬ ((Value.ref T == Value.none) = true) from by simp)]
    first
      | exact wpAny_bind (wpAny_pure (wpAny_bind out))
      | exact wpAny_bind out
  | plain hc hsu r ih =>
    obtain ⟨b, hb, yes, no⟩ := w
    refine wpAny_handleBy_cons (codeAny_handlers_test (L.test hf hc hb fun _ _ _ => ((PySem.W.exm_one (M := model X.prog X.w) L.inv.kIn (LT _) hb).here ?_))) (by intro q; cases q)
    cases b with
    | false => exact ih (no rfl)
    | true =>
      refine codeAny_handlers_suite ?_
      obtain ⟨B, fl, k⟩ := L.again (M := model X.prog X.w) (A := X.A) (E := X.xe) (Q := fun _ s' => Landed X pins σ H a cls d s') fun _ z => z
      refine HandSPX.lands_againZ fl fun h4 fl4 up4 => ?_
      obtain ⟨oe, hz, hd, he, S⟩ := (k h4 fl4 up4).suite hf
      exact wpAny_mono ((hsu a oe cls d (X.pn ++ pins) hz hd).run [] _ _ H _ S (yes rfl a L.no)) (fun f s6 hsp => ends_plain ok hsp) fun _ _ z => z.elim
  | @named x n c i ts b₀ suite np pos' hds W hc hi hln hsu r ih =>
    obtain ⟨b, hb, yes, no⟩ := w
    refine wpAny_handleBy_cons (codeAny_handlers_test (L.test hf hc hb fun _ _ _ => ((PySem.W.exm_one (M := model X.prog X.w) L.inv.kIn (LT _) hb).here ?_))) (by intro q; cases q)
    cases b with
    | false => exact ih (no rfl)
    | true =>
      refine codeAny_handlers_suite_as ?_
      obtain ⟨B, fl, k⟩ := L.again (M := model X.prog X.w) (A := X.A) (E := X.xe) (Q := fun _ s' => Landed X pins σ H a cls d s') fun _ z => z
      refine HandSPX.lands_againZ fl fun h4 fl4 up4 => ?_
      obtain ⟨oe, hz, hd, he, S⟩ := (k h4 fl4 up4).suite hf
      refine store_ok (X := X.suite a ((a, oe) :: (X.pn ++ pins))) (v := .ref a) S hN hi (.inl hln) rfl (fun s5 S5 => ?_) (.inr hln)
      refine wpAny_mono ((hsu a oe cls d (X.pn ++ pins) hz hd).run [] s5 _ H _ S5 (yes rfl a L.no)) (fun f s6 hsp => ?_) fun _ _ z => z.elim
      have gone : ∀ {σ6 : L2.St} {H6 : Hp} {Q : Shared → Prop}, Inv X pins σ6 H6 s6 → (∀ s7, Inv X pins (σ6.set i none) H6 s7 → Q s7) → wpAny (model X.prog X.w) X.A (do bindName X.env n .none; unbindBehindTheSuite X.env n pos') (fun _ s7 => Q s7) X.xe s6 :=
        fun J6 hq => gone_ok J6 hN hi hln hq
      have q6 := ends_plain ok hsp
      cases f with
      | ret u =>
        obtain ⟨v6, σ6, H6, J6, r6, q6⟩ := q6
        exact gone J6 fun s7 J7 => ⟨_, _, _, J7, r6, q6⟩
      | next =>
        obtain ⟨σ6, H6, J6, q6⟩ := q6
        exact gone J6 fun s7 J7 => ⟨_, _, J7, q6⟩
      | brk =>
        obtain ⟨σ6, H6, J6, q6⟩ := q6
        exact gone J6 fun s7 J7 => ⟨_, _, J7, q6⟩
      | cont =>
        obtain ⟨σ6, H6, J6, q6⟩ := q6
        exact gone J6 fun s7 J7 => ⟨_, _, J7, q6⟩
/-- try: body / except .. -/
theorem ps_tryx {body : List Stmt} {h₀ : ExceptHandler} {hds : List ExceptHandler} {W : Ends → WX} {tb : WX → TS} {pos : PySem.Pos} (hs : X.stack = X.env :: X.outer) (hf : X.env.frame = some X.env.locals) (hN : X.N.Nodup) (tk : Takes X W0) (C : Clauses X W0 (h₀ :: hds) W)
    (hb : ∀ (W : WX) (pn : List (Addr × Obj)) (xe : Value → Shared → Prop), Takes (X.tr pn xe) W → PassesOwn (model X.prog X.w) X.A X.env xe → PSs (X.tr pn xe) body (tb W)) : PS X (.Try body (h₀ :: hds) [] [] pos) (fun D σ H => tb (W D) D σ H) := by
  refine ⟨fun pins s σ H D I h => ?_⟩
  have ok := I.ok
  have hfr : X.A.frames = some (X.env :: X.outer) := by rw [ok.frames, hs]
  refine wpAny_Try_except (wpAny_mono ((hb (W D) (X.pn ++ pins) _ (fun u s' xx => ?_) PassesOwn.looking).run [] s σ H D (I.toTry _) h) (fun f s1 hsp => ?_) fun _ _ he => he)
  · obtain ⟨a, B, sI, pins', σ', H', cls, d, rfl, J, nb, up, sky, na, os, ag, w⟩ := xx
    have J := J.ofTry ok
    have sky : Sky B (X.env :: X.outer) a (Zc cls d) X.env.locals s'.heap := by rw [← hs]; exact sky
    exact Sky.land Zc.steady hfr hf sky fun h3 fl3 up3 => caught hs hf hN tk C ⟨⟨B, sI, fl3, J, nb, up.trans up3, os, ag⟩, na⟩ w
  · cases f with
    | ret u =>
      obtain ⟨v, σ', H', J, r, q⟩ := hsp
      exact ⟨v, σ', H', J.ofTry ok, r, q⟩
    | next =>
      obtain ⟨σ', H', J, q⟩ := hsp
      exact wpAny_execs_nil ⟨σ', H', J.ofTry ok, q⟩
    | brk =>
      obtain ⟨σ', H', J, q⟩ := hsp
      exact ⟨σ', H', J.ofTry ok, q⟩
    | cont =>
      obtain ⟨σ', H', J, q⟩ := hsp
      exact ⟨σ', H', J.ofTry ok, q⟩
end
end CS
set_option Elab.async false
set_option maxRecDepth 100000
set_option maxHeartbeats 4000000
set_option linter.unusedVariables false
/-! Calls while no repr is under way; repr of data of any depth. -/
namespace CS
open PySem PySem.Spec PyProof.Rows L2
/-- a call stands ready, and no repr is under way around it -/
structure Quiet (P : Program) (w : World) (K : PySem.W.Frag) (mg : Str → Option Value) (base : Heap) (k : Nat) (fd : FuncData) (ps : List Str) (A : Around) (outer : List Env) (s : Shared) (H : Hp) (args : Args) (us : List Value) (vs : List V) : Prop where
  still : A.guards = some []
  room : Room k A
  env : Env0 P w K mg base A outer s H
  bound : BindsTo s fd args (ps.zip us)
  vals : Vals vs us
/-- a def's promise for calls while no repr is under way -/
structure FnG (P : Program) (w : World) (K : PySem.W.Frag) (mg : Str → Option Value) (base : Heap) (CX : CXT) (k : Nat) (f : Addr) (fd : FuncData) (ps : List Str) (sp : Sp) : Prop where
  many : ∀ vs H Q E, sp vs H Q E → vs.length = ps.length
  go : ∀ {A outer s H args us vs Q E}, Quiet P w K mg base k fd ps A outer s H args us vs → sp vs H Q E → codeAny (model P w) A (.call (.ref f) args) (CR CX outer P w H s Q E) s
section
variable {P : Program} {w : World} {K : PySem.W.Frag} {mg : Str → Option Value} {base : Heap} {CX : CXT} {k : Nat} {f : Addr} {fd : FuncData} {ps N : List Str} {sp : Sp} {x qual : Str} {st : Stmt}
theorem FnG.of_any (F : FnOk P w K mg base CX k f fd ps sp) : FnG P w K mg base CX k f fd ps sp := ⟨F.len, fun q h => F.run _ _ _ _ _ _ _ _ _ q.room q.env q.bound q.vals h⟩
/-- how a body's end is the call's end -/
theorem end_of_body {scope : Scope} {cdv : Value} {A : Around} {outer : List Env} {s s' : Shared} {H : Hp} {Q : VK} {E : XK} {fl : Flow} (h : SP (cxOf CX P w K mg base N qual scope f cdv A outer s H E) [] { nx := fun _ H' => Q .non H', rt := Q } fl s') :
    ∃ u v, (fl = .ret u ∨ (fl = .next ∧ u = Value.none)) ∧ RelV v u ∧ CE outer P w H s Q u s' := by
  cases fl with
  | ret u =>
    obtain ⟨v, _, H', J, rv, q⟩ := h
    exact ⟨u, v, .inl rfl, rv, v, H', J.os, J.bare, J.base, J.hok, rv, q⟩
  | next =>
    obtain ⟨_, H', J, q⟩ := h
    exact ⟨.none, .non, .inr ⟨rfl, rfl⟩, rfl, .non, H', J.os, J.bare, J.base, J.hok, rfl, q⟩
  | brk => exact absurd h (fun ⟨_, _, _, z⟩ => z)
  | cont => exact absurd h (fun ⟨_, _, _, z⟩ => z)
/-- a def keeps its promise, if its body does, no repr being under way -/
theorem FnG.of_body (F : Fun K x qual st f fd) (S : FnScope N ps (defScope st)) (many : ∀ vs H Q E, sp vs H Q E → vs.length = ps.length)
    (body : ∀ cdv A outer s H vs Q E, A.guards = some [] → Room k (A.deeper (envOfC qual (defScope st) s.heap.objs.size f cdv)) → sp vs H Q E → ∃ t, PSs (cxOf CX P w K mg base N qual (defScope st) f cdv A outer s H E) (defBody st) t ∧ t { nx := fun _ H' => Q .non H', rt := Q } (start N vs) H) :
    FnG P w K mg base CX (k + 1) f fd ps sp := by
  obtain ⟨oc, od, kV, doc, pm, an, cdv, ct, osl, efd, at_, code⟩ := F.ex
  subst efd
  constructor
  · exact many
  intro A outer s H args us vs Q E q h
  have kept := q.env.bs
  have inn : K.In s.heap := q.env.mod.kin.keeps fun b o e => (kept b o e).1
  have nolim : s.heap.NoLimit := q.env.mod.nolimit.keeps fun b o e => (kept b o e).1
  have pars : ∀ y ∈ ps.zip us, (defScope st).names.lookup y.1 = some .local ∨ ((defScope st).names.lookup y.1 = some .cell ∧ ((cellsFrom (s.heap.objs.size + 1) (defScope st).names []).lookup y.1).isSome = true) := by
    rintro ⟨n, v⟩ hy
    exact (S.par n (List.of_mem_zip hy).1).imp id fun c => ⟨c, PySem.W.cellsFrom_some _ _ _ (.inl c)⟩
  refine codeAny_call_function q.room.depth (inn _ _ at_) rfl S.co S.gen rfl (PySem.W.codeRec_of inn code) (q.bound _ _ _ _ (wpAny_newFunctionEnv_cells S.kind pars ?_))
  rintro env rfl s1 laid
  refine ⟨nolim.keeps laid.toInCall.keep, codeAny_func ?_⟩
  obtain ⟨t, run, now⟩ := body cdv A outer s H vs Q E q.still (q.room.deeper _) h
  have I := inv_start (CX := CX) (E := E) S q.room.hd q.env (many _ _ _ _ h) q.vals laid
  refine wpAny_mono (run.run [] s1 _ H _ I now) (fun fl s' e => ?_) fun _ _ e => e
  obtain ⟨u, v, e1, _, e2⟩ := end_of_body e
  rcases e1 with rfl | ⟨rfl, rfl⟩
  · exact e2
  · exact e2
end
section
variable {X : Cx} {CX : CXT} {k : Nat} {f : Addr} {fd : FuncData} {ps : List Str} {sp : Sp} {dvs : List V} {ds : List Value} {E : XK} {x : Str} {p pos : PySem.Pos} {e : Expr} {es : List Expr} {t : TA}
/-- f(e, ..) where no repr is under way -/
theorem pe_callG (F : FnG X.prog X.w X.K X.mg X.base CX k f fd ps sp) (hq : X.A.guards = some []) (hr : Room k X.A) (hg : Gl X x) (hm : X.mg x = some (.ref f)) (hk : PySem.W.keepIn X.K (.ref f) = true) (hb : Binds X.K fd ps []) (hx : Passes CX X E) (ha : PA X (e :: es) t)
    (he : starEach (e :: es) X.env = (false, eval e X.env) :: starEach es X.env := by rfl) (hpl : (backTo pos (starEach es X.env)).any (·.1) = false := by rfl) (hdb : (x == ("__debug__" : Str)) = false := by decide) : PE X (.Call (.Name x p) (e :: es) [] pos) (tCall sp [] E t) := by
  constructor
  intro pins s σ H Q I h
  refine wpAny_Call_Name_kw (ld_glob I hg hm (PySem.W.callWith_K (h₀ := X.base) I.ok.mod.kin hk (thn (ha.run pos pins s σ H _ I h) fun us s1 ⟨vs, H1, J, rv, now⟩ => ⟨J.kIn, ?_⟩) he hpl) hdb)
  have now2 : sp vs H1 Q E := by
    have z : sp (vs ++ []) H1 Q E := now
    rw [List.append_nil] at z
    exact z
  have b2 : BindsTo s1 fd ⟨us, []⟩ (ps.zip us) := by
    have z := hb s1 us J.kIn (by rw [List.append_nil, ← rv.length]; exact F.many _ _ _ _ now2)
    rw [List.append_nil] at z
    exact z
  show wpAny _ _ (call (.ref f) us) _ _ _
  refine wpAny_call (codeAny_mono (F.go ⟨hq, hr, J.env0, b2, rv⟩ now2) fun r s' z => ?_)
  match r, z with
  | .error er, z => exact hx pins σ H1 s1 er s' J z
  | .ok (.ret u), z => exact J.after z
  | .ok .next, z => exact z.elim
  | .ok .brk, z => exact z.elim
  | .ok .cont, z => exact z.elim
/-- repr of data -/
def rShow (K : PySem.W.Frag) : List V → Hp → VK → Prop := fun xs H Q => ∃ v d, xs = [v] ∧ Dp K H v d ∧ d.showable = true ∧ d.hasDict = false ∧ d.depth ≤ 60 ∧ d.shown.length + 64 ≤ sizeLine ∧ Q (.str d.shown) H
theorem call_show (hq : X.A.guards = some []) (hu : X.A.units + 64 < cLine) : CallR X (.builtin "repr") (rShow X.K) := by
  intro pins s σ H xs us Q I r ⟨v, d, ex, hd, h1, h2, h3, h4, q⟩
  subst ex
  obtain ⟨u, rfl, rv⟩ := vals1 r
  obtain ⟨as, rd⟩ := Dp.reads I d v u hd rv
  have sz : d.shown.length ≤ sizeLine := by omega
  cases rd with
  | none =>
    refine PySem.P.repr_of_none ⟨.str _, H, I.tok _, ⟨_, rfl⟩, ?_⟩
    rw [PyData.shown_none] at q
    exact q
  | bool b =>
    refine PySem.P.repr_of_bool ⟨.str _, H, I.tok _, ⟨_, rfl⟩, ?_⟩
    rw [PyData.shown_bool] at q
    exact q
  | int i t =>
    refine PySem.P.repr_of_int (of_decide_eq_true h1) ⟨.str _, H, I.tok _, ⟨_, rfl⟩, ?_⟩
    rw [PyData.shown_int] at q
    exact q
  | str x t =>
    rw [PyData.shown_str] at q sz
    exact PySem.P.repr_of_str ⟨.str _, H, I.tok _, ⟨_, rfl⟩, q⟩ sz
  | list g1 g2 g3 g4 => exact repr_of_reads' (.list g1 g2 g3 g4) h1 (PyData.noDict_hsm h2) hq (by omega) (fun _ _ e => e) (fun h' t tk kp => ⟨.str _, H, I.kept (t' := tk) kp, ⟨_, rfl⟩, q⟩) sz
  | tuple g1 g2 g3 g4 => exact repr_of_reads' (.tuple g1 g2 g3 g4) h1 (PyData.noDict_hsm h2) hq (by omega) (fun _ _ e => e) (fun h' t tk kp => ⟨.str _, H, I.kept (t' := tk) kp, ⟨_, rfl⟩, q⟩) sz
  | dict g1 g2 g3 g4 g5 => cases hd
end
/-! the end: a law whose def is called while no repr is under way -/
theorem still_caller : callerA.guards = some [] := rfl
/-- what is tracked ahead of the law's call: its script alone -/
def scriptH (K : PySem.W.Frag) (a : Addr) (vs : List Value) (ns : List Int) : Hp := fun b => if b = a ∧ K.lookup a = none then some (.frz { cls := .type "list", data := .seq vs.toArray } (.lst (ns.map V.int))) else none
section
variable {P : Program} {w : World} {K : PySem.W.Frag} {mg mb : Str → Option Value} {k : Nat} {fa a : Addr} {fd : FuncData} {x : Str} {sp : Sp} {s₁ : Shared} {vs : List Value} {ns : List Int}
theorem scriptH_of {b : Addr} {u : HO} (e : scriptH K a vs ns b = some u) : b = a ∧ K.lookup a = none ∧ u = .frz { cls := .type "list", data := .seq vs.toArray } (.lst (ns.map V.int)) := by
  unfold scriptH at e
  split at e
  · next z => exact ⟨z.1, z.2, (Option.some.inj e).symm⟩
  · cases e
theorem scriptH_ok (ha : s₁.heap.get? a = some { cls := .type "list", data := .seq vs.toArray }) (hi : IntsAre vs ns) (hl : ns.length ≤ sizeLine) : HOk P w (scriptH K a vs ns) s₁.heap := by
  intro b u e
  obtain ⟨rfl, _, rfl⟩ := scriptH_of e
  exact ⟨ha, by rw [List.length_map]; exact hl, vs, _, vals_ints hi, ha⟩
theorem scriptH_sq (KX : K.In s₁.heap) (ha : s₁.heap.get? a = some { cls := .type "list", data := .seq vs.toArray }) (hi : IntsAre vs ns) (hl : ns.length ≤ sizeLine) : SqL K (scriptH K a vs ns) a (ns.map V.int) := by
  cases e : K.lookup a with
  | none => exact .inl (.inr ⟨_, if_pos ⟨rfl, e⟩⟩)
  | some o =>
    have g := KX a o e
    rw [ha] at g
    cases g
    have l := hi.length
    exact .inr ⟨_, vs.toArray, _, e, rfl, rfl, rfl, by rw [List.size_toArray]; omega, by simpa using vals_ints hi⟩
/-- the law's call ends with True, and what stood stands -/
theorem law_still (KX : K.In s₁.heap) (hns : s₁.heap.Ns mainGlobals mg) (hb : s₁.heap.Ns builtinsNs mb) (hbb : ∀ x : Str, x ≠ "__name__" → mb x = bootBuiltins x) (hlim : s₁.heap.NoLimit) (hg : s₁.gens = #[])
    (ha : s₁.heap.get? a = some { cls := .type "list", data := .seq vs.toArray }) (hi : IntsAre vs ns) (hl : ns.length ≤ sizeLine) (hr : Room k callerA)
    (F : ∀ base : Heap, K.In base → base.Ns mainGlobals mg → FnG P w K mg base CX0 k fa fd [x] sp) (bind : ∀ (s : Shared) (u : Value), BindsTo s fd ⟨[u], []⟩ [(x, u)])
    (hsp : ∀ H : Hp, SqL K H a (ns.map V.int) → sp [.ref a] H (fun v _ => v = .bl true) E0) :
    codeAny (model P w) callerA (.call (.ref fa) ⟨[.ref a], []⟩) (fun r s' => r = .ok (.ret (.bool true)) ∧ OldK s₁.heap s'.heap ∧ s'.os = s₁.os ∧ AllBare s'.gens) s₁ := by
  obtain ⟨H, eH⟩ : ∃ H, H = scriptH K a vs ns := ⟨_, rfl⟩
  have ok : HOk P w H s₁.heap := by rw [eH]; exact scriptH_ok ha hi hl
  have sq : SqL K H a (ns.map V.int) := by rw [eH]; exact scriptH_sq KX ha hi hl
  have only : ∀ {b u}, H b = some u → b = a ∧ K.lookup a = none ∧ u = .frz { cls := .type "list", data := .seq vs.toArray } (.lst (ns.map V.int)) := fun e => scriptH_of (by rw [← eH]; exact e)
  -- whatever is not the script's object is in the part that the call may not change
  have stays : ∀ {b : Addr} {ob : Obj}, s₁.heap.get? b = some ob → (b = a → K.lookup a ≠ none) → (hidT s₁.heap H).get? b = some ob := fun {b ob} e n => hidT_get e (by
    cases q : H b with
    | none => rfl
    | some u =>
      obtain ⟨e1, e2, _⟩ := only q
      exact absurd e2 (n e1))
  have names : ∀ {b : Addr} {m : Str → Option Value}, s₁.heap.Ns b m → (hidT s₁.heap H).Ns b m := by
    rintro b m ⟨ob, es, ep, e, ed, r⟩
    refine ⟨ob, es, ep, stays e (fun z => ?_), ed, r⟩
    subst z
    rw [ha] at e
    cases e
    cases ed
  have inn : K.In (hidT s₁.heap H) := fun b ob e => stays (KX b ob e) (fun z => by rw [← z, e]; exact fun y => nomatch y)
  obtain ⟨mc, l1, l2⟩ := hlim
  have env : Env0 P w K mg (hidT s₁.heap H) callerA [] s₁ H := by
    refine ⟨rfl, ⟨inn, names hns, ⟨mb, names hb, hbb⟩, ⟨mc, names l1, l2⟩⟩, fun b ob e => of_hidT e, Nat.le_of_eq (hidT_size _ _), trivial, fun b hb => ?_, ok, .of_eq hg⟩
    exact (List.not_mem_nil hb).elim
  have ready : Quiet P w K mg (hidT s₁.heap H) k fd [x] callerA [] s₁ H ⟨[.ref a], []⟩ [.ref a] [.ref a] := ⟨still_caller, hr, env, bind s₁ (.ref a), .cons rfl .nil⟩
  refine codeAny_mono ((F _ inn (names hns)).go ready (hsp H sq)) fun r s' z => ?_
  match r, z with
  | .error _, z => exact z.elim
  | .ok .next, z => exact z.elim
  | .ok .brk, z => exact z.elim
  | .ok .cont, z => exact z.elim
  | .ok (.ret u), ⟨v, H', os, bare, un, ok', rv, ev⟩ =>
    subst ev
    cases rv
    refine ⟨rfl, OldK.of_keep fun b ob e => ?_, os, bare⟩
    cases q : H b with
    | none => exact un.keep b ob e q (fun z => (List.not_mem_nil z).elim) (by simp)
    | some u =>
      obtain ⟨rfl, _, rfl⟩ := only q
      rw [ha] at e
      cases e
      exact (ok' _ _ (un.frzs _ _ _ q)).1
end
end CS
set_option maxHeartbeats 1000000
set_option linter.unusedVariables false
namespace CS
abbrev Fx := Int × Int
def lk (f : List (Int × Fx)) (k : Int) : Fx := (f.lookup k).getD (0, 1)
def ups : List (Int × Fx) → Int → Fx → List (Int × Fx)
  | [], k, x => [(k, x)]
  | (j, y) :: f, k, x => if j = k then (j, x) :: f else (j, y) :: ups f k x
def gat (f : List (Int × Fx)) (xs : List (Int × Fx)) : List (Int × Fx) := xs.foldl (fun f kx => ups f kx.1 (fadd (lk f kx.1) kx.2)) f
theorem lk_cons (j : Int) (y : Fx) (f : List (Int × Fx)) (k : Int) : lk ((j, y) :: f) k = if k = j then y else lk f k := by
  unfold lk
  rw [List.lookup_cons]
  by_cases h : k = j
  · subst h
    simp
  · have : (k == j) = false := by simpa using h
    simp [this, h]
theorem lk_ups : ∀ (f : List (Int × Fx)) (k : Int) (x : Fx) (j : Int), lk (ups f k x) j = if j = k then x else lk f j
  | [], k, x, j => by
    show lk [(k, x)] j = _
    rw [lk_cons]
  | (i, y) :: f, k, x, j => by
    show lk (if i = k then (i, x) :: f else (i, y) :: ups f k x) j = _
    by_cases h : i = k
    · subst h
      rw [if_pos rfl, lk_cons, lk_cons]
      by_cases q : j = i <;> simp [q]
    · rw [if_neg h, lk_cons, lk_cons, lk_ups f k x j]
      by_cases q : j = i
      · subst q
        simp [h]
      · simp [q]
theorem ups_keys (f : List (Int × Fx)) (k : Int) (x : Fx) : ∀ j, j ∈ (ups f k x).map (·.1) ↔ j = k ∨ j ∈ f.map (·.1) := by
  induction f with
  | nil =>
    intro j
    simp [ups]
  | cons a f ih =>
    obtain ⟨i, y⟩ := a
    intro j
    by_cases h : i = k
    · subst h
      simp [ups]
    · have := ih j
      simp [ups, h] at *
      grind
theorem ups_nodup (f : List (Int × Fx)) (k : Int) (x : Fx) (h : (f.map (·.1)).Nodup) : ((ups f k x).map (·.1)).Nodup := by
  induction f with
  | nil => simp [ups]
  | cons a f ih =>
    obtain ⟨i, y⟩ := a
    by_cases q : i = k
    · subst q
      simpa [ups] using h
    · rw [List.map_cons, List.nodup_cons] at h
      have e : ups ((i, y) :: f) k x = (i, y) :: ups f k x := by simp [ups, q]
      rw [e, List.map_cons, List.nodup_cons]
      refine ⟨fun m => ?_, ih h.2⟩
      rcases (ups_keys f k x i).mp m with z | z
      · exact q z
      · exact h.1 z
theorem ups_len (f : List (Int × Fx)) (k : Int) (x : Fx) : (ups f k x).length ≤ f.length + 1 := by
  induction f with
  | nil => simp [ups]
  | cons a f ih =>
    obtain ⟨i, y⟩ := a
    by_cases q : i = k
    · simp [ups, q]
    · simp [ups, q]; omega
/-- the strictly ascending list of what is not nought in a table -/
def IsS (f r : List (Int × Fx)) : Prop := (r.map (·.1)).Pairwise (· < ·) ∧ ∀ k x, (k, x) ∈ r ↔ (lk f k = x ∧ x ≠ (0, 1))
theorem asc_same : ∀ {r q : List (Int × Fx)}, (r.map (·.1)).Pairwise (· < ·) → (q.map (·.1)).Pairwise (· < ·) → (∀ a, a ∈ r ↔ a ∈ q) → r = q
  | [], [], _, _, _ => rfl
  | [], b :: q, _, _, h => absurd ((h b).mpr List.mem_cons_self) (by simp)
  | a :: r, [], _, _, h => absurd ((h a).mp List.mem_cons_self) (by simp)
  | a :: r, b :: q, h1, h2, h => by
    rw [List.map_cons, List.pairwise_cons] at h1 h2
    have low1 : ∀ c ∈ r, a.1 < c.1 := fun c hc => h1.1 _ (List.mem_map.mpr ⟨c, hc, rfl⟩)
    have low2 : ∀ c ∈ q, b.1 < c.1 := fun c hc => h2.1 _ (List.mem_map.mpr ⟨c, hc, rfl⟩)
    have e : a = b := by
      rcases List.mem_cons.mp ((h a).mp List.mem_cons_self) with z | z
      · exact z
      · rcases List.mem_cons.mp ((h b).mpr List.mem_cons_self) with y | y
        · exact y.symm
        · have := low1 b y
          have := low2 a z
          omega
    subst e
    have : r = q := asc_same h1.2 h2.2 fun c => by
      constructor
      · intro hc
        rcases List.mem_cons.mp ((h c).mp (List.mem_cons_of_mem _ hc)) with z | z
        · subst z
          have := low1 c hc
          omega
        · exact z
      · intro hc
        rcases List.mem_cons.mp ((h c).mpr (List.mem_cons_of_mem _ hc)) with z | z
        · subst z
          have := low2 c hc
          omega
        · exact z
    rw [this]
theorem IsS.uniq {f g r q : List (Int × Fx)} (h1 : IsS f r) (h2 : IsS g q) (h : ∀ k, lk f k = lk g k) : r = q := by
  refine asc_same h1.1 h2.1 fun ⟨k, x⟩ => ?_
  rw [h1.2 k x, h2.2 k x, h k]
theorem lk_mem {f : List (Int × Fx)} {k : Int} (h : lk f k ≠ (0, 1)) : k ∈ f.map (·.1) := by
  induction f with
  | nil => exact absurd rfl h
  | cons a f ih =>
    obtain ⟨j, y⟩ := a
    rw [lk_cons] at h
    by_cases q : k = j
    · simp [q]
    · rw [if_neg q] at h
      have := ih h
      simp at *
      grind
theorem isS_of {f : List (Int × Fx)} {ys : List Int} (hp : ys.Perm (f.map (·.1))) (hn : (f.map (·.1)).Nodup) (hs : ys.Pairwise (· ≤ ·)) : IsS f ((ys.filter fun k => decide (lk f k ≠ (0, 1))).map fun k => (k, lk f k)) := by
  have hn2 : ys.Nodup := hp.nodup_iff.mpr hn
  have hlt : ys.Pairwise (· < ·) := by
    have := List.Pairwise.and hs hn2
    refine this.imp ?_
    rintro a b ⟨h1, h2⟩
    omega
  constructor
  · rw [List.map_map]
    have : ((fun x : Int × Fx => x.1) ∘ fun k => (k, lk f k)) = id := rfl
    rw [this, List.map_id]
    exact hlt.filter _
  · intro k x
    rw [List.mem_map]
    constructor
    · rintro ⟨j, hj, e⟩
      injection e with e1 e2
      subst e1
      rw [List.mem_filter] at hj
      exact ⟨e2, by rw [← e2]; exact of_decide_eq_true hj.2⟩
    · rintro ⟨e, hx⟩
      subst e
      exact ⟨k, List.mem_filter.mpr ⟨hp.mem_iff.mpr (lk_mem hx), decide_eq_true hx⟩, rfl⟩
/-- a share's parts -/
def AllF (n : Nat) (xs : List (Int × Fx)) : Prop := ∀ a ∈ xs, Fr a.2 ∧ Sz n a.2
theorem fr01 : Fr ((0, 1) : Fx) := by decide
theorem sz01 {n : Nat} (h : 0 < n) : Sz n ((0, 1) : Fx) := ⟨Nat.two_pow_pos _, Nat.one_lt_two_pow (by omega)⟩
theorem zero_fadd {x : Fx} (hx : Fr x) : fadd (0, 1) x = x := by rw [fadd_comm, fadd_zero hx]
theorem lk_fr {n : Nat} {f : List (Int × Fx)} (h : AllF n f) (h0 : 0 < n) (k : Int) : Fr (lk f k) ∧ Sz n (lk f k) := by
  induction f with
  | nil => exact ⟨fr01, sz01 h0⟩
  | cons a f ih =>
    obtain ⟨j, y⟩ := a
    rw [lk_cons]
    by_cases q : k = j
    · rw [if_pos q]
      exact h _ List.mem_cons_self
    · rw [if_neg q]
      exact ih fun b hb => h b (List.mem_cons_of_mem _ hb)
theorem lk_gat : ∀ (xs f : List (Int × Fx)) (j : Int), lk (gat f xs) j = xs.foldl (fun a kx => if j = kx.1 then fadd a kx.2 else a) (lk f j)
  | [], f, j => rfl
  | (k, x) :: xs, f, j => by
    show lk (gat (ups f k (fadd (lk f k) x)) xs) j = xs.foldl _ _
    rw [lk_gat xs, lk_ups]
    by_cases h : j = k
    · subst h
      simp
    · simp [h]
theorem gat_nodup : ∀ (xs f : List (Int × Fx)), (f.map (·.1)).Nodup → ((gat f xs).map (·.1)).Nodup
  | [], _, h => h
  | (k, x) :: xs, f, h => gat_nodup xs _ (ups_nodup f k _ h)
theorem gat_len : ∀ (xs f : List (Int × Fx)), (gat f xs).length ≤ f.length + xs.length
  | [], _ => Nat.le_refl _
  | (k, x) :: xs, f => by
    have h1 := gat_len xs (ups f k (fadd (lk f k) x))
    have h2 := ups_len f k (fadd (lk f k) x)
    show (gat (ups f k (fadd (lk f k) x)) xs).length ≤ _
    rw [List.length_cons]
    omega
theorem fold_none : ∀ (xs : List (Int × Fx)) (j : Int) (a : Fx), j ∉ xs.map (·.1) → xs.foldl (fun a kx => if j = kx.1 then fadd a kx.2 else a) a = a
  | [], _, _, _ => rfl
  | (k, x) :: xs, j, a, h => by
    simp only [List.map_cons, List.mem_cons, not_or] at h
    show xs.foldl _ (if j = k then fadd a x else a) = a
    rw [if_neg h.1]
    exact fold_none xs j a h.2
theorem lk_none {xs : List (Int × Fx)} {j : Int} (h : j ∉ xs.map (·.1)) : lk xs j = (0, 1) := by
  by_cases q : lk xs j = (0, 1)
  · exact q
  · exact absurd (lk_mem q) h
/-- one more share gathered: each key's sum -/
theorem fold_nodup : ∀ (xs : List (Int × Fx)) (j : Int) (a : Fx), Fr a → (xs.map (·.1)).Nodup → xs.foldl (fun a kx => if j = kx.1 then fadd a kx.2 else a) a = fadd a (lk xs j)
  | [], j, a, ha, _ => (fadd_zero ha).symm
  | (k, x) :: xs, j, a, ha, hn => by
    simp only [List.map_cons, List.nodup_cons] at hn
    show xs.foldl _ (if j = k then fadd a x else a) = _
    rw [lk_cons]
    by_cases h : j = k
    · subst h
      rw [if_pos rfl, if_pos rfl]
      exact fold_none xs j _ hn.1
    · rw [if_neg h, if_neg h]
      exact fold_nodup xs j a ha hn.2
theorem lk_gat_nodup {xs f : List (Int × Fx)} {n : Nat} (hf : AllF n f) (h0 : 0 < n) (hn : (xs.map (·.1)).Nodup) (j : Int) : lk (gat f xs) j = fadd (lk f j) (lk xs j) := by
  rw [lk_gat, fold_nodup xs j _ (lk_fr hf h0 j).1 hn]
/-! sums -/
def fsum (l : List Fx) : Fx := l.foldl fadd (0, 1)
def scl (x : Fx) (k : Int) : Fx := low (x.1 * k) x.2
theorem scl_fr {x : Fx} (h : Fr x) (k : Int) : Fr (scl x k) := low_fr h.ne
theorem scl_sz {x : Fx} {n m : Nat} {k : Int} (h : Fr x) (z : Sz n x) (hk : k.natAbs < 2 ^ m) : Sz (n + m) (scl x k) :=
  low_sz h.ne (abs_mul_lt z.1 hk) (lt_up z.2 (by omega))
theorem scl_mul (x : Fx) (k : Int) : fmul x (k, 1) = scl x k := by
  unfold fmul scl
  simp only [Int.mul_one]
theorem fold_fr : ∀ (l : List Fx) (a : Fx), Fr a → (∀ x ∈ l, Fr x) → Fr (l.foldl fadd a)
  | [], _, h, _ => h
  | x :: l, a, h, g => fold_fr l _ (fadd_fr h (g x List.mem_cons_self)) fun y hy => g y (List.mem_cons_of_mem _ hy)
theorem fold_sz (n : Nat) : ∀ (l : List Fx) (a : Fx) (m : Nat), Fr a → Sz m a → (∀ x ∈ l, Fr x ∧ Sz n x) → Sz (m + l.length * (n + 1)) (l.foldl fadd a)
  | [], a, m, _, z, _ => z.up (by simp)
  | x :: l, a, m, h, z, g => by
    have hx := g x List.mem_cons_self
    have := fold_sz n l (fadd a x) (m + n + 1) (fadd_fr h hx.1) (fadd_sz h hx.1 z hx.2) fun y hy => g y (List.mem_cons_of_mem _ hy)
    refine this.up ?_
    rw [List.length_cons, Nat.succ_mul]
    omega
end CS
namespace CS
def ftot (xs : List (Int × Fx)) : Fx := fsum (xs.map (·.2))
def fmom (xs : List (Int × Fx)) : Fx := fsum (xs.map fun a => scl a.2 a.1)
def frest (xs : List (Int × Fx)) (k : Int) : Fx := fsum ((xs.filter fun a => decide (k < a.1)).map fun a => scl a.2 (a.1 - k))
end CS
namespace CS
theorem cfold_fr (j : Int) : ∀ (xs : List (Int × Fx)) (a : Fx), Fr a → (∀ x ∈ xs, Fr x.2) → Fr (xs.foldl (fun a kx => if j = kx.1 then fadd a kx.2 else a) a)
  | [], a, h, _ => h
  | x :: l, a, h, g => by
    refine cfold_fr j l _ ?_ fun y hy => g y (List.mem_cons_of_mem _ hy)
    show Fr (if j = x.1 then fadd a x.2 else a)
    split
    · exact fadd_fr h (g x List.mem_cons_self)
    · exact h
theorem cfold_sz (n : Nat) (j : Int) : ∀ (xs : List (Int × Fx)) (a : Fx) (m : Nat), Fr a → Sz m a → (∀ x ∈ xs, Fr x.2 ∧ Sz n x.2) → Sz (m + xs.length * (n + 1)) (xs.foldl (fun a kx => if j = kx.1 then fadd a kx.2 else a) a)
  | [], a, m, _, z, _ => z.up (by simp)
  | x :: l, a, m, h, z, g => by
    have hx := g x List.mem_cons_self
    have h2 : Fr (if j = x.1 then fadd a x.2 else a) ∧ Sz (m + n + 1) (if j = x.1 then fadd a x.2 else a) := by
      split
      · exact ⟨fadd_fr h hx.1, fadd_sz h hx.1 z hx.2⟩
      · exact ⟨h, z.up (by omega)⟩
    have := cfold_sz n j l _ (m + n + 1) h2.1 h2.2 fun y hy => g y (List.mem_cons_of_mem _ hy)
    refine this.up ?_
    rw [List.length_cons, Nat.succ_mul]
    omega
theorem gat_fr {n : Nat} {xs : List (Int × Fx)} (h : AllF n xs) (j : Int) : Fr (lk (gat [] xs) j) := by
  rw [lk_gat]
  exact cfold_fr j xs _ fr01 fun x hx => (h x hx).1
theorem gat_sz {n : Nat} {xs : List (Int × Fx)} (h : AllF n xs) (j : Int) : Sz (1 + xs.length * (n + 1)) (lk (gat [] xs) j) := by
  rw [lk_gat]
  exact cfold_sz n j xs _ 1 fr01 (sz01 (by decide)) h
theorem gat_snoc (xs : List (Int × Fx)) (f : List (Int × Fx)) (a : Int × Fx) : gat f (xs ++ [a]) = ups (gat f xs) a.1 (fadd (lk (gat f xs) a.1) a.2) := by
  unfold gat
  rw [List.foldl_append]
  rfl
theorem AllF.take {n i : Nat} {xs : List (Int × Fx)} (h : AllF n xs) : AllF n (xs.take i) := fun a ha => h a (List.mem_of_mem_take ha)
/-- what a share is -/
def Shr (xs : List (Int × Fx)) : Prop := xs.length ≤ 8 ∧ (∀ a ∈ xs, -100 ≤ a.1 ∧ a.1 ≤ 100 ∧ Fr a.2 ∧ 0 < a.2.1) ∧ (xs.map (·.1)).Pairwise (· < ·)
instance (xs : List (Int × Fx)) : Decidable (Shr xs) := by unfold Shr; infer_instance
theorem asc_zip : ∀ (ns : List Int), (List.zipWith (fun a b => decide (a < b)) ns (ns.drop 1)).all id = decide (ns.Pairwise (· < ·))
  | [] => by simp
  | [a] => by simp
  | a :: b :: ns => by
    have ih := asc_zip (b :: ns)
    simp only [List.drop_succ_cons, List.drop_zero] at *
    rw [List.zipWith_cons_cons, List.all_cons, ih, Bool.eq_iff_iff]
    simp only [id, Bool.and_eq_true, decide_eq_true_eq, List.pairwise_cons]
    constructor
    · rintro ⟨h1, h2, h3⟩
      refine ⟨?_, h2, h3⟩
      intro c hc
      rcases List.mem_cons.mp hc with q | q
      · omega
      · have := h2 c q
        omega
    · rintro ⟨h1, h2⟩
      exact ⟨h1 b List.mem_cons_self, h2⟩
end CS
set_option Elab.async false
set_option maxRecDepth 100000
set_option maxHeartbeats 4000000
set_option linter.unusedVariables false
namespace CS
open PySem L2
/-- a def of the text, how its arguments bind, where its name leads -/
structure Df (K : PySem.W.Frag) (mg : Str → Option Value) (x : Str) (st : Stmt) (ps : List Str) (f : Addr) (fd : FuncData) : Prop where
  F : Fun K x x st f fd
  b : Binds K fd ps []
  g : mg x = some (.ref f)
/-- what the walk asks of the module's names -/
structure Bt (mg : Str → Option Value) : Prop where
  gcd : mg "gcd" = some (.builtin "math.gcd")
  isinstance : mg "isinstance" = none
  int : mg "int" = none
  tuple : mg "tuple" = none
  len : mg "len" = none
  abs : mg "abs" = none
  range : mg "range" = none
  list : mg "list" = none
  sorted : mg "sorted" = none
  zip : mg "zip" = none
  all : mg "all" = none
  dict : mg "dict" = none
end CS
namespace L2
open PySem
theorem Same.tup {K : PySem.W.Frag} {H H' : Hp} {a : Addr} {xs : List V} (e : Same H H') (h : SqT K H a xs) : SqT K H' a xs := by
  rcases h with (h | ⟨o, h⟩) | h
  · exact .inl (.inl (e _ _ h))
  · exact .inl (.inr ⟨o, e _ _ h⟩)
  · exact .inr h
theorem Same.new {H : Hp} {p : Addr} {o : HO} (h : H p = none) : Same H (upd H p o) := fun b u e => by
  rw [upd_ne (ne_of_none e h)]
  exact e
end L2
namespace CS
open PySem L2
/-! promises -/
def spLow : Sp := fun vs H Q _ => ∃ t b : Int, vs = [.int t, .int b] ∧ b ≠ 0 ∧ t.natAbs < 2 ^ 4000 ∧ b.natAbs < 2 ^ 4000 ∧
  ∀ p, H p = none → Q (.ref p) (upd H p (.tup [.int (low t b).1, .int (low t b).2]))
/-- two fractions in, a new one out -/
def spF2 (K : PySem.W.Frag) (ok : Int × Int → Int × Int → Prop) (f : Int × Int → Int × Int → Int × Int) : Sp := fun vs H Q _ => ∃ p q x y, vs = [.ref p, .ref q] ∧ FT K H p x ∧ FT K H q y ∧ Fr x ∧ Fr y ∧ Sz 1900 x ∧ Sz 1900 y ∧ ok x y ∧
  ∀ r, H r = none → Q (.ref r) (upd H r (.tup [.int (f x y).1, .int (f x y).2]))
def spB2 (K : PySem.W.Frag) (f : Int × Int → Int × Int → Bool) : Sp := fun vs H Q _ => ∃ p q x y, vs = [.ref p, .ref q] ∧ FT K H p x ∧ FT K H q y ∧ Fr x ∧ Fr y ∧ Sz 1900 x ∧ Sz 1900 y ∧ Q (.bl (f x y)) H
def spWhole (K : PySem.W.Frag) : Sp := fun vs H Q _ => ∃ i : Int, vs = [.int i] ∧ Q (.bl true) H
def spRow (K : PySem.W.Frag) : Sp := fun vs H Q _ => ∃ p xs, vs = [.ref p] ∧ SqT K H p xs ∧ Q (.bl true) H
def spRowOf (K : PySem.W.Frag) : Sp := fun vs H Q _ => ∃ p xs n, vs = [.ref p, .int n] ∧ SqT K H p xs ∧ Q (.bl (decide ((xs.length : Int) = n))) H
def spIsFr (K : PySem.W.Frag) : Sp := fun vs H Q _ => ∃ p x, vs = [.ref p] ∧ FT K H p x ∧ Q (.bl (decide (Fr x))) H
def spNeedFr (K : PySem.W.Frag) : Sp := fun vs H Q _ => ∃ p x, vs = [.ref p] ∧ FT K H p x ∧ Fr x ∧ Q (.ref p) H

end CS
namespace CS
open PySem L2
/-- the pairs of a state of draws -/
def stD (c l : Addr) (k : Int) : List (Key × V) := [(Sum.inr "cells", .ref c), (Sum.inr "lefts", .ref l), (Sum.inr "at", .int k), (Sum.inr "room", .int 0)]
theorem kn1 : ¬ (("cells" : Str) = "lefts") := by decide +kernel
theorem kn2 : ¬ (("cells" : Str) = "at") := by decide +kernel
theorem kn3 : ¬ (("cells" : Str) = "room") := by decide +kernel
theorem kn4 : ¬ (("lefts" : Str) = "at") := by decide +kernel
theorem kn5 : ¬ (("lefts" : Str) = "room") := by decide +kernel
theorem kn6 : ¬ (("at" : Str) = "room") := by decide +kernel
theorem kn7 : ¬ (("room" : Str) = "at") := by decide +kernel
theorem stD_cells (c l : Addr) (k : Int) : valV (stD c l k) (Sum.inr ("cells" : Str)) = some (.ref c) := valV_pos rfl
theorem stD_lefts (c l : Addr) (k : Int) : valV (stD c l k) (Sum.inr ("lefts" : Str)) = some (.ref l) := by
  simp [stD, valV, List.find?_cons, kn1]
theorem stD_at (c l : Addr) (k : Int) : valV (stD c l k) (Sum.inr ("at" : Str)) = some (.int k) := by
  simp [stD, valV, List.find?_cons, kn2, kn4]
theorem stD_put (c l : Addr) (k k' : Int) : putK (stD c l k) (Sum.inr ("at" : Str)) (.int k') = stD c l k' := by
  simp [stD, putK, kn2, kn4, kn7]
theorem stD_make (c l : Addr) : mergeK [] [((Sum.inr ("cells" : Str) : Key), V.ref c), (Sum.inr ("lefts" : Str), .ref l), (Sum.inr ("at" : Str), .int 0), (Sum.inr ("room" : Str), .int 0)] = stD c l 0 := by
  simp [mergeK, putK, stD, kn1, kn2, kn3, kn4, kn5, kn6]
/-- a state of draws, k of them done -/
structure StAt (H : Hp) (d c l : Addr) (k : Nat) : Prop where
  hd : H d = some (.dK (stD c l k))
  ne : c ≠ l
  ex : ∃ cs ls : List Int, H c = some (.lst (cs.map V.int)) ∧ H l = some (.lst (ls.map V.int)) ∧ cs.length = ls.length ∧ 0 < cs.length ∧ cs.length ≤ 64 ∧ ∀ v ∈ ls, 0 ≤ v
/-- what does not belong to the state is as it was -/
def Fm (d l : Addr) (H H' : Hp) : Prop := ∀ b o, H b = some o → b ≠ d → b ≠ l → H' b = some o
theorem Fm.refl (d l : Addr) (H : Hp) : Fm d l H H := fun _ _ e _ _ => e
theorem Fm.trans {d l : Addr} {H H1 H2 : Hp} (a : Fm d l H H1) (b : Fm d l H1 H2) : Fm d l H H2 := fun c o h n m => b c o (a c o h n m) n m
theorem Fm.same {d l : Addr} {H H1 H2 : Hp} (a : Fm d l H H1) (b : Same H1 H2) : Fm d l H H2 := fun c o h n m => b c o (a c o h n m)
theorem same_fm {d l : Addr} {H H1 : Hp} (a : Same H H1) : Fm d l H H1 := fun c o h _ _ => a c o h
theorem StAt.same {H H' : Hp} {d c l : Addr} {k : Nat} (S : StAt H d c l k) (e : Same H H') : StAt H' d c l k := by
  obtain ⟨hd, ne, cs, ls, h1, h2, r⟩ := S
  exact ⟨e _ _ hd, ne, cs, ls, e _ _ h1, e _ _ h2, r⟩
/-- a tuple that stood stands -/
theorem Fm.tup {K : PySem.W.Frag} {H H' : Hp} {d c l p : Addr} {k : Nat} {xs : List V} (e : Fm d l H H') (S : StAt H d c l k) (h : SqT K H p xs) : SqT K H' p xs := by
  obtain ⟨hd, ne, cs, ls, h1, h2, r⟩ := S
  rcases h with (h | ⟨o, h⟩) | h
  · exact .inl (.inl (e _ _ h (fun q => by subst q; rw [hd] at h; cases h) (fun q => by subst q; rw [h2] at h; cases h)))
  · exact .inl (.inr ⟨o, e _ _ h (fun q => by subst q; rw [hd] at h; cases h) (fun q => by subst q; rw [h2] at h; cases h)⟩)
  · exact .inr h
def spMixed : Sp := fun vs H Q _ => ∃ c k : Int, vs = [.int c, .int k] ∧ 0 ≤ k ∧ k ≤ 1000000 ∧ ∀ r : Int, 0 ≤ r → r < 2147483629 → Q (.int r) H
def spBegin (K : PySem.W.Frag) : Sp := fun vs H Q _ => ∃ (a : Addr) (ns : List Int), vs = [.ref a] ∧ SqL K H a (ns.map V.int) ∧ ns.length ≤ 63 ∧ ∀ d c l H', H d = none → Same H H' → StAt H' d c l 0 → Q (.ref d) H'
def spDraw : Sp := fun vs H Q _ => ∃ (d c l : Addr) (k : Nat) (m : Int), vs = [.ref d, .int m] ∧ StAt H d c l k ∧ 0 < m ∧ m.natAbs < 2 ^ 200 ∧ k ≤ 100000 ∧ ∀ r H', 0 ≤ r → r < m → StAt H' d c l (k + 1) → Fm d l H H' → Q (.int r) H'

end CS
namespace CS
open PySem L2
def spLowP : Sp := fun vs H Q _ => ∃ t b : Int, vs = [.int t, .int b] ∧ 0 < b ∧ t.natAbs < 2 ^ 4000 ∧ b.natAbs < 2 ^ 4000 ∧
  ∀ p, H p = none → Q (.ref p) (upd H p (.tup [.int (low t b).1, .int (low t b).2]))
def spDrawn (K : PySem.W.Frag) : Sp := fun vs H Q _ => ∃ (d c l : Addr) (k : Nat), vs = [.ref d] ∧ StAt H d c l k ∧ k ≤ 90000 ∧
  ∀ p H' x, Fr x → Sz 70 x → StAt H' d c l (k + 3) → Fm d l H H' → FT K H' p x → Q (.ref p) H'

end CS
namespace CS
open PySem L2
section
variable {K : PySem.W.Frag}
theorem eqv2 (x : Int × Int) : PyData.eqv (.tuple [.int x.1, .int x.2]) (.tuple [.int x.1, .int x.2]) = true := by
  simp [PyData.eqv, PyData.eqvAll]
theorem ne_same {H : Hp} {p q : Addr} {x y : Int × Int} {Q : VK} (hp : FT K H p x) (hq : FT K H q y) (e : x = y) (h : Q (.bl false) H) : rNeD K (.ref p) (.ref q) H Q := by
  subst e
  refine ⟨.tuple [.int x.1, .int x.2], .tuple [.int x.1, .int x.2], .tup hp (.cons (.int _) (.cons (.int _) .nil)), .tup hq (.cons (.int _) (.cons (.int _) .nil)), rfl, rfl, ?_⟩
  rw [eqv2]
  exact h
theorem eq_same {H : Hp} {p q : Addr} {x y : Int × Int} {Q : VK} (hp : FT K H p x) (hq : FT K H q y) (e : x = y) (h : Q (.bl true) H) : rEqD K (.ref p) (.ref q) H Q := by
  subst e
  refine ⟨.tuple [.int x.1, .int x.2], .tuple [.int x.1, .int x.2], .tup hp (.cons (.int _) (.cons (.int _) .nil)), .tup hq (.cons (.int _) (.cons (.int _) .nil)), rfl, rfl, ?_⟩
  rw [eqv2]
  exact h
theorem FT.new {H : Hp} {r : Addr} {x : Int × Int} : FT K (upd H r (.tup [.int x.1, .int x.2])) r x := SqT.of upd_same
theorem abs_if (z : Int) : (if z < 0 then -z else z) = ((z.natAbs : Nat) : Int) := by split <;> omega
end
/-! shares in the heap -/
/-- refs to pairs of a number and a fraction -/
inductive PrsAt (K : PySem.W.Frag) (H : Hp) : List V → List (Int × Fx) → Prop where
  | nil : PrsAt K H [] []
  | cons {q r : Addr} {m : Int} {x : Fx} {vs : List V} {xs : List (Int × Fx)} (h1 : SqT K H q [.int m, .ref r]) (h2 : FT K H r x) (h3 : PrsAt K H vs xs) : PrsAt K H (.ref q :: vs) ((m, x) :: xs)
def ShAt (K : PySem.W.Frag) (H : Hp) (p : Addr) (xs : List (Int × Fx)) : Prop := ∃ vs, SqT K H p vs ∧ PrsAt K H vs xs
/-- refs to fractions -/
inductive FsAt (K : PySem.W.Frag) (H : Hp) : List V → List Fx → Prop where
  | nil : FsAt K H [] []
  | cons {r : Addr} {x : Fx} {vs : List V} {xs : List Fx} (h2 : FT K H r x) (h3 : FsAt K H vs xs) : FsAt K H (.ref r :: vs) (x :: xs)
section
variable {K : PySem.W.Frag} {H H' : Hp}
/-- what keeps tuples -/
def TK (K : PySem.W.Frag) (H H' : Hp) : Prop := ∀ (p : Addr) (xs : List V), SqT K H p xs → SqT K H' p xs
theorem tk_same (e : Same H H') : TK K H H' := fun _ _ h => e.tup h
theorem tk_fm {d c l : Addr} {k : Nat} (e : Fm d l H H') (S : StAt H d c l k) : TK K H H' := fun _ _ h => e.tup S h
theorem TK.trans {H1 : Hp} (a : TK K H H1) (b : TK K H1 H') : TK K H H' := fun p xs h => b p xs (a p xs h)
theorem PrsAt.tk (e : TK K H H') : ∀ {vs : List V} {xs : List (Int × Fx)}, PrsAt K H vs xs → PrsAt K H' vs xs
  | _, _, .nil => .nil
  | _, _, .cons a b c => .cons (e _ _ a) (e _ _ b) (PrsAt.tk e c)
theorem ShAt.tk {p : Addr} {xs : List (Int × Fx)} (e : TK K H H') (h : ShAt K H p xs) : ShAt K H' p xs := by
  obtain ⟨vs, a, b⟩ := h
  exact ⟨vs, e _ _ a, b.tk e⟩
theorem FsAt.tk (e : TK K H H') : ∀ {vs : List V} {xs : List Fx}, FsAt K H vs xs → FsAt K H' vs xs
  | _, _, .nil => .nil
  | _, _, .cons a b => .cons (e _ _ a) (FsAt.tk e b)
theorem PrsAt.len : ∀ {vs : List V} {xs : List (Int × Fx)}, PrsAt K H vs xs → vs.length = xs.length
  | _, _, .nil => rfl
  | _, _, .cons _ _ c => by simp [c.len]
theorem FsAt.len : ∀ {vs : List V} {xs : List Fx}, FsAt K H vs xs → vs.length = xs.length
  | _, _, .nil => rfl
  | _, _, .cons _ c => by simp [c.len]
theorem PrsAt.get : ∀ {vs : List V} {xs : List (Int × Fx)} {i : Nat} {v : V}, PrsAt K H vs xs → vs[i]? = some v → ∃ q r m x, v = .ref q ∧ xs[i]? = some (m, x) ∧ SqT K H q [.int m, .ref r] ∧ FT K H r x
  | _, _, 0, _, .cons a b c, e => by
    cases e
    exact ⟨_, _, _, _, rfl, rfl, a, b⟩
  | _, _, i + 1, _, .cons a b c, e => by
    obtain ⟨q, r, m, x, h1, h2, h3, h4⟩ := PrsAt.get c (by simpa using e)
    exact ⟨q, r, m, x, h1, by simpa using h2, h3, h4⟩
theorem FsAt.get : ∀ {vs : List V} {xs : List Fx} {i : Nat} {v : V}, FsAt K H vs xs → vs[i]? = some v → ∃ r x, v = .ref r ∧ xs[i]? = some x ∧ FT K H r x
  | _, _, 0, _, .cons a b, e => by
    cases e
    exact ⟨_, _, rfl, rfl, a⟩
  | _, _, i + 1, _, .cons a c, e => by
    obtain ⟨r, x, h1, h2, h4⟩ := FsAt.get c (by simpa using e)
    exact ⟨r, x, h1, by simpa using h2, h4⟩
theorem PrsAt.app {vs ws : List V} {xs ys : List (Int × Fx)} (a : PrsAt K H vs xs) (b : PrsAt K H ws ys) : PrsAt K H (vs ++ ws) (xs ++ ys) := by
  induction a with
  | nil => exact b
  | cons h1 h2 h3 ih => exact .cons h1 h2 ih
theorem FsAt.app {vs ws : List V} {xs ys : List Fx} (a : FsAt K H vs xs) (b : FsAt K H ws ys) : FsAt K H (vs ++ ws) (xs ++ ys) := by
  induction a with
  | nil => exact b
  | cons h1 h3 ih => exact .cons h1 ih
/-! shares as data -/
def prD (a : Int × Fx) : PyData := .tuple [.int a.1, .tuple [.int a.2.1, .int a.2.2]]
def shD (xs : List (Int × Fx)) : PyData := .tuple (xs.map prD)
theorem PrsAt.dp : ∀ {vs : List V} {xs : List (Int × Fx)}, PrsAt K H vs xs → DpAll K H vs (xs.map prD)
  | _, _, .nil => .nil
  | _, _, .cons a b c => .cons (.tup a (.cons (.int _) (.cons (.tup b (.cons (.int _) (.cons (.int _) .nil))) .nil))) c.dp
theorem ShAt.dp {p : Addr} {xs : List (Int × Fx)} (h : ShAt K H p xs) : Dp K H (.ref p) (shD xs) := by
  obtain ⟨vs, a, b⟩ := h
  exact .tup a b.dp
theorem cl1 : ∀ xs : List (Int × Fx), PyData.canLayAll0 (xs.map prD) = true
  | [] => rfl
  | n :: ns => by
    show (PyData.canLay0 (prD n) && PyData.canLayAll0 (ns.map prD)) = true
    rw [cl1 ns]
    rfl
theorem dp1 : ∀ xs : List (Int × Fx), PyData.depthAll (xs.map prD) ≤ 2
  | [] => by decide
  | n :: ns => by
    have := dp1 ns
    simp [PyData.depthAll, PyData.depth, prD] at *
    omega
theorem shShaped (xs : List (Int × Fx)) : SeqAt.shaped (shD xs) = true := by
  have h1 := cl1 xs
  have h2 := dp1 xs
  simp [SeqAt.shaped, PyData.canLay0, PyData.depth, h1, shD]
  omega
theorem eqvPr (a b : Int × Fx) : PyData.eqv (prD a) (prD b) = decide (a = b) := by
  obtain ⟨m, x, y⟩ := a
  obtain ⟨n, z, w⟩ := b
  simp only [prD, PyData.eqv, PyData.eqvAll, Bool.and_true]
  by_cases h1 : m = n <;> by_cases h2 : x = z <;> by_cases h3 : y = w <;> simp [h1, h2, h3]
theorem eqvPrs : ∀ xs ys : List (Int × Fx), PyData.eqvAll (xs.map prD) (ys.map prD) = decide (xs = ys)
  | [], [] => by simp [PyData.eqvAll]
  | [], _ :: _ => by simp [PyData.eqvAll]
  | _ :: _, [] => by simp [PyData.eqvAll]
  | a :: xs, b :: ys => by
    simp only [List.map_cons, PyData.eqvAll, eqvPr, eqvPrs xs ys]
    by_cases h1 : a = b <;> by_cases h2 : xs = ys <;> simp [h1, h2]
theorem eqvSh (xs ys : List (Int × Fx)) : PyData.eqv (shD xs) (shD ys) = decide (xs = ys) := eqvPrs xs ys
theorem shNe {p q : Addr} {xs ys : List (Int × Fx)} {Q : VK} (hp : ShAt K H p xs) (hq : ShAt K H q ys) (h : Q (.bl (!decide (xs = ys))) H) : rNeD K (.ref p) (.ref q) H Q :=
  ⟨shD xs, shD ys, hp.dp, hq.dp, shShaped _, shShaped _, by rw [eqvSh]; exact h⟩
theorem shEq {p q : Addr} {xs ys : List (Int × Fx)} {Q : VK} (hp : ShAt K H p xs) (hq : ShAt K H q ys) (h : Q (.bl (decide (xs = ys))) H) : rEqD K (.ref p) (.ref q) H Q :=
  ⟨shD xs, shD ys, hp.dp, hq.dp, shShaped _, shShaped _, by rw [eqvSh]; exact h⟩
theorem eqvF (x y : Fx) : PyData.eqv (.tuple [.int x.1, .int x.2]) (.tuple [.int y.1, .int y.2]) = decide (x = y) := by
  obtain ⟨a, b⟩ := x
  obtain ⟨c, d⟩ := y
  simp only [PyData.eqv, PyData.eqvAll, Bool.and_true]
  by_cases h1 : a = c <;> by_cases h2 : b = d <;> simp [h1, h2]
def frD (x : Fx) : PyData := .tuple [.int x.1, .int x.2]
theorem ftDp {p : Addr} {x : Fx} (h : FT K H p x) : Dp K H (.ref p) (frD x) := .tup h (.cons (.int _) (.cons (.int _) .nil))
theorem eqvFr (x y : Fx) : PyData.eqv (frD x) (frD y) = decide (x = y) := eqvF x y
theorem ftNe {p q : Addr} {x y : Fx} {Q : VK} (hp : FT K H p x) (hq : FT K H q y) (h : Q (.bl (!decide (x = y))) H) : rNeD K (.ref p) (.ref q) H Q :=
  ⟨.tuple [.int x.1, .int x.2], .tuple [.int y.1, .int y.2], .tup hp (.cons (.int _) (.cons (.int _) .nil)), .tup hq (.cons (.int _) (.cons (.int _) .nil)), rfl, rfl, by rw [eqvF]; exact h⟩
/-! tables from numbers to fractions -/
inductive DPr (K : PySem.W.Frag) (H : Hp) : List (Key × V) → List (Int × Fx) → Prop where
  | nil : DPr K H [] []
  | cons {k : Int} {r : Addr} {x : Fx} {kvs : List (Key × V)} {f : List (Int × Fx)} (h : FT K H r x) (t : DPr K H kvs f) : DPr K H ((Sum.inl k, .ref r) :: kvs) ((k, x) :: f)
theorem DPr.tk (e : TK K H H') : ∀ {kvs : List (Key × V)} {f : List (Int × Fx)}, DPr K H kvs f → DPr K H' kvs f
  | _, _, .nil => .nil
  | _, _, .cons a b => .cons (e _ _ a) (DPr.tk e b)
theorem DPr.keys : ∀ {kvs : List (Key × V)} {f : List (Int × Fx)}, DPr K H kvs f → kvs.map (·.1) = (f.map (·.1)).map Sum.inl
  | _, _, .nil => rfl
  | _, _, .cons _ b => by simp [b.keys]
theorem DPr.len {kvs : List (Key × V)} {f : List (Int × Fx)} (h : DPr K H kvs f) : kvs.length = f.length := by
  have := congrArg List.length h.keys
  simpa using this
theorem DPr.val : ∀ {kvs : List (Key × V)} {f : List (Int × Fx)}, DPr K H kvs f → ∀ k : Int, k ∈ f.map (·.1) → ∃ r, valV kvs (Sum.inl k : Key) = some (.ref r) ∧ FT K H r (lk f k)
  | _, _, .nil, k, hm => by cases hm
  | _, _, @DPr.cons _ _ j r x kvs f a b, k, hm => by
    by_cases h : k = j
    · subst h
      refine ⟨r, valV_pos rfl, ?_⟩
      rw [lk_cons, if_pos rfl]
      exact a
    · have hm2 : k ∈ f.map (·.1) := by
        simp only [List.map_cons, List.mem_cons] at hm
        rcases hm with q | q
        · exact absurd q h
        · exact q
      obtain ⟨r', h1, h2⟩ := b.val k hm2
      refine ⟨r', ?_, ?_⟩
      · rw [valV_neg (by intro z; exact h (Sum.inl.inj z).symm)]
        exact h1
      · rw [lk_cons, if_neg h]
        exact h2
theorem DPr.non : ∀ {kvs : List (Key × V)} {f : List (Int × Fx)}, DPr K H kvs f → ∀ k : Int, k ∉ f.map (·.1) → valV kvs (Sum.inl k : Key) = none
  | _, _, .nil, k, hm => rfl
  | _, _, @DPr.cons _ _ j r x kvs f a b, k, hm => by
    simp only [List.map_cons, List.mem_cons, not_or] at hm
    rw [valV_neg (by intro z; exact hm.1 (Sum.inl.inj z).symm)]
    exact b.non k hm.2
theorem putK_c1 {k : Key} {u v : V} {kvs : List (Key × V)} (hn : ∀ p ∈ kvs, p.1 ≠ k) : putK ((k, u) :: kvs) k v = (k, v) :: kvs := by
  unfold putK
  have : (((k, u) :: kvs).any fun kv => decide (kv.1 = k)) = true := by simp
  rw [if_pos this]
  simp only [List.map_cons, if_pos]
  congr 1
  conv => rhs; rw [← List.map_id kvs]
  apply List.map_congr_left
  intro p hp
  simp [hn p hp]
theorem putK_c2 {j k : Key} {u v : V} {kvs : List (Key × V)} (h : j ≠ k) : putK ((j, u) :: kvs) k v = (j, u) :: putK kvs k v := by
  unfold putK
  by_cases q : (kvs.any fun kv => decide (kv.1 = k)) = true
  · have : (((j, u) :: kvs).any fun kv => decide (kv.1 = k)) = true := by simp only [List.any_cons, q, Bool.or_true]
    rw [if_pos this, if_pos q]
    simp [h]
  · have : ¬ (((j, u) :: kvs).any fun kv => decide (kv.1 = k)) = true := by
      simp only [List.any_cons, Bool.or_eq_true, not_or]
      exact ⟨by simp [h], q⟩
    rw [if_neg this, if_neg q]
    rfl
theorem DPr.put {kvs : List (Key × V)} {f : List (Int × Fx)} (h : DPr K H kvs f) (hn : (f.map (·.1)).Nodup) {k : Int} {r : Addr} {x : Fx} (hr : FT K H r x) : DPr K H (putK kvs (Sum.inl k : Key) (.ref r)) (ups f k x) := by
  induction h with
  | nil =>
    show DPr K H [(Sum.inl k, .ref r)] [(k, x)]
    exact .cons hr .nil
  | @cons j r' y kvs f a b ih =>
    rw [List.map_cons, List.nodup_cons] at hn
    by_cases q : j = k
    · subst q
      rw [putK_c1 (by
        intro p hp e
        have : p.1 ∈ kvs.map (·.1) := List.mem_map.mpr ⟨p, hp, rfl⟩
        rw [b.keys, e] at this
        obtain ⟨z, hz, ez⟩ := List.mem_map.mp this
        exact hn.1 ((Sum.inl.inj ez) ▸ hz))]
      have : ups ((j, y) :: f) j x = (j, x) :: f := by simp [ups]
      rw [this]
      exact .cons hr b
    · rw [putK_c2 (by intro z; exact q (Sum.inl.inj z))]
      have : ups ((j, y) :: f) k x = (j, y) :: ups f k x := by simp [ups, q]
      rw [this]
      exact .cons a (ih hn.2)
end
section
variable {K : PySem.W.Frag} {H H4 : Hp} {D : Addr}
theorem tk_lst {xs ys : List V} (h : H D = some (.lst xs)) : TK K H (upd H D (.lst ys)) := fun p zs hp => by
  rcases hp with (hp | ⟨o, hp⟩) | hp
  · exact .inl (.inl (by rw [upd_ne (fun z => by rw [z, h] at hp; cases hp)]; exact hp))
  · exact .inl (.inr ⟨o, by rw [upd_ne (fun z => by rw [z, h] at hp; cases hp)]; exact hp⟩)
  · exact .inr hp
theorem tk_dk {xs ys : List (Key × V)} (h : H D = some (.dK xs)) : TK K H (upd H D (.dK ys)) := fun p zs hp => by
  rcases hp with (hp | ⟨o, hp⟩) | hp
  · exact .inl (.inl (by rw [upd_ne (fun z => by rw [z, h] at hp; cases hp)]; exact hp))
  · exact .inl (.inr ⟨o, by rw [upd_ne (fun z => by rw [z, h] at hp; cases hp)]; exact hp⟩)
  · exact .inr hp
theorem same_upd {H0 : Hp} {o : HO} (h0 : H0 D = none) (s : Same H0 H4) : Same H0 (upd H4 D o) := fun b u e => by
  rw [upd_ne (ne_of_none e h0)]
  exact s b u e
/-- a list of fractions that is being made at D -/
def LcF (K : PySem.W.Frag) (H : Hp) (D : Addr) (zs : List Fx) (H' : Hp) : Prop := ∃ ws, H' D = some (.lst ws) ∧ Same H H' ∧ FsAt K H' ws zs
theorem LcF.start (h : H D = none) : LcF K H D [] (upd H D (.lst [])) := ⟨[], upd_same, Same.new h, .nil⟩
theorem LcF.step {zs : List Fx} {ws : List V} {y : Addr} {x : Fx} (h0 : H D = none) (h1 : H4 D = some (.lst ws)) (s : Same H H4) (f : FsAt K H4 ws zs) (hx : FT K H4 y x) : LcF K H D (zs ++ [x]) (upd H4 D (.lst (ws ++ [.ref y]))) :=
  ⟨_, upd_same, same_upd h0 s, (f.app (.cons hx .nil)).tk (tk_lst h1)⟩
/-- a list of pairs that is being made at D -/
def LcP (K : PySem.W.Frag) (H : Hp) (D : Addr) (zs : List (Int × Fx)) (H' : Hp) : Prop := ∃ ws, H' D = some (.lst ws) ∧ Same H H' ∧ PrsAt K H' ws zs
theorem LcP.start (h : H D = none) : LcP K H D [] (upd H D (.lst [])) := ⟨[], upd_same, Same.new h, .nil⟩
theorem LcP.step {zs : List (Int × Fx)} {ws : List V} {q r : Addr} {m : Int} {x : Fx} (h0 : H D = none) (h1 : H4 D = some (.lst ws)) (s : Same H H4) (f : PrsAt K H4 ws zs) (hq : SqT K H4 q [.int m, .ref r]) (hx : FT K H4 r x) :
    LcP K H D (zs ++ [(m, x)]) (upd H4 D (.lst (ws ++ [.ref q]))) :=
  ⟨_, upd_same, same_upd h0 s, (f.app (.cons hq hx .nil)).tk (tk_lst h1)⟩
theorem take_snoc {α : Type} {l : List α} {i : Nat} {a : α} (h : l[i]? = some a) : l.take (i + 1) = l.take i ++ [a] := by
  rw [List.take_add_one, h]
  rfl
theorem small {n : Nat} (h : n ≤ 1000) : n ≤ sizeLine := Nat.le_of_lt (small1000 h)
end
/-! promises -/
def spScaled (K : PySem.W.Frag) : Sp := fun vs H Q _ => ∃ p x k, vs = [.ref p, .int k] ∧ FT K H p x ∧ Fr x ∧ Sz 1900 x ∧ k.natAbs < 2 ^ 20 ∧ ∀ r, H r = none → Q (.ref r) (upd H r (.tup [.int (scl x k).1, .int (scl x k).2]))
def spSum (K : PySem.W.Frag) : Sp := fun vs H Q _ => ∃ a ws xs, vs = [.ref a] ∧ SqL K H a ws ∧ FsAt K H ws xs ∧ (∀ x ∈ xs, Fr x ∧ Sz 100 x) ∧ xs.length ≤ 16 ∧ ∀ H' p, Same H H' → FT K H' p (fsum xs) → Q (.ref p) H'
/-- of a share: a fraction -/
def spShF (K : PySem.W.Frag) (f : List (Int × Fx) → Fx) : Sp := fun vs H Q _ => ∃ p xs, vs = [.ref p] ∧ ShAt K H p xs ∧ AllF 90 xs ∧ (∀ a ∈ xs, a.1.natAbs ≤ 200) ∧ xs.length ≤ 16 ∧ ∀ H' r, Same H H' → FT K H' r (f xs) → Q (.ref r) H'
def spShFk (K : PySem.W.Frag) (f : List (Int × Fx) → Int → Fx) : Sp := fun vs H Q _ => ∃ p xs k, vs = [.ref p, .int k] ∧ ShAt K H p xs ∧ AllF 90 xs ∧ (∀ a ∈ xs, a.1.natAbs ≤ 200) ∧ k.natAbs ≤ 200 ∧ xs.length ≤ 16 ∧ ∀ H' r, Same H H' → FT K H' r (f xs k) → Q (.ref r) H'
end CS
set_option Elab.async false
set_option maxRecDepth 100000
set_option maxHeartbeats 4000000
set_option linter.unusedVariables false
namespace CS
open PySem L2
def top (i : Nat) : Stmt := PySem.Challenge.pw_curtainsteps_k38_errors_by_their_classes.main.body.getD i (.Pass ⟨0, 0, 0, 0⟩)
abbrev sSteperror : Stmt := top 2
abbrev sBadPaper : Stmt := top 3
abbrev sBadBook : Stmt := top 4
abbrev sBadFraction : Stmt := top 5
abbrev sBadshare : Stmt := top 6
abbrev sBadnumber : Stmt := top 7
abbrev sBadweight : Stmt := top 8
abbrev sBadOrder : Stmt := top 9
abbrev sBadTable : Stmt := top 10
abbrev sBadCrossing : Stmt := top 11
abbrev sBadCosts : Stmt := top 12
abbrev sBadDays : Stmt := top 13
abbrev sBadClaim : Stmt := top 14
abbrev sBadFair : Stmt := top 15
abbrev sBadHedge : Stmt := top 16
abbrev sBadLabel : Stmt := top 17
abbrev sBadQuote : Stmt := top 18
abbrev sNotWider : Stmt := top 19
abbrev sSureGain : Stmt := top 20
abbrev sBadTerm : Stmt := top 21
abbrev sBadMix : Stmt := top 22
abbrev sBadText : Stmt := top 23
abbrev sToomany : Stmt := top 24
abbrev sNothingLeft : Stmt := top 25
abbrev sMissing : Stmt := top 26
abbrev sLowered : Stmt := top 29
abbrev sAdded : Stmt := top 30
abbrev sLessened : Stmt := top 31
abbrev sDivided : Stmt := top 32
abbrev sScaled : Stmt := top 33
abbrev sIsBelow : Stmt := top 34
abbrev sSumOf : Stmt := top 35
abbrev sIsWhole : Stmt := top 38
abbrev sIsRow : Stmt := top 39
abbrev sIsRowOf : Stmt := top 40
abbrev sIsWholeWithin : Stmt := top 41
abbrev sIsNumber : Stmt := top 42
abbrev sIsFraction : Stmt := top 43
abbrev sIsWeight : Stmt := top 44
abbrev sAscends : Stmt := top 45
abbrev sIsSharePair : Stmt := top 46
abbrev sIsShare : Stmt := top 47
abbrev sRatio : Stmt := top 49
abbrev sGathered : Stmt := top 51
abbrev sTotalOf : Stmt := top 52
abbrev sMomentOf : Stmt := top 53
abbrev sRestOf : Stmt := top 54
abbrev sHasLesserRest : Stmt := top 55
abbrev sRefusal : Stmt := top 56
abbrev sNeedNumber : Stmt := top 58
abbrev sNeedWeight : Stmt := top 59
abbrev sNeedShare : Stmt := top 61
abbrev sTakenFrom : Stmt := top 62
abbrev sFits : Stmt := top 64
abbrev sWindowBetween : Stmt := top 65
abbrev sWindow : Stmt := top 66
abbrev sNeedWider : Stmt := top 68
abbrev sBuilt : Stmt := top 69
abbrev sBuiltFromLeft : Stmt := top 70
abbrev sLeftTable : Stmt := top 71
abbrev sMixed : Stmt := top 73
abbrev sBegin : Stmt := top 74
abbrev sDraw : Stmt := top 75
abbrev sLawValues : Stmt := top 76
abbrev sLawSorts : Stmt := top 77
abbrev sLawAbove : Stmt := top 78
abbrev sLawGivenOnes : Stmt := top 79
abbrev sLawRight : Stmt := top 80
abbrev sLaw : Stmt := top 81
section
variable {P : Program} {w : World} {K : PySem.W.Frag} {mg : Str → Option Value} {base : Heap}
theorem scLowered : FnScope ["top", "bottom", "common"] ["top", "bottom"] (defScope sLowered) := ⟨rfl, rfl, rfl, by decide +kernel, rfl, by decide +kernel, by decide +kernel⟩
theorem ok_lowered {f : Addr} {fd : FuncData} (F : Df K mg "lowered" sLowered ["top", "bottom"] f fd) (T : Bt mg) : FnOk P w K mg base CX0 1 f fd ["top", "bottom"] spLow := by
  refine F.F.ok scLowered (fun vs H Q E h => ?_) (fun cdv A outer s H vs Q E hr h => ?_)
  · obtain ⟨t, b, rfl, _⟩ := h
    rfl
  · obtain ⟨t, b, rfl, hb, h1, h2, k⟩ := h
    refine ⟨_, pss_cons (ps_set (i := 2) scLowered.nd rfl (Or.inl rfl) (pe_callBfun cr_gcd (by rfl) T.gcd (pa_cons (pv 0) (pa_cons (pv 1) pa_nil))))
      (pss_cons (ps_if (pt_cmpR op_lt (pv 1) pe_int (nomark _)) (pss_one (ps_set (i := 2) scLowered.nd rfl (Or.inl rfl) (pe_un un_neg (pv 2)))) pss_nil)
      (pss_one (ps_ret (pe_tup (pa_cons (pe_op op_fdivX (pv 0) (pv 2)) (pa_cons (pe_op op_fdivX (pv 1) (pv 2)) pa_nil)))))), ?_⟩
    have hc := cm_ne (t := t) hb
    have hz : (cm t b).natAbs.log2 < 9000 := by
      rw [cm_abs]
      have : Int.gcd t b ≤ b.natAbs := Nat.le_of_dvd (by omega) (Nat.gcd_dvd_right _ _)
      exact Nat.lt_of_lt_of_le (PySem.Flt.log2_lt_of (by decide) (Nat.lt_of_le_of_lt this h2)) (by decide)
    refine ⟨_, rfl, _, rfl, t, b, rfl, _, rfl, _, _, rfl, rfl, _, rfl, ?_⟩
    by_cases hlt : b < 0
    · have e : cm t b = -(Int.gcd t b : Int) := if_pos hlt
      rw [decide_eq_true hlt]
      refine iteT ?_
      refine ⟨_, rfl, _, rfl, ?_⟩
      refine ⟨_, rfl, _, rfl, t, _, rfl, rfl, ⟨e ▸ hc, e ▸ hz⟩, _, rfl, _, rfl, b, _, rfl, rfl, ⟨e ▸ hc, e ▸ hz⟩, (by show 2 ≤ sizeLine; decide), fun p hp => ?_⟩
      have := k p hp
      unfold low at this
      rw [e] at this
      exact this
    · have e : cm t b = (Int.gcd t b : Int) := if_neg hlt
      rw [decide_eq_false hlt]
      refine iteF ?_
      refine ⟨_, rfl, _, rfl, t, _, rfl, rfl, ⟨e ▸ hc, e ▸ hz⟩, _, rfl, _, rfl, b, _, rfl, rfl, ⟨e ▸ hc, e ▸ hz⟩, (by show 2 ≤ sizeLine; decide), fun p hp => ?_⟩
      have := k p hp
      unfold low at this
      rw [e] at this
      exact this
theorem scAdded : FnScope ["one", "other"] ["one", "other"] (defScope sAdded) := ⟨rfl, rfl, rfl, by decide +kernel, rfl, by decide +kernel, by decide +kernel⟩
theorem ok_added {f fl : Addr} {fd fdl : FuncData} (F : Df K mg "added" sAdded ["one", "other"] f fd) (L : Df K mg "lowered" sLowered ["top", "bottom"] fl fdl) (T : Bt mg) : FnOk P w K mg base CX0 2 f fd ["one", "other"] (spF2 K (fun _ _ => True) fadd) := by
  have G : FnOk P w K mg base CX0 1 fl fdl ["top", "bottom"] spLow := ok_lowered L T
  refine F.F.ok scAdded (fun vs H Q E h => ?_) (fun cdv A outer s H vs Q E hr h => ?_)
  · obtain ⟨p, q, x, y, rfl, _⟩ := h
    rfl
  · obtain ⟨p, q, x, y, rfl, hp, hq, hx, hy, zx, zy, ok, k⟩ := h
    refine ⟨_, pss_one (ps_ret (pe_call G hr (by rfl) L.g L.F.kp L.b .nil pass0 (pa_cons (pe_op op_add (pe_op op_mulW (pe_fst 0) (pe_snd 1)) (pe_op op_mulW (pe_fst 1) (pe_snd 0))) (pa_cons (pe_op op_mulW (pe_snd 0) (pe_snd 1)) pa_nil)))), ?_⟩
    refine ⟨p, x, rfl, hp, q, y, rfl, hq, _, _, rfl, rfl, cmw zx.1 zy.2, q, y, rfl, hq, p, x, rfl, hp, _, _, rfl, rfl, cmw zy.1 zx.2, _, _, rfl, rfl, p, x, rfl, hp, q, y, rfl, hq, _, _, rfl, rfl, cmw zx.2 zy.2, _, _, rfl, dd hx hy, lt_up (abs_add_lt (abs_mul_lt zx.1 zy.2) (abs_mul_lt zy.1 zx.2)) (by decide), lt_up (abs_mul_lt zx.2 zy.2) (by decide), k⟩
theorem scIsWhole : FnScope ["thing"] ["thing"] (defScope sIsWhole) := ⟨rfl, rfl, rfl, by decide +kernel, rfl, by decide +kernel, by decide +kernel⟩
theorem ok_is_whole {f : Addr} {fd : FuncData} (F : Df K mg "is_whole" sIsWhole ["thing"] f fd) (T : Bt mg) : FnOk P w K mg base CX0 1 f fd ["thing"] (spWhole K) := by
  refine F.F.ok scIsWhole (fun vs H Q E h => ?_) (fun cdv A outer s H vs Q E hr h => ?_)
  · obtain ⟨i, rfl, _⟩ := h
    rfl
  · obtain ⟨i, rfl, k⟩ := h
    refine ⟨_, pss_one (ps_ret (pe_and (pe_callB call_isi (by rfl) T.isinstance (by decide +kernel) (pa_cons (pv 0) (pa_cons (pe_bltn (v := .ty "int") (by rfl) T.int (by decide +kernel) rfl) pa_nil))) (pe_one (pe_cmpR op_eq (pe_cn (pv 0)) pe_str (nomark _))))), ?_⟩
    refine ⟨_, rfl, _, _, _, _, true, rfl, .ty _, .base (.int i), kit_ty (a := "int") (b := "int") (by decide +kernel), _, rfl, iteT ?_⟩
    refine ⟨_, rfl, _, .int i, rfl, ?_⟩
    exact k
theorem scIsRow : FnScope ["thing"] ["thing"] (defScope sIsRow) := ⟨rfl, rfl, rfl, by decide +kernel, rfl, by decide +kernel, by decide +kernel⟩
theorem TyX.of_tup {K : PySem.W.Frag} {H : Hp} {p : Addr} {xs : List V} (h : SqT K H p xs) : TyX K H (.ref p) (.type "tuple") := by
  rcases h with (h | ⟨o, h⟩) | ⟨o, its, n, h, c, _⟩
  · exact .base (.tup h)
  · exact .fTuple h
  · exact .kTuple h c
theorem ok_is_row {f : Addr} {fd : FuncData} (F : Df K mg "is_row" sIsRow ["thing"] f fd) (T : Bt mg) : FnOk P w K mg base CX0 1 f fd ["thing"] (spRow K) := by
  refine F.F.ok scIsRow (fun vs H Q E h => ?_) (fun cdv A outer s H vs Q E hr h => ?_)
  · obtain ⟨i, xs, rfl, _⟩ := h
    rfl
  · obtain ⟨i, xs, rfl, hp, k⟩ := h
    refine ⟨_, pss_one (ps_ret (pe_and (pe_callB call_isi (by rfl) T.isinstance (by decide +kernel) (pa_cons (pv 0) (pa_cons (pe_bltn (v := .ty "tuple") (by rfl) T.tuple (by decide +kernel) rfl) pa_nil))) (pe_one (pe_cmpR op_eq (pe_cn (pv 0)) pe_str (nomark _))))), ?_⟩
    refine ⟨_, rfl, _, _, _, _, true, rfl, .ty _, TyX.of_tup hp, kit_ty (a := "tuple") (b := "tuple") (by decide +kernel), _, rfl, iteT ?_⟩
    refine ⟨_, rfl, _, .tup hp, rfl, ?_⟩
    exact k
theorem scIsRowOf : FnScope ["thing", "many"] ["thing", "many"] (defScope sIsRowOf) := ⟨rfl, rfl, rfl, by decide +kernel, rfl, by decide +kernel, by decide +kernel⟩
theorem ok_is_row_of {f f1 : Addr} {fd fd1 : FuncData} (F : Df K mg "is_row_of" sIsRowOf ["thing", "many"] f fd) (F1 : Df K mg "is_row" sIsRow ["thing"] f1 fd1) (T : Bt mg) : FnOk P w K mg base CX0 2 f fd ["thing", "many"] (spRowOf K) := by
  have G1 : FnOk P w K mg base CX0 1 f1 fd1 ["thing"] (spRow K) := ok_is_row F1 T
  refine F.F.ok scIsRowOf (fun vs H Q E h => ?_) (fun cdv A outer s H vs Q E hr h => ?_)
  · obtain ⟨i, xs, n, rfl, _⟩ := h
    rfl
  · obtain ⟨i, xs, n, rfl, hp, k⟩ := h
    refine ⟨_, pss_one (ps_ret (pe_and (pe_call G1 hr (by rfl) F1.g F1.F.kp F1.b .nil pass0 (pa_cons (pv 0) pa_nil)) (pe_one (pe_cmpR op_eq (pe_callB call_len_seq (by rfl) T.len PySem.boot_len (pa_cons (pv 0) pa_nil)) (pv 1) (nomark _))))), ?_⟩
    refine ⟨_, rfl, _, _, rfl, hp, _, rfl, iteT ?_⟩
    refine ⟨_, rfl, _, _, rfl, .inr hp, _, rfl, rfl, ?_⟩
    have e : decide (V.int (xs.length : Int) = V.int n) = decide ((xs.length : Int) = n) := by
      rw [decide_eq_decide]
      constructor
      · intro h; injection h
      · intro h; rw [h]
    rw [e]
    exact k
theorem scIsFraction : FnScope ["thing"] ["thing"] (defScope sIsFraction) := ⟨rfl, rfl, rfl, by decide +kernel, rfl, by decide +kernel, by decide +kernel⟩
theorem ok_is_fraction {f f1 f2 f3 : Addr} {fd fd1 fd2 fd3 : FuncData} (F : Df K mg "is_fraction" sIsFraction ["thing"] f fd) (F1 : Df K mg "is_row_of" sIsRowOf ["thing", "many"] f1 fd1) (F2 : Df K mg "is_row" sIsRow ["thing"] f2 fd2)
    (F3 : Df K mg "is_whole" sIsWhole ["thing"] f3 fd3) (T : Bt mg) : FnOk P w K mg base CX0 3 f fd ["thing"] (spIsFr K) := by
  have G1 : FnOk P w K mg base CX0 2 f1 fd1 ["thing", "many"] (spRowOf K) := ok_is_row_of F1 F2 T
  have G3 : FnOk P w K mg base CX0 1 f3 fd3 ["thing"] (spWhole K) := ok_is_whole F3 T
  refine F.F.ok scIsFraction (fun vs H Q E h => ?_) (fun cdv A outer s H vs Q E hr h => ?_)
  · obtain ⟨p, x, rfl, _⟩ := h
    rfl
  · obtain ⟨p, x, rfl, hp, k⟩ := h
    have hr1 : Room 1 _ := hr.mono (by decide)
    refine ⟨_, pss_cons (ps_if (PW.pt (pw_or (pt_not (pt_val (pe_call G1 hr (by rfl) F1.g F1.F.kp F1.b .nil pass0 (pa_cons (pv 0) (pa_cons pe_int pa_nil))))) (pw_or (pt_not (pt_val (pe_call G3 hr1 (by rfl) F3.g F3.F.kp F3.b .nil pass0 (pa_cons (pe_fst 0) pa_nil)))) (pw_or1 (pt_not (pt_val (pe_call G3 hr1 (by rfl) F3.g F3.F.kp F3.b .nil pass0 (pa_cons (pe_snd 0) pa_nil))))))))
        (pss_one (ps_ret pe_bl)) pss_nil)
      (pss_one (ps_ret (pe_and (pe_cmpR op_ge (pe_snd 0) pe_int (nomark _)) (pe_one (pe_cmpR op_eq (pe_callBfun cr_gcd (by rfl) T.gcd (pa_cons (pe_fst 0) (pa_cons (pe_snd 0) pa_nil))) pe_int (nomark _)))))), ?_⟩
    refine ⟨_, rfl, _, _, _, rfl, hp, _, rfl, iteF ?_⟩
    refine ⟨p, x, rfl, hp, _, rfl, _, rfl, iteF ?_⟩
    refine ⟨p, x, rfl, hp, _, rfl, _, rfl, iteF ?_⟩
    refine ⟨p, x, rfl, hp, _, _, rfl, rfl, _, rfl, ?_⟩
    by_cases h1 : 1 ≤ x.2
    · rw [decide_eq_true h1]
      refine iteT ?_
      refine ⟨p, x, rfl, hp, p, x, rfl, hp, _, _, rfl, rfl, ?_⟩
      have e : decide (V.int ((Nat.gcd x.1.natAbs x.2.natAbs : Nat) : Int) = V.int 1) = decide (Fr x) := by
        rw [decide_eq_decide]
        constructor
        · intro h
          injection h with h
          refine ⟨h1, ?_⟩
          show Nat.gcd x.1.natAbs x.2.natAbs = 1
          omega
        · intro h
          have := h.2
          show V.int ((Int.gcd x.1 x.2 : Nat) : Int) = V.int 1
          rw [this]
          rfl
      rw [e]
      exact k
    · rw [decide_eq_false h1]
      refine iteF ?_
      rw [decide_eq_false (fun h : Fr x => h1 h.1)] at k
      exact k
theorem scMixed : FnScope ["cell", "k"] ["cell", "k"] (defScope sMixed) := ⟨rfl, rfl, rfl, by decide +kernel, rfl, by decide +kernel, by decide +kernel⟩
theorem ok_mixed {f : Addr} {fd : FuncData} (F : Df K mg "_law_mixed" sMixed ["cell", "k"] f fd) (T : Bt mg) : FnOk P w K mg base CX0 1 f fd ["cell", "k"] spMixed := by
  refine F.F.ok scMixed (fun vs H Q E h => ?_) (fun cdv A outer s H vs Q E hr h => ?_)
  · obtain ⟨c, k, rfl, _⟩ := h
    rfl
  · obtain ⟨c, k, rfl, k0, k1, q⟩ := h
    refine ⟨_, pss_cons (ps_set (i := 0) scMixed.nd rfl (Or.inl rfl) (pe_op op_mod (pe_callTy call_int1 (by rfl) T.int (by decide +kernel) (pa_cons (pv 0) pa_nil)) pe_int))
      (pss_one (ps_ret (pe_op op_mod (pe_op op_mul (pe_op op_mod (pe_op op_add (pe_op op_add
        (pe_op op_mul (pv 0) (pe_op op_add pe_int (pe_op op_mul (pe_op op_mul pe_int (pv 1)) (pv 1))))
        (pe_op op_mul pe_int (pv 1))) pe_int) pe_int) pe_int) pe_int))), ?_⟩
    have hc0 : 0 ≤ c % 2147483647 := Int.emod_nonneg _ (by decide)
    have hc1 : c % 2147483647 < 2147483647 := Int.emod_lt_of_pos _ (by decide)
    refine ⟨_, rfl, .inl ⟨c, rfl, _, _, rfl, rfl, (by show (0 : Int) < 2147483647; decide), ?_⟩⟩
    generalize hcc : c % 2147483647 = cc at *
    refine ⟨_, rfl, _, rfl, _, _, rfl, rfl, .inl ⟨by decide, by decide⟩, _, rfl, _, _, rfl, rfl, .inr ⟨by omega, by omega⟩, _, _, rfl, rfl, ?_⟩
    generalize 48271 + 2 * k * k = z
    refine ⟨_, _, rfl, rfl, .inl ⟨by omega, by omega⟩, _, rfl, _, _, rfl, rfl, .inl ⟨by decide, by decide⟩, _, _, rfl, rfl, _, _, rfl, rfl, _, _, rfl, rfl, (by show (0 : Int) < 2147483647; decide), ?_⟩
    generalize hy : (cc * z + 69621 * k + 11) = y
    have hy0 : 0 ≤ y % 2147483647 := Int.emod_nonneg _ (by decide)
    have hy1 : y % 2147483647 < 2147483647 := Int.emod_lt_of_pos _ (by decide)
    refine ⟨_, _, rfl, rfl, .inl ⟨by omega, by omega⟩, _, _, rfl, rfl, (by show (0 : Int) < 2147483629; decide), ?_⟩
    exact q _ (Int.emod_nonneg _ (by decide)) (Int.emod_lt_of_pos _ (by decide))
theorem dpInts (K : PySem.W.Frag) (H : Hp) : ∀ ns : List Int, DpAll K H (ns.map V.int) (ns.map PyData.int)
  | [] => .nil
  | n :: ns => .cons (.int n) (dpInts K H ns)
theorem cl0 : ∀ ns : List Int, PyData.canLayAll0 (ns.map PyData.int) = true
  | [] => rfl
  | n :: ns => by
    show (PyData.canLay0 (.int n) && PyData.canLayAll0 (ns.map PyData.int)) = true
    rw [cl0 ns]
    rfl
theorem dp0 : ∀ ns : List Int, PyData.depthAll (ns.map PyData.int) ≤ 1
  | [] => by decide
  | n :: ns => by
    have := dp0 ns
    simp [PyData.depthAll, PyData.depth] at *
    omega
theorem shInts (ns : List Int) : SeqAt.shaped (.list (ns.map PyData.int)) = true := by
  have h1 := cl0 ns
  have h2 := dp0 ns
  simp [SeqAt.shaped, PyData.canLay0, PyData.depth, h1]
  omega
theorem scBegin : FnScope ["script", "cells", "cell"] ["script"] (defScope sBegin) := ⟨rfl, rfl, rfl, by decide +kernel, rfl, by decide +kernel, by decide +kernel⟩
theorem ok_begin {f : Addr} {fd : FuncData} (F : Df K mg "_law_begin" sBegin ["script"] f fd) (T : Bt mg) : FnOk P w K mg base CX0 1 f fd ["script"] (spBegin K) := by
  refine F.F.ok scBegin (fun vs H Q E h => ?_) (fun cdv A outer s H vs Q E hr h => ?_)
  · obtain ⟨a, ns, rfl, _⟩ := h
    rfl
  · obtain ⟨a, ns, rfl, hS, hlen, k⟩ := h
    refine ⟨_, Evl.pss_cut (ps_set (i := 1) scBegin.nd rfl (Or.inl rfl) (pe_ifExp (pt_cmpR (op_neD hr.units) (pv 0) (pe_lst pa_nil) (nomark _)) (pe_callTy call_list_of (by rfl) T.list (by decide +kernel) (pa_cons (pv 0) pa_nil)) (pe_lst (pa_cons pe_int pa_nil))))
      (pss_one (ps_ret (pe_disp (pps_cons pe_str (pv 1) (pps_cons pe_str
        (pe_lc (own := [("cell", 2)]) (g := gName 2) (tt := tYes) rfl scBegin.nd (pi_list (pv 1)) (blkOk_by (N := ["script", "cells", "cell"]) (sc := defScope sBegin) (by decide +kernel)) (fun _ _ _ _ _ => pg_name (i := 2) scBegin.nd rfl (Or.inl rfl)) (fun _ _ _ _ _ => pts_nil)
          (fun _ _ _ _ _ => pe_ifExp (pt_cmpR op_ge (pv 2) (pe_op op_pow pe_int pe_int) (nomark _)) (pv 2) pe_int))
        (pps_cons pe_str pe_int (pps_cons pe_str pe_int pps_nil)))) (by rfl) (by rfl) (fun z => by cases z) (by decide)))), ?_⟩
    refine ⟨fun σ' H' => ∃ (c : Addr) (cs : List Int), σ' = [some (.ref a), some (.ref c), none] ∧ Same H H' ∧ H c = none ∧ H' c = some (.lst (cs.map V.int)) ∧ 0 < cs.length ∧ cs.length ≤ 64, ?_, ?_⟩
    · refine ⟨_, rfl, (by show 0 ≤ sizeLine; decide), fun q0 hq0 => ?_⟩
      refine ⟨.list (ns.map PyData.int), .list [], .lst ((Same.new hq0).seq hS) (dpInts _ _ ns), .lst (SqL.of upd_same) .nil, shInts ns, rfl, _, rfl, ?_⟩
      cases ns with
      | nil =>
        refine iteF ?_
        refine ⟨(by show 1 ≤ sizeLine; decide), fun c hc => ?_⟩
        exact ⟨c, [0], rfl, (Same.new hq0).trans (Same.new hc), (Same.new hq0).free hc, upd_same, by decide, by decide⟩
      | cons n ns =>
        refine iteT ?_
        refine ⟨_, rfl, a, _, rfl, .inl ((Same.new hq0).seq hS), fun c hc => ?_⟩
        exact ⟨c, n :: ns, rfl, (Same.new hq0).trans (Same.new hc), (Same.new hq0).free hc, upd_same, by simp, by omega⟩
    · rintro σ' H1 ⟨c, cs, rfl, s1, nc, hc, c0, c64⟩
      intro p hp
      have ncp : c ≠ p := ne_of_none hc hp
      have hcp : (upd H1 p (.dK [])) c = some (.lst (cs.map V.int)) := by rw [upd_ne ncp]; exact hc
      refine ⟨_, rfl, _, rfl, c, rfl, ⟨_, SqL.of hcp⟩, fun D hD => ?_⟩
      have ncD : c ≠ D := ne_of_none hcp hD
      have npD : p ≠ D := ne_of_none upd_same hD
      refine lc_list (K := K) (a := c) (xs := cs.map V.int) (fun i H' => ∃ acc : List Int, H' = upd (upd H1 p (.dK [])) D (.lst (acc.map V.int)) ∧ acc.length = i ∧ ∀ v ∈ acc, 0 ≤ v) ⟨[], rfl, rfl, fun v hv => by cases hv⟩ ?_ ?_ ?_
      · rintro i H' hi ⟨acc, rfl, _, _⟩
        exact SqL.of (by rw [upd_ne ncD]; exact hcp)
      · rintro i x H' hx ⟨acc, rfl, hl, h0⟩
        have hil : i < (cs.map V.int).length := (List.getElem?_eq_some_iff.mp hx).1
        rw [List.length_map] at hil
        obtain ⟨z, rfl⟩ : ∃ z, x = V.int z := by
          rw [List.getElem?_map] at hx
          cases e : cs[i]? with
          | none =>
            rw [e] at hx
            cases hx
          | some z =>
            rw [e] at hx
            exact ⟨z, (Option.some.inj hx).symm⟩
        refine ⟨rfl, ?_⟩
        dsimp only [tYes]
        rw [if_pos rfl]
        refine ⟨_, rfl, 10, 18, rfl, rfl, ⟨by decide, by decide, by decide⟩, _, _, rfl, rfl, _, rfl, ?_⟩
        by_cases hz : (10 : Int) ^ (18 : Int).toNat ≤ z
        · rw [decide_eq_true hz]
          refine iteT ⟨_, rfl, _, upd_same, ?_, acc ++ [z], ?_, ?_, ?_⟩
          · rw [List.length_map]; exact small1000 (by omega)
          · rw [upd_upd, List.map_append]; rfl
          · rw [List.length_append]; simp [hl]
          · intro v hv
            rcases List.mem_append.mp hv with q | q
            · exact h0 v q
            · have := List.mem_singleton.mp q
              have h18 : (0 : Int) ≤ (10 : Int) ^ (18 : Int).toNat := by decide
              omega
        · rw [decide_eq_false hz]
          refine iteF ⟨_, upd_same, ?_, acc ++ [0], ?_, ?_, ?_⟩
          · rw [List.length_map]; exact small1000 (by omega)
          · rw [upd_upd, List.map_append]; rfl
          · rw [List.length_append]; simp [hl]
          · intro v hv
            rcases List.mem_append.mp hv with q | q
            · exact h0 v q
            · have := List.mem_singleton.mp q
              omega
      · rintro H' ⟨acc, rfl, hl, h0⟩
        refine ⟨by rw [upd_ne npD]; exact upd_same, [(Sum.inr ("cells" : Str), V.ref c), (Sum.inr ("lefts" : Str), .ref D), (Sum.inr ("at" : Str), .int 0), (Sum.inr ("room" : Str), .int 0)], rfl, (by show 4 ≤ 15; decide), ?_⟩
        rw [stD_make]
        have hD1 : H1 D = none := (Same.new hp).free hD
        refine k p c D _ (s1.free hp) (s1.trans ?_) ?_
        · intro b o e
          rw [upd_ne (ne_of_none e hp), upd_ne (ne_of_none e hD1), upd_ne (ne_of_none e hp)]
          exact e
        · refine ⟨upd_same, ncD, cs, acc, ?_, ?_, ?_, c0, c64, h0⟩
          · rw [upd_ne ncp, upd_ne ncD]; exact hcp
          · rw [upd_ne npD.symm, upd_same]
          · rw [hl, List.length_map]
theorem scDraw : FnScope ["state", "many", "at", "place", "left", "number"] ["state", "many"] (defScope sDraw) := ⟨rfl, rfl, rfl, by decide +kernel, rfl, by decide +kernel, by decide +kernel⟩
theorem ok_draw {f f1 : Addr} {fd fd1 : FuncData} (F : Df K mg "_law_draw" sDraw ["state", "many"] f fd) (F1 : Df K mg "_law_mixed" sMixed ["cell", "k"] f1 fd1) (T : Bt mg) : FnOk P w K mg base CX0 2 f fd ["state", "many"] spDraw := by
  have G1 : FnOk P w K mg base CX0 1 f1 fd1 ["cell", "k"] spMixed := ok_mixed F1 T
  refine F.F.ok scDraw (fun vs H Q E h => ?_) (fun cdv A outer s H vs Q E hr h => ?_)
  · obtain ⟨d, c, l, k, m, rfl, _⟩ := h
    rfl
  · obtain ⟨d, c, l, n, m, rfl, S, m0, m1, n1, k⟩ := h
    have hu := hu_of hr
    refine ⟨_, pss_cons (ps_set (i := 2) scDraw.nd rfl (Or.inl rfl) (pe_dget hu (pv 0) pe_str (fun _ _ => rfl)))
      (pss_cons (ps_dput hu (pv 0) pe_str (pe_op op_add (pv 2) pe_int) rfl)
      (pss_cons (ps_set (i := 3) scDraw.nd rfl (Or.inl rfl) (pe_op op_mod (pe_callTy call_int1 (by rfl) T.int (by decide +kernel) (pa_cons (pv 2) pa_nil)) (pe_callB call_len_seq (by rfl) T.len PySem.boot_len (pa_cons (pe_dget hu (pv 0) pe_str (fun _ _ => rfl)) pa_nil))))
      (pss_cons (ps_set (i := 4) scDraw.nd rfl (Or.inl rfl) (pe_ix ix_list (pe_dget hu (pv 0) pe_str (fun _ _ => rfl)) (pv 3) (fun _ _ => rfl)))
      (pss_cons (ps_if (pt_cmpR op_gt (pv 4) pe_int (nomark _))
        (pss_cons (ps_asg (pe_op op_fdivW (pv 4) (pv 1)) (pg_sub (pe_dget hu (pv 0) pe_str (fun _ _ => rfl)) (pv 3) set_list))
        (pss_one (ps_ret (pe_op op_mod (pe_callTy call_int1 (by rfl) T.int (by decide +kernel) (pa_cons (pv 4) pa_nil)) (pv 1))))) pss_nil)
      (pss_cons (ps_set (i := 5) scDraw.nd rfl (Or.inl rfl) (pe_call G1 hr (by rfl) F1.g F1.F.kp F1.b .nil pass0 (pa_cons (pe_call G1 hr (by rfl) F1.g F1.F.kp F1.b .nil pass0 (pa_cons (pe_ix ix_list (pe_dget hu (pv 0) pe_str (fun _ _ => rfl)) (pv 3) (fun _ _ => rfl)) (pa_cons (pv 2) pa_nil))) (pa_cons (pe_op op_add pe_int (pv 2)) pa_nil))))
      (pss_one (ps_ret (pe_op op_mod (pe_op op_fdiv (pe_callTy call_int1 (by rfl) T.int (by decide +kernel) (pa_cons (pe_op op_add (pe_op op_mul (pv 5) pe_int) (pe_call G1 hr (by rfl) F1.g F1.F.kp F1.b .nil pass0 (pa_cons (pv 5) (pa_cons (pe_op op_add pe_int (pv 2)) pa_nil)))) pa_nil)) pe_int) (pv 1))))))))), ?_⟩
    obtain ⟨hd, ncl, cs, ls, hc, hl, hcl, c0, c64, hls⟩ := S
    have ndc : d ≠ c := ne_of hd hc (by intro z; cases z)
    have ndl : d ≠ l := ne_of hd hl (by intro z; cases z)
    refine ⟨_, rfl, d, _, rfl, (stD_at c l n) ▸ DGet.k (k := Sum.inr ("at" : Str)) hd, ?_⟩
    refine ⟨_, rfl, _, _, rfl, rfl, _, rfl, d, _, rfl, DPut.k (k := Sum.inr ("at" : Str)) hd (by show 4 < sizeLine; decide), ?_⟩
    rw [stD_put]
    have hd2 : (upd H d (.dK (stD c l ((n : Int) + 1)))) d = some (.dK (stD c l ((n + 1 : Nat) : Int))) := upd_same
    have hc2 : (upd H d (.dK (stD c l ((n : Int) + 1)))) c = some (.lst (cs.map V.int)) := by rw [upd_ne ndc.symm]; exact hc
    have hl2 : (upd H d (.dK (stD c l ((n : Int) + 1)))) l = some (.lst (ls.map V.int)) := by rw [upd_ne ndl.symm]; exact hl
    have fm2 : Fm d l H (upd H d (.dK (stD c l ((n : Int) + 1)))) := fun b o e nb _ => by rw [upd_ne nb]; exact e
    generalize upd H d (.dK (stD c l ((n : Int) + 1))) = H2 at *
    have el : ((n : Int) % ((cs.map V.int).length : Int)) = ((n % cs.length : Nat) : Int) := by
      rw [List.length_map]
      omega
    refine ⟨_, rfl, .inl ⟨_, rfl, _, rfl, d, _, rfl, (stD_cells c l _) ▸ DGet.k (k := Sum.inr ("cells" : Str)) hd2, c, _, rfl, .inl (SqL.of hc2), _, _, rfl, rfl, (by show (0 : Int) < ((cs.map V.int).length : Int); rw [List.length_map]; omega), ?_⟩⟩
    simp only [el]
    have hj : n % cs.length < cs.length := Nat.mod_lt _ c0
    generalize n % cs.length = j at *
    obtain ⟨y, hy⟩ : ∃ y, ls[j]? = some y := ⟨ls[j]'(by omega), by simp⟩
    obtain ⟨x, hx⟩ : ∃ x, cs[j]? = some x := ⟨cs[j]'(by omega), by simp⟩
    have y0 : 0 ≤ y := hls y (List.mem_of_getElem? hy)
    have hyv : atI (ls.map V.int) ((j : Nat) : Int) = some (.int y) := atI_nat (by rw [List.getElem?_map, hy]; rfl)
    have hxv : atI (cs.map V.int) ((j : Nat) : Int) = some (.int x) := atI_nat (by rw [List.getElem?_map, hx]; rfl)
    refine ⟨_, rfl, d, _, rfl, (stD_lefts c l _) ▸ DGet.k (k := Sum.inr ("lefts" : Str)) hd2, _, rfl, l, _, _, _, rfl, rfl, SqL.of hl2, hyv, ?_⟩
    refine ⟨_, rfl, _, _, rfl, rfl, _, rfl, ?_⟩
    by_cases hy1 : 0 < y
    · rw [decide_eq_true hy1]
      refine iteT ?_
      refine ⟨_, rfl, _, rfl, _, _, rfl, rfl, wide_div m0 m1 (by decide) (by decide), ?_⟩
      refine ⟨_, rfl, d, _, rfl, (stD_lefts c l _) ▸ DGet.k (k := Sum.inr ("lefts" : Str)) hd2, _, rfl, l, _, _, j, rfl, rfl, hl2, ?_, ?_⟩
      · rw [List.length_map]
        unfold ixN
        rw [if_pos (by omega), if_pos (by omega)]
        simp
      refine ⟨_, rfl, .inl ⟨_, rfl, _, rfl, _, _, rfl, rfl, m0, ?_⟩⟩
      refine k _ _ (Int.emod_nonneg _ (by omega)) (Int.emod_lt_of_pos _ m0) ⟨by rw [upd_ne ndl]; exact hd2, ncl, cs, ls.set j (y / m), by rw [upd_ne ncl]; exact hc2, ?_, by rw [List.length_set]; exact hcl, c0, c64, ?_⟩ ?_
      · rw [upd_same, List.map_set]
      · intro v hv
        rcases List.mem_or_eq_of_mem_set hv with q | q
        · exact hls v q
        · rw [q]; exact Int.ediv_nonneg y0 (by omega)
      · intro b o e n1 n2
        rw [upd_ne n2]
        exact fm2 b o e n1 n2
    · rw [decide_eq_false hy1]
      refine iteF ?_
      refine ⟨_, rfl, d, _, rfl, (stD_cells c l _) ▸ DGet.k (k := Sum.inr ("cells" : Str)) hd2, _, rfl, c, _, _, _, rfl, rfl, SqL.of hc2, hxv, _, rfl, x, n, rfl, by omega, by omega, fun r1 a0 a1 => ?_⟩
      refine ⟨_, rfl, _, _, rfl, rfl, _, _, rfl, by omega, by omega, fun r2 b0 b1 => ?_⟩
      refine ⟨_, rfl, _, _, rfl, rfl, .inl ⟨by omega, by omega⟩, _, rfl, _, rfl, _, _, rfl, rfl, _, _, rfl, by omega, by omega, fun r3 e0 e1 => ?_⟩
      refine ⟨_, _, rfl, rfl, .inl ⟨_, rfl, _, _, rfl, rfl, ⟨by decide, by decide⟩, _, rfl, _, _, rfl, rfl, m0, ?_⟩⟩
      exact k _ _ (Int.emod_nonneg _ (by omega)) (Int.emod_lt_of_pos _ m0) ⟨hd2, ncl, cs, ls, hc2, hl2, hcl, c0, c64, hls⟩ fm2
end
end CS
set_option Elab.async false
set_option maxRecDepth 100000
set_option maxHeartbeats 8000000
set_option linter.unusedVariables false
namespace CS
open PySem L2
section
variable {P : Program} {w : World} {K : PySem.W.Frag} {mg : Str → Option Value} {base : Heap}
theorem scScaled : FnScope ["fraction", "by"] ["fraction", "by"] (defScope sScaled) := ⟨rfl, rfl, rfl, by decide +kernel, rfl, by decide +kernel, by decide +kernel⟩
theorem ok_scaled {f fl : Addr} {fd fdl : FuncData} (F : Df K mg "scaled" sScaled ["fraction", "by"] f fd) (L : Df K mg "lowered" sLowered ["top", "bottom"] fl fdl) (T : Bt mg) : FnOk P w K mg base CX0 2 f fd ["fraction", "by"] (spScaled K) := by
  have G : FnOk P w K mg base CX0 1 fl fdl ["top", "bottom"] spLow := ok_lowered L T
  refine F.F.ok scScaled (fun vs H Q E h => ?_) (fun cdv A outer s H vs Q E hr h => ?_)
  · obtain ⟨p, x, k, rfl, _⟩ := h
    rfl
  · obtain ⟨p, x, k, rfl, hp, hx, zx, hk, q⟩ := h
    have hk2 : k.natAbs < 2 ^ 1900 := lt_up hk (by decide)
    refine ⟨_, pss_one (ps_ret (pe_call G hr (by rfl) L.g L.F.kp L.b .nil pass0 (pa_cons (pe_op op_mulW (pe_fst 0) (pv 1)) (pa_cons (pe_snd 0) pa_nil)))), ?_⟩
    exact ⟨p, x, rfl, hp, _, rfl, _, _, rfl, rfl, cmw zx.1 hk2, p, x, rfl, hp, _, _, rfl, hx.ne, lt_up (abs_mul_lt zx.1 hk2) (by decide), lt_up zx.2 (by decide), q⟩
theorem scSumOf : FnScope ["fractions", "whole", "fraction"] ["fractions"] (defScope sSumOf) := ⟨rfl, rfl, rfl, by decide +kernel, rfl, by decide +kernel, by decide +kernel⟩
theorem ok_sum_of {f f1 aN : Addr} {fd fd1 : FuncData} (F : Df K mg "sum_of" sSumOf ["fractions"] f fd) (D1 : Df K mg "added" sAdded ["one", "other"] f1 fd1) (G1 : FnOk P w K mg base CX0 2 f1 fd1 ["one", "other"] (spF2 K (fun _ _ => True) fadd)) (gN : mg "NOUGHT" = some (.ref aN)) (hN : ∀ H, FT K H aN (0, 1)) : FnOk P w K mg base CX0 3 f fd ["fractions"] (spSum K) := by
  refine F.F.ok scSumOf (fun vs H Q E h => ?_) (fun cdv A outer s H vs Q E hr h => ?_)
  · obtain ⟨a, ws, xs, rfl, _⟩ := h
    rfl
  · obtain ⟨a, ws, xs, rfl, hS, hF, hx, hlen, k⟩ := h
    refine ⟨_, pss_cons (ps_set (i := 1) scSumOf.nd rfl (Or.inl rfl) (pe_glob (v := .ref aN) (by rfl) gN rfl))
      (pss_cons (ps_for PassesOwn.never rfl (pi_list (pv 0)) (pg_name (i := 2) scSumOf.nd rfl (Or.inl rfl)) (pss_one (ps_set (i := 1) scSumOf.nd rfl (Or.inl rfl) (pe_call G1 hr (by rfl) D1.g D1.F.kp D1.b .nil pass0 (pa_cons (pv 1) (pa_cons (pv 2) pa_nil))))))
      (pss_one (ps_ret (pv 1)))), ?_⟩
    refine ⟨_, rfl, a, rfl, ⟨_, hS⟩, for_list (K := K) (a := a) (xs := ws) (fun i σ H' => ∃ p v, σ = [some (.ref a), some (.ref p), v] ∧ Same H H' ∧ FT K H' p ((xs.take i).foldl fadd (0, 1))) ⟨aN, none, rfl, Same.refl H, hN H⟩ (fun i σ H' _ ⟨_, _, _, s, _⟩ => s.seq hS) ?_ ?_⟩
    · rintro i v σ H' hi ⟨p, u, rfl, s1, hp⟩
      obtain ⟨r, x, rfl, hxi, hr'⟩ := hF.get hi
      have hi2 : i < xs.length := (List.getElem?_eq_some_iff.mp hxi).1
      have hxm := hx x (List.mem_of_getElem? hxi)
      have hz : Sz 1900 ((xs.take i).foldl fadd (0, 1)) := by
        refine (fold_sz 100 (xs.take i) (0, 1) 1 fr01 (sz01 (by decide)) fun y hy => hx y (List.mem_of_mem_take hy)).up ?_
        rw [List.length_take]
        omega
      have hf : Fr ((xs.take i).foldl fadd (0, 1)) := fold_fr _ _ fr01 fun y hy => (hx y (List.mem_of_mem_take hy)).1
      refine ⟨_, rfl, _, rfl, p, r, _, x, rfl, hp, s1.tup hr', hf, hxm.1, hz, hxm.2.up (by decide), trivial, fun q hq => ?_⟩
      refine ⟨q, _, rfl, s1.trans (Same.new hq), ?_⟩
      rw [take_snoc hxi, List.foldl_append]
      exact FT.new
    · rintro σ H' ⟨p, u, rfl, s1, hp⟩
      rw [hF.len, List.take_length] at hp
      exact ⟨_, rfl, k _ _ s1 hp⟩
theorem scTotalOf : FnScope ["share", "_", "weight"] ["share"] (defScope sTotalOf) := ⟨rfl, rfl, rfl, by decide +kernel, rfl, by decide +kernel, by decide +kernel⟩
theorem ok_total_of {f f1 : Addr} {fd fd1 : FuncData} (F : Df K mg "total_of" sTotalOf ["share"] f fd) (D1 : Df K mg "sum_of" sSumOf ["fractions"] f1 fd1) (G1 : FnOk P w K mg base CX0 3 f1 fd1 ["fractions"] (spSum K)) : FnOk P w K mg base CX0 4 f fd ["share"] (spShF K ftot) := by
  refine F.F.ok scTotalOf (fun vs H Q E h => ?_) (fun cdv A outer s H vs Q E hr h => ?_)
  · obtain ⟨p, xs, rfl, _⟩ := h
    rfl
  · obtain ⟨p, xs, rfl, ⟨vs, hp, hP⟩, hx, hm, hlen, k⟩ := h
    refine ⟨_, pss_one (ps_ret (pe_call G1 hr (by rfl) D1.g D1.F.kp D1.b .nil pass0 (pa_cons (pe_lc (own := [("_", 1), ("weight", 2)]) (g := gTup K 2 (gCons (gName 1) (gCons (gName 2) gNil))) (tt := tYes) rfl scTotalOf.nd (pi_tup (pv 0)) (blkOk_by (N := ["share", "_", "weight"]) (sc := defScope sTotalOf) (by decide +kernel)) (fun _ _ _ _ _ => pg_tup rfl (pgs_cons (pg_name (i := 1) scTotalOf.nd rfl (Or.inl rfl)) (pgs_cons (pg_name (i := 2) scTotalOf.nd rfl (Or.inl rfl)) pgs_nil))) (fun _ _ _ _ _ => pts_nil) (fun _ _ _ _ _ => pv 2)) pa_nil))), ?_⟩
    refine ⟨_, rfl, p, rfl, ⟨_, hp⟩, fun D hD => lc_tup (K := K) (a := p) (xs := vs) (fun i H' => LcF K H D ((xs.take i).map (·.2)) H') (LcF.start hD) (fun i H' _ ⟨ws, _, s1, _⟩ => s1.tup hp) ?_ ?_⟩
    · rintro i v H' hi ⟨ws, h1, s1, hf⟩
      obtain ⟨q, r, m, x, rfl, hxi, hq, hr'⟩ := hP.get hi
      have hi2 : i < xs.length := (List.getElem?_eq_some_iff.mp hxi).1
      refine ⟨q, _, rfl, s1.tup hq, rfl, _, _, rfl, _, _, rfl, rfl, rfl, ?_⟩
      dsimp only [tYes]
      rw [if_pos rfl]
      refine ⟨_, rfl, ws, h1, small1000 ?_, ?_⟩
      · rw [hf.len, List.length_map, List.length_take]; omega
      · show LcF K H D _ _
        rw [take_snoc hxi, List.map_append]
        exact LcF.step hD h1 s1 hf (s1.tup hr')
    · rintro H' ⟨ws, h1, s1, hf⟩
      rw [hP.len, List.take_length] at hf
      refine ⟨D, ws, _, rfl, SqL.of h1, hf, ?_, by rw [List.length_map]; exact hlen, fun H2 r s2 hr2 => k _ _ (s1.trans s2) hr2⟩
      intro x hxm
      obtain ⟨a, ha, rfl⟩ := List.mem_map.mp hxm
      exact ⟨(hx a ha).1, (hx a ha).2.up (by decide)⟩
theorem scMomentOf : FnScope ["share", "number", "weight"] ["share"] (defScope sMomentOf) := ⟨rfl, rfl, rfl, by decide +kernel, rfl, by decide +kernel, by decide +kernel⟩
theorem ok_moment_of {f f1 f2 : Addr} {fd fd1 fd2 : FuncData} (F : Df K mg "moment_of" sMomentOf ["share"] f fd) (D1 : Df K mg "sum_of" sSumOf ["fractions"] f1 fd1) (G1 : FnOk P w K mg base CX0 3 f1 fd1 ["fractions"] (spSum K)) (D2 : Df K mg "scaled" sScaled ["fraction", "by"] f2 fd2) (G2 : FnOk P w K mg base CX0 2 f2 fd2 ["fraction", "by"] (spScaled K)) : FnOk P w K mg base CX0 4 f fd ["share"] (spShF K fmom) := by
  refine F.F.ok scMomentOf (fun vs H Q E h => ?_) (fun cdv A outer s H vs Q E hr h => ?_)
  · obtain ⟨p, xs, rfl, _⟩ := h
    rfl
  · obtain ⟨p, xs, rfl, ⟨vs, hp, hP⟩, hx, hm, hlen, k⟩ := h
    refine ⟨_, pss_one (ps_ret (pe_call G1 hr (by rfl) D1.g D1.F.kp D1.b .nil pass0 (pa_cons (pe_lc (own := [("number", 1), ("weight", 2)]) (g := gTup K 2 (gCons (gName 1) (gCons (gName 2) gNil))) (tt := tYes) rfl scMomentOf.nd (pi_tup (pv 0)) (blkOk_by (N := ["share", "number", "weight"]) (sc := defScope sMomentOf) (by decide +kernel)) (fun _ _ _ _ _ => pg_tup rfl (pgs_cons (pg_name (i := 1) scMomentOf.nd rfl (Or.inl rfl)) (pgs_cons (pg_name (i := 2) scMomentOf.nd rfl (Or.inl rfl)) pgs_nil))) (fun _ _ _ _ _ => pts_nil) (fun _ _ _ _ _ => pe_call G2 (hr.mono (by decide)) (by rfl) D2.g D2.F.kp D2.b .nil pass0 (pa_cons (pv 2) (pa_cons (pv 1) pa_nil)))) pa_nil))), ?_⟩
    refine ⟨_, rfl, p, rfl, ⟨_, hp⟩, fun D hD => lc_tup (K := K) (a := p) (xs := vs) (fun i H' => LcF K H D ((xs.take i).map fun a => scl a.2 a.1) H') (LcF.start hD) (fun i H' _ ⟨ws, _, s1, _⟩ => s1.tup hp) ?_ ?_⟩
    · rintro i v H' hi ⟨ws, h1, s1, hf⟩
      obtain ⟨q, r, m, x, rfl, hxi, hq, hr'⟩ := hP.get hi
      have hi2 : i < xs.length := (List.getElem?_eq_some_iff.mp hxi).1
      have hxm := hx _ (List.mem_of_getElem? hxi)
      have hmm := hm _ (List.mem_of_getElem? hxi)
      refine ⟨q, _, rfl, s1.tup hq, rfl, _, _, rfl, _, _, rfl, rfl, rfl, ?_⟩
      dsimp only [tYes]
      rw [if_pos rfl]
      refine ⟨_, rfl, _, rfl, r, x, m, rfl, s1.tup hr', hxm.1, hxm.2.up (by decide), by simp only at hmm; omega, fun t ht => ?_⟩
      have k1 := Same.new (o := .tup [.int (scl x m).1, .int (scl x m).2]) ht
      refine ⟨ws, k1 _ _ h1, small1000 ?_, ?_⟩
      · rw [hf.len, List.length_map, List.length_take]; omega
      · show LcF K H D _ _
        rw [take_snoc hxi, List.map_append]
        exact LcF.step hD (k1 _ _ h1) (s1.trans k1) (hf.tk (tk_same k1)) FT.new
    · rintro H' ⟨ws, h1, s1, hf⟩
      rw [hP.len, List.take_length] at hf
      refine ⟨D, ws, _, rfl, SqL.of h1, hf, ?_, by rw [List.length_map]; exact hlen, fun H2 r s2 hr2 => k _ _ (s1.trans s2) hr2⟩
      intro x hxm
      obtain ⟨a, ha, rfl⟩ := List.mem_map.mp hxm
      refine ⟨scl_fr (hx a ha).1 _, (scl_sz (m := 8) (hx a ha).1 (hx a ha).2 ?_).up (by decide)⟩
      have := hm a ha
      omega
theorem scRestOf : FnScope ["share", "mark", "number", "weight"] ["share", "mark"] (defScope sRestOf) := ⟨rfl, rfl, rfl, by decide +kernel, rfl, by decide +kernel, by decide +kernel⟩
theorem ok_rest_of {f f1 f2 : Addr} {fd fd1 fd2 : FuncData} (F : Df K mg "rest_of" sRestOf ["share", "mark"] f fd) (D1 : Df K mg "sum_of" sSumOf ["fractions"] f1 fd1) (G1 : FnOk P w K mg base CX0 3 f1 fd1 ["fractions"] (spSum K)) (D2 : Df K mg "scaled" sScaled ["fraction", "by"] f2 fd2) (G2 : FnOk P w K mg base CX0 2 f2 fd2 ["fraction", "by"] (spScaled K)) : FnOk P w K mg base CX0 4 f fd ["share", "mark"] (spShFk K frest) := by
  refine F.F.ok scRestOf (fun vs H Q E h => ?_) (fun cdv A outer s H vs Q E hr h => ?_)
  · obtain ⟨p, xs, n, rfl, _⟩ := h
    rfl
  · obtain ⟨p, xs, n, rfl, ⟨vs, hp, hP⟩, hx, hm, hn, hlen, k⟩ := h
    refine ⟨_, pss_one (ps_ret (pe_call G1 hr (by rfl) D1.g D1.F.kp D1.b .nil pass0 (pa_cons (pe_lc (own := [("number", 2), ("weight", 3)]) (g := gTup K 2 (gCons (gName 2) (gCons (gName 3) gNil))) (tt := _) rfl scRestOf.nd (pi_tup (pv 0)) (blkOk_by (N := ["share", "mark", "number", "weight"]) (sc := defScope sRestOf) (by decide +kernel)) (fun _ _ _ _ _ => pg_tup rfl (pgs_cons (pg_name (i := 2) scRestOf.nd rfl (Or.inl rfl)) (pgs_cons (pg_name (i := 3) scRestOf.nd rfl (Or.inl rfl)) pgs_nil))) (fun _ _ _ _ _ => pts_one (pt_cmpR op_gt (pv 2) (pv 1) (nomark _))) (fun _ _ _ _ _ => pe_call G2 (hr.mono (by decide)) (by rfl) D2.g D2.F.kp D2.b .nil pass0 (pa_cons (pv 3) (pa_cons (pe_op op_sub (pv 2) (pv 1)) pa_nil)))) pa_nil))), ?_⟩
    refine ⟨_, rfl, p, rfl, ⟨_, hp⟩, fun D hD => lc_tup (K := K) (a := p) (xs := vs) (fun i H' => LcF K H D (((xs.take i).filter fun a => decide (n < a.1)).map fun a => scl a.2 (a.1 - n)) H') (LcF.start hD) (fun i H' _ ⟨ws, _, s1, _⟩ => s1.tup hp) ?_ ?_⟩
    · rintro i v H' hi ⟨ws, h1, s1, hf⟩
      obtain ⟨q, r, m, x, rfl, hxi, hq, hr'⟩ := hP.get hi
      have hi2 : i < xs.length := (List.getElem?_eq_some_iff.mp hxi).1
      have hxm := hx _ (List.mem_of_getElem? hxi)
      have hmm := hm _ (List.mem_of_getElem? hxi)
      refine ⟨q, _, rfl, s1.tup hq, rfl, _, _, rfl, _, _, rfl, rfl, rfl, ?_⟩
      refine ⟨_, rfl, _, rfl, _, _, rfl, rfl, _, rfl, ?_⟩
      by_cases hc : n < m
      · dsimp only
        rw [if_pos (decide_eq_true hc)]
        refine ⟨_, rfl, _, rfl, _, rfl, _, _, rfl, rfl, r, x, m - n, rfl, s1.tup hr', hxm.1, hxm.2.up (by decide), by simp only at hmm; omega, fun t ht => ?_⟩
        have k1 := Same.new (o := .tup [.int (scl x (m - n)).1, .int (scl x (m - n)).2]) ht
        refine ⟨ws, k1 _ _ h1, small1000 ?_, ?_⟩
        · rw [hf.len, List.length_map]
          have := List.length_filter_le (fun a : Int × Fx => decide (n < a.1)) (xs.take i)
          rw [List.length_take] at this
          omega
        · show LcF K H D _ _
          rw [take_snoc hxi, List.filter_append, List.map_append, List.filter_cons_of_pos (by simpa using hc)]
          exact LcF.step hD (k1 _ _ h1) (s1.trans k1) (hf.tk (tk_same k1)) FT.new
      · dsimp only
        rw [if_neg (by rw [decide_eq_false hc]; exact Bool.false_ne_true)]
        show LcF K H D _ _
        rw [take_snoc hxi, List.filter_append, List.map_append, List.filter_cons_of_neg (by simpa using hc)]
        show LcF K H D (_ ++ []) _
        rw [List.append_nil]
        exact ⟨ws, h1, s1, hf⟩
    · rintro H' ⟨ws, h1, s1, hf⟩
      rw [hP.len, List.take_length] at hf
      refine ⟨D, ws, _, rfl, SqL.of h1, hf, ?_, ?_, fun H2 r s2 hr2 => k _ _ (s1.trans s2) hr2⟩
      · intro x hxm
        obtain ⟨a, ha, rfl⟩ := List.mem_map.mp hxm
        have ha2 := (List.mem_filter.mp ha).1
        refine ⟨scl_fr (hx a ha2).1 _, (scl_sz (m := 9) (hx a ha2).1 (hx a ha2).2 ?_).up (by decide)⟩
        have := hm a ha2
        omega
      · rw [List.length_map]
        exact Nat.le_trans (List.length_filter_le _ _) hlen
end
end CS
set_option Elab.async false
set_option maxRecDepth 100000
set_option maxHeartbeats 8000000
set_option linter.unusedVariables false
namespace CS
open PySem L2
section
variable {P : Program} {w : World} {K : PySem.W.Frag} {mg : Str → Option Value} {base : Heap}
theorem dget_or {H : Hp} {d aN : Addr} {kvs : List (Key × V)} {f : List (Int × Fx)} (hd : H d = some (.dK kvs)) (hD : DPr K H kvs f) (hN : FT K H aN (0, 1)) (k : Int) : ∃ (o : Option V) (r : Addr), DGet H d (.int k) o ∧ o.getD (.ref aN) = .ref r ∧ FT K H r (lk f k) := by
  by_cases hm : k ∈ f.map (·.1)
  · obtain ⟨r, h1, h2⟩ := hD.val k hm
    refine ⟨some (.ref r), r, ?_, rfl, h2⟩
    rw [← h1]
    exact DGet.k (k := Sum.inl k) hd
  · have h1 := hD.non k hm
    refine ⟨none, aN, ?_, rfl, ?_⟩
    · rw [← h1]
      exact DGet.k (k := Sum.inl k) hd
    · rw [lk_none hm]
      exact hN
def spGatT (K : PySem.W.Frag) : Sp := fun vs H Q _ => ∃ p ws xs, vs = [.ref p] ∧ SqT K H p ws ∧ PrsAt K H ws xs ∧ AllF 90 xs ∧ xs.length ≤ 16 ∧ ∀ H' r ys, Same H H' → ShAt K H' r ys → IsS (gat [] xs) ys → Q (.ref r) H'
def spGatL (K : PySem.W.Frag) : Sp := fun vs H Q _ => ∃ p ws xs, vs = [.ref p] ∧ SqL K H p ws ∧ PrsAt K H ws xs ∧ AllF 90 xs ∧ xs.length ≤ 16 ∧ ∀ H' r ys, Same H H' → ShAt K H' r ys → IsS (gat [] xs) ys → Q (.ref r) H'
theorem scGathered : FnScope ["pairs", "sums", "key", "fraction"] ["pairs"] (defScope sGathered) := ⟨rfl, rfl, rfl, by decide +kernel, rfl, by decide +kernel, by decide +kernel⟩
theorem ok_gatheredT {f f1 aN : Addr} {fd fd1 : FuncData} (F : Df K mg "gathered" sGathered ["pairs"] f fd) (D1 : Df K mg "added" sAdded ["one", "other"] f1 fd1) (G1 : FnOk P w K mg base CX0 2 f1 fd1 ["one", "other"] (spF2 K (fun _ _ => True) fadd)) (gN : mg "NOUGHT" = some (.ref aN)) (hN : ∀ H, FT K H aN (0, 1)) (T : Bt mg) : FnOk P w K mg base CX0 3 f fd ["pairs"] (spGatT K) := by
  refine F.F.ok scGathered (fun vs H Q E h => ?_) (fun cdv A outer s H vs Q E hr h => ?_)
  · obtain ⟨p, ws, xs, rfl, _⟩ := h
    rfl
  · obtain ⟨p, ws, xs, rfl, hp, hP, hx, hlen, k⟩ := h
    have hu := hu_of hr
    refine ⟨_, pss_cons (ps_set (i := 1) scGathered.nd rfl (Or.inr rfl) pe_dnewK)
      (pss_cons (ps_for PassesOwn.never rfl (pi_tup (pv 0)) (pg_tup rfl (pgs_cons (pg_name (i := 2) scGathered.nd rfl (Or.inl rfl)) (pgs_cons (pg_name (i := 3) scGathered.nd rfl (Or.inl rfl)) pgs_nil))) (pss_one (ps_dput hu (pv 1) (pv 2) (pe_call G1 hr (by rfl) D1.g D1.F.kp D1.b .nil pass0 (pa_cons (pe_dget2 hu (pv 1) (pv 2) (pe_glob (v := .ref aN) (by rfl) gN rfl) ⟨rfl, rfl, rfl, rfl⟩) (pa_cons (pv 3) pa_nil))) rfl)))
      (pss_one (ps_ret (pe_callTy call_tuple_of (by rfl) T.tuple (by decide +kernel) (pa_cons (pe_lc (own := [("key", 2)]) (g := gName 2) (tt := tTest (tOp (rNeD K) (tDGet (tVar 1) (tVar 2)) (tC (.ref aN)))) rfl scGathered.nd (pi_list (pe_callB (call_sortedDI rfl) (by rfl) T.sorted (by decide +kernel) (pa_cons (pv 1) pa_nil))) (blkOk_by (N := ["pairs", "sums", "key", "fraction"]) (sc := defScope sGathered) (by decide +kernel)) (fun _ _ _ _ _ => pg_name (i := 2) scGathered.nd rfl (Or.inl rfl)) (fun _ _ _ _ _ => pts_one (pt_cmpR (op_neD hr.units) (pe_dget hu (pv 1) (pv 2) (fun _ _ => rfl)) (pe_glob (v := .ref aN) (by rfl) gN rfl) (nomark _))) (fun _ _ _ _ _ => pe_tup (pa_cons (pv 2) (pa_cons (pe_dget hu (pv 1) (pv 2) (fun _ _ => rfl)) pa_nil)))) pa_nil))))), ?_⟩
    intro d hd
    have s0 : Same H (upd H d (.dK [])) := Same.new hd
    refine ⟨_, rfl, p, rfl, ⟨_, (fun s1 : Same H _ => s1.tup hp) s0⟩, for_tup (K := K) (a := p) (xs := ws) (fun i σ H' => ∃ u v kvs, σ = [some (.ref p), some (.ref d), u, v] ∧ Same H H' ∧ H' d = some (.dK kvs) ∧ DPr K H' kvs (gat [] (xs.take i))) ⟨none, none, [], rfl, s0, upd_same, .nil⟩ (fun i σ H' _ ⟨_, _, _, _, s1, _⟩ => s1.tup hp) ?_ ?_⟩
    · rintro i v σ H' hi ⟨u1, u2, kvs, rfl, s1, hdk, hD⟩
      obtain ⟨q, r, m, x, rfl, hxi, hq, hr'⟩ := hP.get hi
      have hi2 : i < xs.length := (List.getElem?_eq_some_iff.mp hxi).1
      have hxm := hx _ (List.mem_of_getElem? hxi)
      refine ⟨q, _, rfl, s1.tup hq, rfl, _, _, rfl, _, _, rfl, rfl, ?_⟩
      obtain ⟨o, a, g1, g2, g3⟩ := dget_or hdk hD (hN H') m
      have hz : Sz 1900 (lk (gat [] (xs.take i)) m) := by
        refine (gat_sz (n := 90) hx.take m).up ?_
        rw [List.length_take]
        omega
      refine ⟨_, rfl, d, rfl, .inl ⟨kvs, .inl hdk⟩, _, rfl, o, g1, ?_⟩
      rw [g2]
      refine ⟨_, rfl, a, r, _, x, rfl, g3, s1.tup hr', gat_fr (n := 90) hx.take m, hxm.1, hz, hxm.2.up (by decide), trivial, fun t ht => ?_⟩
      have k1 := Same.new (o := .tup [.int (fadd (lk (gat [] (xs.take i)) m) x).1, .int (fadd (lk (gat [] (xs.take i)) m) x).2]) ht
      have hl : kvs.length < sizeLine := by
        refine small1000 ?_
        rw [hD.len]
        have := gat_len (xs.take i) []
        rw [List.length_take, List.length_nil] at this
        omega
      refine ⟨_, rfl, _, rfl, d, _, rfl, DPut.k (k := Sum.inl m) (k1 _ _ hdk) hl, ?_⟩
      refine ⟨_, _, _, rfl, same_upd hd (s1.trans k1), upd_same, ?_⟩
      rw [take_snoc hxi, gat_snoc]
      have hn := gat_nodup (xs.take i) [] List.nodup_nil
      exact ((hD.tk (tk_same k1)).put hn FT.new).tk (tk_dk (k1 _ _ hdk))
    · rintro σ H1 ⟨u1, u2, kvs, rfl, s1, hdk, hD⟩
      rw [hP.len, List.take_length] at hD
      have hn := gat_nodup xs [] List.nodup_nil
      have hl : ((gat [] xs).map (·.1)).length < 64 := by
        have := gat_len xs []
        rw [List.length_nil] at this
        rw [List.length_map]
        omega
      refine ⟨_, rfl, d, kvs, (gat [] xs).map (·.1), rfl, .inl hdk, hD.keys, hl, fun ys t perm srt ht => ?_⟩
      have k1 := Same.new (o := .lst (ys.map V.int)) ht
      have hlen2 : ys.length ≤ 16 := by
        rw [perm.length_eq, List.length_map]
        have := gat_len xs []
        rw [List.length_nil] at this
        omega
      have hT : (upd H1 t (.lst (ys.map V.int))) t = some (.lst (ys.map V.int)) := upd_same
      have hD2 := hD.tk (tk_same k1)
      have hdk2 := k1 _ _ hdk
      have s2 := s1.trans k1
      generalize upd H1 t (.lst (ys.map V.int)) = H2 at *
      refine ⟨t, rfl, ⟨_, SqL.of hT⟩, fun D hDn => lc_list (K := K) (a := t) (xs := ys.map V.int) (fun i H' => LcP K H2 D ((((ys.take i).filter fun k => decide (lk (gat [] xs) k ≠ (0, 1))).map fun k => (k, lk (gat [] xs) k))) H') (LcP.start hDn) (fun i H' _ ⟨_, _, s3, _⟩ => SqL.of (s3 _ _ hT)) ?_ ?_⟩
      · rintro i v H' hi ⟨us, h1, s3, hf⟩
        rw [List.getElem?_map] at hi
        obtain ⟨m, hmi, rfl⟩ : ∃ m, ys[i]? = some m ∧ v = V.int m := by
          cases e : ys[i]? with
          | none => rw [e] at hi; cases hi
          | some z => rw [e] at hi; exact ⟨z, rfl, (Option.some.inj hi).symm⟩
        have hmem : m ∈ (gat [] xs).map (·.1) := perm.mem_iff.mp (List.mem_of_getElem? hmi)
        obtain ⟨r, g1, g2⟩ := (hD2.tk (tk_same s3)).val m hmem
        have hg : DGet H' d (.int m) (some (.ref r)) := by
          rw [← g1]
          exact DGet.k (k := Sum.inl m) (s3 _ _ hdk2)
        refine ⟨rfl, ?_⟩
        refine ⟨_, rfl, _, rfl, d, _, rfl, hg, ?_⟩
        refine ⟨frD (lk (gat [] xs) m), frD (0, 1), ftDp g2, ftDp (hN _), rfl, rfl, _, rfl, ?_⟩
        dsimp only
        rw [eqvFr]
        have hsz : us.length ≤ 1000 := by
          rw [hf.len, List.length_map]
          have := List.length_filter_le (fun k => decide (lk (gat [] xs) k ≠ (0, 1))) (ys.take i)
          rw [List.length_take] at this
          omega
        by_cases hc : lk (gat [] xs) m = (0, 1)
        · rw [if_neg (by simp [hc])]
          show LcP K H2 D _ _
          rw [take_snoc hmi, List.filter_append, List.map_append, List.filter_cons_of_neg (by simp [hc])]
          show LcP K H2 D (_ ++ []) _
          rw [List.append_nil]
          exact ⟨us, h1, s3, hf⟩
        · rw [if_pos (by simp [hc])]
          refine ⟨_, rfl, _, rfl, _, rfl, d, _, rfl, hg, (by show 2 ≤ sizeLine; decide), fun t2 ht2 => ?_⟩
          have k2 := Same.new (o := .tup [V.int m, .ref r]) ht2
          refine ⟨us, k2 _ _ h1, small1000 hsz, ?_⟩
          show LcP K H2 D _ _
          rw [take_snoc hmi, List.filter_append, List.map_append, List.filter_cons_of_pos (by simp [hc])]
          exact LcP.step hDn (k2 _ _ h1) (s3.trans k2) (hf.tk (tk_same k2)) (SqT.of upd_same) (k2.tup g2)
      · rintro H' ⟨us, h1, s3, hf⟩
        rw [List.length_map, List.take_length] at hf
        refine ⟨D, us, rfl, .inl ⟨SqL.of h1, fun l hl => ?_⟩⟩
        have k3 := Same.new (o := .tup us) hl
        exact k _ l _ (s2.trans (s3.trans k3)) ⟨us, SqT.of upd_same, hf.tk (tk_same k3)⟩ (isS_of perm hn srt)
theorem ok_gatheredL {f f1 aN : Addr} {fd fd1 : FuncData} (F : Df K mg "gathered" sGathered ["pairs"] f fd) (D1 : Df K mg "added" sAdded ["one", "other"] f1 fd1) (G1 : FnOk P w K mg base CX0 2 f1 fd1 ["one", "other"] (spF2 K (fun _ _ => True) fadd)) (gN : mg "NOUGHT" = some (.ref aN)) (hN : ∀ H, FT K H aN (0, 1)) (T : Bt mg) : FnOk P w K mg base CX0 3 f fd ["pairs"] (spGatL K) := by
  refine F.F.ok scGathered (fun vs H Q E h => ?_) (fun cdv A outer s H vs Q E hr h => ?_)
  · obtain ⟨p, ws, xs, rfl, _⟩ := h
    rfl
  · obtain ⟨p, ws, xs, rfl, hp, hP, hx, hlen, k⟩ := h
    have hu := hu_of hr
    refine ⟨_, pss_cons (ps_set (i := 1) scGathered.nd rfl (Or.inr rfl) pe_dnewK)
      (pss_cons (ps_for PassesOwn.never rfl (pi_list (pv 0)) (pg_tup rfl (pgs_cons (pg_name (i := 2) scGathered.nd rfl (Or.inl rfl)) (pgs_cons (pg_name (i := 3) scGathered.nd rfl (Or.inl rfl)) pgs_nil))) (pss_one (ps_dput hu (pv 1) (pv 2) (pe_call G1 hr (by rfl) D1.g D1.F.kp D1.b .nil pass0 (pa_cons (pe_dget2 hu (pv 1) (pv 2) (pe_glob (v := .ref aN) (by rfl) gN rfl) ⟨rfl, rfl, rfl, rfl⟩) (pa_cons (pv 3) pa_nil))) rfl)))
      (pss_one (ps_ret (pe_callTy call_tuple_of (by rfl) T.tuple (by decide +kernel) (pa_cons (pe_lc (own := [("key", 2)]) (g := gName 2) (tt := tTest (tOp (rNeD K) (tDGet (tVar 1) (tVar 2)) (tC (.ref aN)))) rfl scGathered.nd (pi_list (pe_callB (call_sortedDI rfl) (by rfl) T.sorted (by decide +kernel) (pa_cons (pv 1) pa_nil))) (blkOk_by (N := ["pairs", "sums", "key", "fraction"]) (sc := defScope sGathered) (by decide +kernel)) (fun _ _ _ _ _ => pg_name (i := 2) scGathered.nd rfl (Or.inl rfl)) (fun _ _ _ _ _ => pts_one (pt_cmpR (op_neD hr.units) (pe_dget hu (pv 1) (pv 2) (fun _ _ => rfl)) (pe_glob (v := .ref aN) (by rfl) gN rfl) (nomark _))) (fun _ _ _ _ _ => pe_tup (pa_cons (pv 2) (pa_cons (pe_dget hu (pv 1) (pv 2) (fun _ _ => rfl)) pa_nil)))) pa_nil))))), ?_⟩
    intro d hd
    have s0 : Same H (upd H d (.dK [])) := Same.new hd
    refine ⟨_, rfl, p, rfl, ⟨_, (fun s1 : Same H _ => s1.seq hp) s0⟩, for_list (K := K) (a := p) (xs := ws) (fun i σ H' => ∃ u v kvs, σ = [some (.ref p), some (.ref d), u, v] ∧ Same H H' ∧ H' d = some (.dK kvs) ∧ DPr K H' kvs (gat [] (xs.take i))) ⟨none, none, [], rfl, s0, upd_same, .nil⟩ (fun i σ H' _ ⟨_, _, _, _, s1, _⟩ => s1.seq hp) ?_ ?_⟩
    · rintro i v σ H' hi ⟨u1, u2, kvs, rfl, s1, hdk, hD⟩
      obtain ⟨q, r, m, x, rfl, hxi, hq, hr'⟩ := hP.get hi
      have hi2 : i < xs.length := (List.getElem?_eq_some_iff.mp hxi).1
      have hxm := hx _ (List.mem_of_getElem? hxi)
      refine ⟨q, _, rfl, s1.tup hq, rfl, _, _, rfl, _, _, rfl, rfl, ?_⟩
      obtain ⟨o, a, g1, g2, g3⟩ := dget_or hdk hD (hN H') m
      have hz : Sz 1900 (lk (gat [] (xs.take i)) m) := by
        refine (gat_sz (n := 90) hx.take m).up ?_
        rw [List.length_take]
        omega
      refine ⟨_, rfl, d, rfl, .inl ⟨kvs, .inl hdk⟩, _, rfl, o, g1, ?_⟩
      rw [g2]
      refine ⟨_, rfl, a, r, _, x, rfl, g3, s1.tup hr', gat_fr (n := 90) hx.take m, hxm.1, hz, hxm.2.up (by decide), trivial, fun t ht => ?_⟩
      have k1 := Same.new (o := .tup [.int (fadd (lk (gat [] (xs.take i)) m) x).1, .int (fadd (lk (gat [] (xs.take i)) m) x).2]) ht
      have hl : kvs.length < sizeLine := by
        refine small1000 ?_
        rw [hD.len]
        have := gat_len (xs.take i) []
        rw [List.length_take, List.length_nil] at this
        omega
      refine ⟨_, rfl, _, rfl, d, _, rfl, DPut.k (k := Sum.inl m) (k1 _ _ hdk) hl, ?_⟩
      refine ⟨_, _, _, rfl, same_upd hd (s1.trans k1), upd_same, ?_⟩
      rw [take_snoc hxi, gat_snoc]
      have hn := gat_nodup (xs.take i) [] List.nodup_nil
      exact ((hD.tk (tk_same k1)).put hn FT.new).tk (tk_dk (k1 _ _ hdk))
    · rintro σ H1 ⟨u1, u2, kvs, rfl, s1, hdk, hD⟩
      rw [hP.len, List.take_length] at hD
      have hn := gat_nodup xs [] List.nodup_nil
      have hl : ((gat [] xs).map (·.1)).length < 64 := by
        have := gat_len xs []
        rw [List.length_nil] at this
        rw [List.length_map]
        omega
      refine ⟨_, rfl, d, kvs, (gat [] xs).map (·.1), rfl, .inl hdk, hD.keys, hl, fun ys t perm srt ht => ?_⟩
      have k1 := Same.new (o := .lst (ys.map V.int)) ht
      have hlen2 : ys.length ≤ 16 := by
        rw [perm.length_eq, List.length_map]
        have := gat_len xs []
        rw [List.length_nil] at this
        omega
      have hT : (upd H1 t (.lst (ys.map V.int))) t = some (.lst (ys.map V.int)) := upd_same
      have hD2 := hD.tk (tk_same k1)
      have hdk2 := k1 _ _ hdk
      have s2 := s1.trans k1
      generalize upd H1 t (.lst (ys.map V.int)) = H2 at *
      refine ⟨t, rfl, ⟨_, SqL.of hT⟩, fun D hDn => lc_list (K := K) (a := t) (xs := ys.map V.int) (fun i H' => LcP K H2 D ((((ys.take i).filter fun k => decide (lk (gat [] xs) k ≠ (0, 1))).map fun k => (k, lk (gat [] xs) k))) H') (LcP.start hDn) (fun i H' _ ⟨_, _, s3, _⟩ => SqL.of (s3 _ _ hT)) ?_ ?_⟩
      · rintro i v H' hi ⟨us, h1, s3, hf⟩
        rw [List.getElem?_map] at hi
        obtain ⟨m, hmi, rfl⟩ : ∃ m, ys[i]? = some m ∧ v = V.int m := by
          cases e : ys[i]? with
          | none => rw [e] at hi; cases hi
          | some z => rw [e] at hi; exact ⟨z, rfl, (Option.some.inj hi).symm⟩
        have hmem : m ∈ (gat [] xs).map (·.1) := perm.mem_iff.mp (List.mem_of_getElem? hmi)
        obtain ⟨r, g1, g2⟩ := (hD2.tk (tk_same s3)).val m hmem
        have hg : DGet H' d (.int m) (some (.ref r)) := by
          rw [← g1]
          exact DGet.k (k := Sum.inl m) (s3 _ _ hdk2)
        refine ⟨rfl, ?_⟩
        refine ⟨_, rfl, _, rfl, d, _, rfl, hg, ?_⟩
        refine ⟨frD (lk (gat [] xs) m), frD (0, 1), ftDp g2, ftDp (hN _), rfl, rfl, _, rfl, ?_⟩
        dsimp only
        rw [eqvFr]
        have hsz : us.length ≤ 1000 := by
          rw [hf.len, List.length_map]
          have := List.length_filter_le (fun k => decide (lk (gat [] xs) k ≠ (0, 1))) (ys.take i)
          rw [List.length_take] at this
          omega
        by_cases hc : lk (gat [] xs) m = (0, 1)
        · rw [if_neg (by simp [hc])]
          show LcP K H2 D _ _
          rw [take_snoc hmi, List.filter_append, List.map_append, List.filter_cons_of_neg (by simp [hc])]
          show LcP K H2 D (_ ++ []) _
          rw [List.append_nil]
          exact ⟨us, h1, s3, hf⟩
        · rw [if_pos (by simp [hc])]
          refine ⟨_, rfl, _, rfl, _, rfl, d, _, rfl, hg, (by show 2 ≤ sizeLine; decide), fun t2 ht2 => ?_⟩
          have k2 := Same.new (o := .tup [V.int m, .ref r]) ht2
          refine ⟨us, k2 _ _ h1, small1000 hsz, ?_⟩
          show LcP K H2 D _ _
          rw [take_snoc hmi, List.filter_append, List.map_append, List.filter_cons_of_pos (by simp [hc])]
          exact LcP.step hDn (k2 _ _ h1) (s3.trans k2) (hf.tk (tk_same k2)) (SqT.of upd_same) (k2.tup g2)
      · rintro H' ⟨us, h1, s3, hf⟩
        rw [List.length_map, List.take_length] at hf
        refine ⟨D, us, rfl, .inl ⟨SqL.of h1, fun l hl => ?_⟩⟩
        have k3 := Same.new (o := .tup us) hl
        exact k _ l _ (s2.trans (s3.trans k3)) ⟨us, SqT.of upd_same, hf.tk (tk_same k3)⟩ (isS_of perm hn srt)
end
end CS
set_option Elab.async false
set_option maxRecDepth 100000
set_option maxHeartbeats 8000000
set_option linter.unusedVariables false
namespace CS
open PySem L2
section
variable {P : Program} {w : World} {K : PySem.W.Frag} {mg : Str → Option Value} {base : Heap}
def GoodP (a : Int × Fx) : Prop := -100 ≤ a.1 ∧ a.1 ≤ 100 ∧ Fr a.2 ∧ 0 < a.2.1
instance (a : Int × Fx) : Decidable (GoodP a) := by unfold GoodP; infer_instance
def spWW : Sp := fun vs H Q _ => ∃ i l m : Int, vs = [.int i, .int l, .int m] ∧ Q (.bl (decide (l ≤ i ∧ i ≤ m))) H
def spNum : Sp := fun vs H Q _ => ∃ i : Int, vs = [.int i] ∧ Q (.bl (decide (-100 ≤ i ∧ i ≤ 100))) H
def spWt (K : PySem.W.Frag) : Sp := fun vs H Q _ => ∃ p x, vs = [.ref p] ∧ FT K H p x ∧ Q (.bl (decide (Fr x ∧ 0 < x.1))) H
def spShP (K : PySem.W.Frag) : Sp := fun vs H Q _ => ∃ q r m x, vs = [.ref q] ∧ SqT K H q [.int m, .ref r] ∧ FT K H r x ∧ Q (.bl (decide (GoodP (m, x)))) H
def spAsc (K : PySem.W.Frag) : Sp := fun vs H Q _ => ∃ (a : Addr) (ns : List Int), vs = [.ref a] ∧ SqL K H a (ns.map V.int) ∧ ns.length ≤ 900 ∧ ∀ H', Same H H' → Q (.bl (decide (ns.Pairwise (· < ·)))) H'
def spIsSh (K : PySem.W.Frag) : Sp := fun vs H Q _ => ∃ p xs, vs = [.ref p] ∧ ShAt K H p xs ∧ xs.length ≤ 900 ∧ ∀ H', Same H H' → Q (.bl (decide (Shr xs))) H'
def spNeedSh (K : PySem.W.Frag) : Sp := fun vs H Q _ => ∃ p xs, vs = [.ref p] ∧ ShAt K H p xs ∧ Shr xs ∧ ∀ H', Same H H' → Q (.ref p) H'
def spNeedNum : Sp := fun vs H Q _ => ∃ i : Int, vs = [.int i] ∧ -100 ≤ i ∧ i ≤ 100 ∧ Q (.int i) H
def spTot (K : PySem.W.Frag) (f : List (Int × Fx) → Fx) : Sp := fun vs H Q _ => ∃ p xs, vs = [.ref p] ∧ ShAt K H p xs ∧ Shr xs ∧ AllF 90 xs ∧ ∀ H' r, Same H H' → FT K H' r (f xs) → Q (.ref r) H'
def spRest (K : PySem.W.Frag) : Sp := fun vs H Q _ => ∃ p xs k, vs = [.ref p, .int k] ∧ ShAt K H p xs ∧ Shr xs ∧ AllF 90 xs ∧ -100 ≤ k ∧ k ≤ 100 ∧ ∀ H' r, Same H H' → FT K H' r (frest xs k) → Q (.ref r) H'
theorem Shr.abs {xs : List (Int × Fx)} (h : Shr xs) : ∀ a ∈ xs, a.1.natAbs ≤ 200 := fun a ha => by
  have := h.2.1 a ha
  omega
theorem Shr.len {xs : List (Int × Fx)} (h : Shr xs) : xs.length ≤ 16 := by have := h.1; omega
theorem scIsWholeWithin : FnScope ["thing", "least", "most"] ["thing", "least", "most"] (defScope sIsWholeWithin) := ⟨rfl, rfl, rfl, by decide +kernel, rfl, by decide +kernel, by decide +kernel⟩
theorem ok_is_whole_within {f f1 : Addr} {fd fd1 : FuncData} (F : Df K mg "is_whole_within" sIsWholeWithin ["thing", "least", "most"] f fd) (D1 : Df K mg "is_whole" sIsWhole ["thing"] f1 fd1) (T : Bt mg) : FnOk P w K mg base CX0 2 f fd ["thing", "least", "most"] spWW := by
  have G1 : FnOk P w K mg base CX0 1 f1 fd1 ["thing"] (spWhole K) := ok_is_whole D1 T
  refine F.F.ok scIsWholeWithin (fun vs H Q E h => ?_) (fun cdv A outer s H vs Q E hr h => ?_)
  · obtain ⟨i, l, m, rfl, _⟩ := h
    rfl
  · obtain ⟨i, l, m, rfl, k⟩ := h
    refine ⟨_, pss_one (ps_ret (pe_and (pe_call G1 hr (by rfl) D1.g D1.F.kp D1.b .nil pass0 (pa_cons (pv 0) pa_nil)) (pe_and (pe_cmpR op_le (pv 1) (pv 0) (nomark _)) (pe_one (pe_cmpR op_le (pv 0) (pv 2) (nomark _)))))), ?_⟩
    refine ⟨_, rfl, _, rfl, _, rfl, iteT ?_⟩
    refine ⟨_, rfl, _, rfl, _, _, rfl, rfl, _, rfl, ?_⟩
    by_cases h1 : l ≤ i
    · rw [decide_eq_true h1]
      refine iteT ⟨_, rfl, _, rfl, _, _, rfl, rfl, ?_⟩
      have e : decide (i ≤ m) = decide (l ≤ i ∧ i ≤ m) := by simp [h1]
      rw [← e] at k
      exact k
    · rw [decide_eq_false h1]
      refine iteF ?_
      rw [decide_eq_false (fun h => h1 h.1)] at k
      exact k
theorem scIsNumber : FnScope ["thing"] ["thing"] (defScope sIsNumber) := ⟨rfl, rfl, rfl, by decide +kernel, rfl, by decide +kernel, by decide +kernel⟩
theorem ok_is_number {f f1 : Addr} {fd fd1 : FuncData} (F : Df K mg "is_number" sIsNumber ["thing"] f fd) (D1 : Df K mg "is_whole_within" sIsWholeWithin ["thing", "least", "most"] f1 fd1) (G1 : FnOk P w K mg base CX0 2 f1 fd1 ["thing", "least", "most"] spWW) : FnOk P w K mg base CX0 3 f fd ["thing"] spNum := by
  refine F.F.ok scIsNumber (fun vs H Q E h => ?_) (fun cdv A outer s H vs Q E hr h => ?_)
  · obtain ⟨i, rfl, _⟩ := h
    rfl
  · obtain ⟨i, rfl, k⟩ := h
    refine ⟨_, pss_one (ps_ret (pe_call G1 hr (by rfl) D1.g D1.F.kp D1.b .nil pass0 (pa_cons (pv 0) (pa_cons (pe_un un_neg pe_int) (pa_cons (pe_int) pa_nil))))), ?_⟩
    exact ⟨_, rfl, _, rfl, i, _, _, rfl, k⟩
theorem scIsWeight : FnScope ["thing"] ["thing"] (defScope sIsWeight) := ⟨rfl, rfl, rfl, by decide +kernel, rfl, by decide +kernel, by decide +kernel⟩
theorem ok_is_weight {f f1 : Addr} {fd fd1 : FuncData} (F : Df K mg "is_weight" sIsWeight ["thing"] f fd) (D1 : Df K mg "is_fraction" sIsFraction ["thing"] f1 fd1) (G1 : FnOk P w K mg base CX0 3 f1 fd1 ["thing"] (spIsFr K)) : FnOk P w K mg base CX0 4 f fd ["thing"] (spWt K) := by
  refine F.F.ok scIsWeight (fun vs H Q E h => ?_) (fun cdv A outer s H vs Q E hr h => ?_)
  · obtain ⟨p, x, rfl, _⟩ := h
    rfl
  · obtain ⟨p, x, rfl, hp, k⟩ := h
    refine ⟨_, pss_one (ps_ret (pe_and (pe_call G1 hr (by rfl) D1.g D1.F.kp D1.b .nil pass0 (pa_cons (pv 0) pa_nil)) (pe_one (pe_cmpR op_gt (pe_fst 0) pe_int (nomark _))))), ?_⟩
    refine ⟨_, rfl, p, x, rfl, hp, _, rfl, ?_⟩
    by_cases h1 : Fr x
    · rw [decide_eq_true h1]
      refine iteT ⟨p, x, rfl, hp, _, _, rfl, rfl, ?_⟩
      have e : decide (0 < x.1) = decide (Fr x ∧ 0 < x.1) := by simp [h1]
      rw [← e] at k
      exact k
    · rw [decide_eq_false h1]
      refine iteF ?_
      rw [decide_eq_false (fun h => h1 h.1)] at k
      exact k
theorem scIsSharePair : FnScope ["thing"] ["thing"] (defScope sIsSharePair) := ⟨rfl, rfl, rfl, by decide +kernel, rfl, by decide +kernel, by decide +kernel⟩
theorem ok_is_share_pair {f f1 f2 f3 : Addr} {fd fd1 fd2 fd3 : FuncData} (F : Df K mg "is_share_pair" sIsSharePair ["thing"] f fd) (D1 : Df K mg "is_row_of" sIsRowOf ["thing", "many"] f1 fd1) (G1 : FnOk P w K mg base CX0 2 f1 fd1 ["thing", "many"] (spRowOf K)) (D2 : Df K mg "is_number" sIsNumber ["thing"] f2 fd2) (G2 : FnOk P w K mg base CX0 3 f2 fd2 ["thing"] spNum)
    (D3 : Df K mg "is_weight" sIsWeight ["thing"] f3 fd3) (G3 : FnOk P w K mg base CX0 4 f3 fd3 ["thing"] (spWt K)) : FnOk P w K mg base CX0 5 f fd ["thing"] (spShP K) := by
  refine F.F.ok scIsSharePair (fun vs H Q E h => ?_) (fun cdv A outer s H vs Q E hr h => ?_)
  · obtain ⟨q, r, m, x, rfl, _⟩ := h
    rfl
  · obtain ⟨q, r, m, x, rfl, hq, hr2, k⟩ := h
    refine ⟨_, pss_one (ps_ret (pe_and (pe_call G1 (hr.mono (by decide)) (by rfl) D1.g D1.F.kp D1.b .nil pass0 (pa_cons (pv 0) (pa_cons (pe_int) pa_nil))) (pe_and (pe_call G2 (hr.mono (by decide)) (by rfl) D2.g D2.F.kp D2.b .nil pass0 (pa_cons (pe_ix ix_tup (pv 0) pe_int (fun _ _ => rfl)) pa_nil)) (pe_one (pe_call G3 hr (by rfl) D3.g D3.F.kp D3.b .nil pass0 (pa_cons (pe_ix ix_tup (pv 0) pe_int (fun _ _ => rfl)) pa_nil)))))), ?_⟩
    refine ⟨_, rfl, q, _, 2, rfl, hq, _, rfl, iteT ?_⟩
    refine ⟨_, rfl, q, _, 0, .int m, rfl, rfl, hq, atI_nat (j := 0) rfl, m, rfl, _, rfl, ?_⟩
    by_cases h1 : -100 ≤ m ∧ m ≤ 100
    · rw [decide_eq_true h1]
      refine iteT ⟨_, rfl, q, _, 1, .ref r, rfl, rfl, hq, atI_nat (j := 1) rfl, r, x, rfl, hr2, ?_⟩
      have e : decide (Fr x ∧ 0 < x.1) = decide (GoodP (m, x)) := by simp [GoodP, h1]
      rw [← e] at k
      exact k
    · rw [decide_eq_false h1]
      refine iteF ?_
      rw [decide_eq_false (fun h : GoodP (m, x) => h1 ⟨h.1, h.2.1⟩)] at k
      exact k
theorem cut1 (xs : List V) : cutV xs (some 1) none = xs.drop 1 := by
  unfold cutV
  have e1 : HT.sIx xs.length 0 (some 1) = min 1 xs.length := HT.sIx_nat xs.length 0 1
  rw [e1, HT.sIx_none]
  cases xs with
  | nil => rfl
  | cons a t =>
    have : min 1 (a :: t).length = 1 := by simp
    rw [this]
    simp
theorem scAscends : FnScope ["things", "low", "high"] ["things"] (defScope sAscends) := ⟨rfl, rfl, rfl, by decide +kernel, rfl, by decide +kernel, by decide +kernel⟩
theorem ok_ascends {f : Addr} {fd : FuncData} (F : Df K mg "ascends" sAscends ["things"] f fd) (T : Bt mg) : FnOk P w K mg base CX0 1 f fd ["things"] (spAsc K) := by
  refine F.F.ok scAscends (fun vs H Q E h => ?_) (fun cdv A outer s H vs Q E hr h => ?_)
  · obtain ⟨a, ns, rfl, _⟩ := h
    rfl
  · obtain ⟨a, ns, rfl, hS, hlen, k⟩ := h
    refine ⟨_, pss_one (ps_ret (pe_callB (cr_all rfl) (by rfl) T.all (by decide +kernel) (pa_cons (pe_lc (own := [("low", 1), ("high", 2)]) (g := gTup K 2 (gCons (gName 1) (gCons (gName 2) gNil))) (tt := tYes) rfl scAscends.nd (pi_zip (by rfl) T.zip (pa_cons (pv 0) (pa_cons (pe_slice sl_list (pv 0) (po_some pe_int) po_none) pa_nil))) (blkOk_by (N := ["things", "low", "high"]) (sc := defScope sAscends) (by decide +kernel)) (fun _ _ _ _ _ => pg_tup rfl (pgs_cons (pg_name (i := 1) scAscends.nd rfl (Or.inl rfl)) (pgs_cons (pg_name (i := 2) scAscends.nd rfl (Or.inl rfl)) pgs_nil))) (fun _ _ _ _ _ => pts_nil) (fun _ _ _ _ _ => pe_cmpR op_lt (pv 1) (pv 2) (nomark _))) pa_nil))), ?_⟩
    refine ⟨_, rfl, _, rfl, _, rfl, a, _, rfl, hS, fun b hb => ?_⟩
    rw [cut1]
    have k1 := Same.new (o := .lst ((ns.map V.int).drop 1)) hb
    have hB : (upd H b (.lst ((ns.map V.int).drop 1))) b = some (.lst ((ns.map V.int).drop 1)) := upd_same
    have hS1 := k1.seq hS
    generalize upd H b (.lst ((ns.map V.int).drop 1)) = H1 at *
    refine ⟨a, b, _, _, rfl, hS1, SqL.of hB, fun D hD => lc_it (walk_zip (xs := ns.map V.int) (ys := (ns.map V.int).drop 1) (n := ns.length - 1) (by simp)) (fun i H' => H' D = some (.lst (((List.zipWith (fun a b => decide (a < b)) ns (ns.drop 1)).take i).map V.bl)) ∧ Same H1 H') ⟨upd_same, Same.new hD⟩ (fun i H' _ ⟨_, s1⟩ => ⟨s1.seq hS1, SqL.of (s1 _ _ hB)⟩) ?_ ?_⟩
    · rintro i v H2 H3 hi ⟨h1, s1⟩ ⟨t, x, y, rfl, ht, rfl, hx, hy⟩
      have e1 : ns[i]? = some (ns[i]'(by omega)) := by simp
      have e2 : (ns.drop 1)[i]? = some (ns[i + 1]'(by omega)) := by
        rw [List.getElem?_drop]
        have : 1 + i = i + 1 := by omega
        rw [this]
        simp
      dsimp only at hx hy
      rw [List.getElem?_map, e1] at hx
      rw [← List.map_drop, List.getElem?_map, e2] at hy
      obtain rfl : V.int _ = x := Option.some.inj hx
      obtain rfl : V.int _ = y := Option.some.inj hy
      have k2 := Same.new (o := .tup [V.int (ns[i]'(by omega)), V.int (ns[i + 1]'(by omega))]) ht
      refine ⟨t, _, rfl, SqT.of upd_same, rfl, _, _, rfl, _, _, rfl, rfl, rfl, ?_⟩
      dsimp only [tYes]
      rw [if_pos rfl]
      refine ⟨_, rfl, _, rfl, _, _, rfl, rfl, _, k2 _ _ h1, small1000 ?_, ?_, ?_⟩
      · rw [List.length_map, List.length_take]; omega
      · rw [upd_same]
        have : (List.zipWith (fun a b => decide (a < b)) ns (ns.drop 1))[i]? = some (decide (ns[i]'(by omega) < ns[i + 1]'(by omega))) := by
          rw [List.getElem?_zipWith, e1, e2]
        rw [take_snoc this, List.map_append]
        rfl
      · exact same_upd hD (s1.trans k2)
    · rintro H2 ⟨h1, s1⟩
      rw [List.take_of_length_le (by rw [List.length_zipWith, List.length_drop]; omega)] at h1
      refine ⟨D, _, rfl, SqL.of h1, ?_⟩
      rw [asc_zip]
      exact k _ (k1.trans s1)
theorem scIsShare : FnScope ["thing", "pair", "number", "_"] ["thing"] (defScope sIsShare) := ⟨rfl, rfl, rfl, by decide +kernel, rfl, by decide +kernel, by decide +kernel⟩
theorem ok_is_share {f f1 f2 f3 : Addr} {fd fd1 fd2 fd3 : FuncData} {t8 : Tok} (F : Df K mg "is_share" sIsShare ["thing"] f fd) (D1 : Df K mg "is_row" sIsRow ["thing"] f1 fd1) (G1 : FnOk P w K mg base CX0 1 f1 fd1 ["thing"] (spRow K)) (D2 : Df K mg "is_share_pair" sIsSharePair ["thing"] f2 fd2) (G2 : FnOk P w K mg base CX0 5 f2 fd2 ["thing"] (spShP K))
    (D3 : Df K mg "ascends" sAscends ["things"] f3 fd3) (G3 : FnOk P w K mg base CX0 1 f3 fd3 ["things"] (spAsc K)) (g8 : mg "MOST_PAIRS" = some (.int 8 t8)) (T : Bt mg) : FnOk P w K mg base CX0 6 f fd ["thing"] (spIsSh K) := by
  refine F.F.ok scIsShare (fun vs H Q E h => ?_) (fun cdv A outer s H vs Q E hr h => ?_)
  · obtain ⟨p, xs, rfl, _⟩ := h
    rfl
  · obtain ⟨p, xs, rfl, ⟨vs, hp, hP⟩, hlen, k⟩ := h
    refine ⟨_, pss_cons (ps_if (PW.pt (pw_or (pt_not (pt_val (pe_call G1 (hr.mono (by decide)) (by rfl) D1.g D1.F.kp D1.b .nil pass0 (pa_cons (pv 0) pa_nil)))) (pw_or1 (pt_cmpR op_gt (pe_callB call_len_seq (by rfl) T.len PySem.boot_len (pa_cons (pv 0) pa_nil)) (pe_glob (v := .int 8) (by rfl) g8 ⟨_, rfl⟩) (nomark _))))) (pss_one (ps_ret pe_bl)) pss_nil)
      (pss_cons (ps_if (pt_not (pt_val (pe_callB (cr_all rfl) (by rfl) T.all (by decide +kernel) (pa_cons (pe_lc (own := [("pair", 1)]) (g := gName 1) (tt := tYes) rfl scIsShare.nd (pi_tup (pv 0)) (blkOk_by (N := ["thing", "pair", "number", "_"]) (sc := defScope sIsShare) (by decide +kernel)) (fun _ _ _ _ _ => pg_name (i := 1) scIsShare.nd rfl (Or.inl rfl)) (fun _ _ _ _ _ => pts_nil) (fun _ _ _ _ _ => pe_call G2 hr (by rfl) D2.g D2.F.kp D2.b .nil pass0 (pa_cons (pv 1) pa_nil))) pa_nil)))) (pss_one (ps_ret pe_bl)) pss_nil)
      (pss_one (ps_ret (pe_call G3 (hr.mono (by decide)) (by rfl) D3.g D3.F.kp D3.b .nil pass0 (pa_cons (pe_lc (own := [("number", 2), ("_", 3)]) (g := gTup K 2 (gCons (gName 2) (gCons (gName 3) gNil))) (tt := tYes) rfl scIsShare.nd (pi_tup (pv 0)) (blkOk_by (N := ["thing", "pair", "number", "_"]) (sc := defScope sIsShare) (by decide +kernel)) (fun _ _ _ _ _ => pg_tup rfl (pgs_cons (pg_name (i := 2) scIsShare.nd rfl (Or.inl rfl)) (pgs_cons (pg_name (i := 3) scIsShare.nd rfl (Or.inl rfl)) pgs_nil))) (fun _ _ _ _ _ => pts_nil) (fun _ _ _ _ _ => pv 2)) pa_nil))))), ?_⟩
    refine ⟨_, rfl, p, _, rfl, hp, _, rfl, iteF ?_⟩
    refine ⟨_, rfl, p, _, rfl, .inr hp, _, _, rfl, rfl, _, rfl, ?_⟩
    rw [hP.len]
    by_cases h8 : (8 : Int) < (xs.length : Int)
    · rw [decide_eq_true h8]
      refine iteT ?_
      have := k H (Same.refl H)
      rw [decide_eq_false (fun h : Shr xs => by have := h.1; omega)] at this
      exact this
    rw [decide_eq_false h8]
    refine iteF ?_
    refine ⟨_, rfl, p, rfl, ⟨_, hp⟩, fun D hD => lc_tup (K := K) (a := p) (xs := vs) (fun i H' => H' D = some (.lst (((xs.take i).map fun a => decide (GoodP a)).map V.bl)) ∧ Same H H') ⟨upd_same, Same.new hD⟩ (fun i H' _ ⟨_, s1⟩ => s1.tup hp) ?_ ?_⟩
    · rintro i v H' hi ⟨h1, s1⟩
      obtain ⟨q, r, m, x, rfl, hxi, hq, hr'⟩ := hP.get hi
      have hi2 : i < xs.length := (List.getElem?_eq_some_iff.mp hxi).1
      refine ⟨rfl, ?_⟩
      dsimp only [tYes]
      rw [if_pos rfl]
      refine ⟨_, rfl, q, r, m, x, rfl, s1.tup hq, s1.tup hr', _, h1, small1000 ?_, ?_, same_upd hD s1⟩
      · rw [List.length_map, List.length_map, List.length_take]; omega
      · rw [upd_same, take_snoc hxi, List.map_append, List.map_append]
        rfl
    · rintro H1 ⟨h1, s1⟩
      rw [hP.len, List.take_length] at h1
      refine ⟨D, _, rfl, SqL.of h1, _, rfl, ?_⟩
      by_cases hg : ∀ a ∈ xs, GoodP a
      · have e : ((xs.map fun a => decide (GoodP a)).all id) = true := by
          rw [List.all_map, List.all_eq_true]
          intro a ha
          exact decide_eq_true (hg a ha)
        rw [e]
        refine iteF ?_
        refine ⟨_, rfl, p, rfl, ⟨_, s1.tup hp⟩, fun D2 hD2 => lc_tup (K := K) (a := p) (xs := vs) (fun i H' => H' D2 = some (.lst (((xs.take i).map (·.1)).map V.int)) ∧ Same H1 H') ⟨upd_same, Same.new hD2⟩ (fun i H' _ ⟨_, s2⟩ => s2.tup (s1.tup hp)) ?_ ?_⟩
        · rintro i v H' hi ⟨h2, s2⟩
          obtain ⟨q, r, m, x, rfl, hxi, hq, hr'⟩ := hP.get hi
          have hi2 : i < xs.length := (List.getElem?_eq_some_iff.mp hxi).1
          refine ⟨q, _, rfl, s2.tup (s1.tup hq), rfl, _, _, rfl, _, _, rfl, rfl, rfl, ?_⟩
          dsimp only [tYes]
          rw [if_pos rfl]
          refine ⟨_, rfl, _, h2, small1000 ?_, ?_, same_upd hD2 s2⟩
          · rw [List.length_map, List.length_map, List.length_take]; omega
          · rw [upd_same, take_snoc hxi, List.map_append, List.map_append]
            rfl
        · rintro H2 ⟨h2, s2⟩
          rw [hP.len, List.take_length] at h2
          refine ⟨D2, xs.map (·.1), rfl, SqL.of h2, by rw [List.length_map]; exact hlen, fun H3 s3 => ?_⟩
          have := k H3 (s1.trans (s2.trans s3))
          have e2 : decide (Shr xs) = decide ((xs.map (·.1)).Pairwise (· < ·)) := by
            rw [decide_eq_decide]
            exact ⟨fun h => h.2.2, fun h => ⟨by omega, hg, h⟩⟩
          rw [e2] at this
          exact this
      · have e : ((xs.map fun a => decide (GoodP a)).all id) = false := by
          rw [Bool.eq_false_iff]
          intro h
          rw [List.all_map, List.all_eq_true] at h
          exact hg fun a ha => of_decide_eq_true (h a ha)
        rw [e]
        refine iteT ?_
        have := k H1 s1
        rw [decide_eq_false (fun h : Shr xs => hg h.2.1)] at this
        exact this
theorem scNeedShare : FnScope ["thing"] ["thing"] (defScope sNeedShare) := ⟨rfl, rfl, rfl, by decide +kernel, rfl, by decide +kernel, by decide +kernel⟩
theorem ok_need_share {f f1 : Addr} {fd fd1 : FuncData} (F : Df K mg "need_share" sNeedShare ["thing"] f fd) (D1 : Df K mg "is_share" sIsShare ["thing"] f1 fd1) (G1 : FnOk P w K mg base CX0 6 f1 fd1 ["thing"] (spIsSh K)) : FnOk P w K mg base CX0 7 f fd ["thing"] (spNeedSh K) := by
  refine F.F.ok scNeedShare (fun vs H Q E h => ?_) (fun cdv A outer s H vs Q E hr h => ?_)
  · obtain ⟨p, xs, rfl, _⟩ := h
    rfl
  · obtain ⟨p, xs, rfl, hp, hx, k⟩ := h
    refine ⟨_, pss_cons (ps_if (pt_not (pt_val (pe_call G1 hr (by rfl) D1.g D1.F.kp D1.b .nil pass0 (pa_cons (pv 0) pa_nil)))) (pss_one ps_never) pss_nil) (pss_one (ps_ret (pv 0))), ?_⟩
    refine ⟨_, rfl, p, xs, rfl, hp, by have := hx.1; omega, fun H' s' => ⟨_, rfl, ?_⟩⟩
    rw [decide_eq_true hx]
    exact iteF ⟨_, rfl, k _ s'⟩
theorem scNeedNumber : FnScope ["thing"] ["thing"] (defScope sNeedNumber) := ⟨rfl, rfl, rfl, by decide +kernel, rfl, by decide +kernel, by decide +kernel⟩
theorem ok_need_number {f f1 : Addr} {fd fd1 : FuncData} (F : Df K mg "need_number" sNeedNumber ["thing"] f fd) (D1 : Df K mg "is_number" sIsNumber ["thing"] f1 fd1) (G1 : FnOk P w K mg base CX0 3 f1 fd1 ["thing"] spNum) : FnOk P w K mg base CX0 4 f fd ["thing"] spNeedNum := by
  refine F.F.ok scNeedNumber (fun vs H Q E h => ?_) (fun cdv A outer s H vs Q E hr h => ?_)
  · obtain ⟨i, rfl, _⟩ := h
    rfl
  · obtain ⟨i, rfl, h1, h2, k⟩ := h
    refine ⟨_, pss_cons (ps_if (pt_not (pt_val (pe_call G1 hr (by rfl) D1.g D1.F.kp D1.b .nil pass0 (pa_cons (pv 0) pa_nil)))) (pss_one ps_never) pss_nil) (pss_one (ps_ret (pv 0))), ?_⟩
    refine ⟨_, rfl, i, rfl, _, rfl, ?_⟩
    rw [decide_eq_true ⟨h1, h2⟩]
    exact iteF ⟨_, rfl, k⟩
end
end CS
set_option Elab.async false
set_option maxRecDepth 100000
set_option maxHeartbeats 8000000
set_option linter.unusedVariables false
namespace CS
open PySem L2
abbrev bmO : List Value := [.type "OverflowError", .type "ArithmeticError", .type "Exception", .type "BaseException", .type "object"]
abbrev bmV : List Value := [.type "ValueError", .type "Exception", .type "BaseException", .type "object"]
theorem AllF.app {n : Nat} {xs ys : List (Int × Fx)} (h : AllF n xs) (g : AllF n ys) : AllF n (xs ++ ys) := fun a ha => (List.mem_append.mp ha).elim (h a) (g a)
theorem AllF.up {n m : Nat} {xs : List (Int × Fx)} (h : AllF n xs) (l : n ≤ m) : AllF m xs := fun a ha => ⟨(h a ha).1, (h a ha).2.up l⟩
section
variable {P : Program} {w : World} {K : PySem.W.Frag} {mg : Str → Option Value} {base : Heap}
/-- an exception class of the text with its __init__ -/
structure Xc (K : PySem.W.Frag) (mg : Str → Option Value) (x f : Str) (C fI : Addr) (bmB : List Value) (newId : String) (st : Stmt) (qual : Str) (fd : FuncData) : Prop where
  T : OwnX K mg x f C fI bmB newId
  F : Fun K "__init__" qual st fI fd
  b : Binds K fd ["self", f] []
theorem scTmI : FnScope ["self", "most"] ["self", "most"] (defScope (inClass sToomany 0)) := ⟨rfl, rfl, rfl, by decide +kernel, rfl, by decide +kernel, by decide +kernel⟩
theorem scBsI : FnScope ["self", "given"] ["self", "given"] (defScope (inClass sBadshare 0)) := ⟨rfl, rfl, rfl, by decide +kernel, rfl, by decide +kernel, by decide +kernel⟩
theorem ok_tm_init {CT fI : Addr} {fd : FuncData} (Z : Xc K mg "TooMany" "most" CT fI bmO "OverflowError.__new__" (inClass sToomany 0) "TooMany.__init__" fd) : FnOk P w K mg base CX0 1 fI fd ["self", "most"] (spPut CT "most") :=
  ok_put PySem.F.store_OverflowError Z.T Z.F scTmI rfl rfl rfl (by decide +kernel) (by decide +kernel) (fun _ => rfl)
theorem ok_bs_init {CB fI : Addr} {fd : FuncData} (Z : Xc K mg "BadShare" "given" CB fI bmV "ValueError.__new__" (inClass sBadshare 0) "BadShare.__init__" fd) : FnOk P w K mg base CX0 1 fI fd ["self", "given"] (spPut CB "given") :=
  ok_put PySem.F.store_ValueError Z.T Z.F scBsI rfl rfl rfl (by decide +kernel) (by decide +kernel) (fun _ => rfl)
/-- put together: the gathered share, or too many -/
def spPutT (K : PySem.W.Frag) (CT : Addr) : Sp := fun vs H Q E => ∃ p q xs ys, vs = [.ref p, .ref q] ∧ ShAt K H p xs ∧ ShAt K H q ys ∧ Shr xs ∧ Shr ys ∧ AllF 80 xs ∧ AllF 80 ys ∧ ∀ H' r zs, Same H H' → ShAt K H' r zs → IsS (gat [] (xs ++ ys)) zs →
  (zs.length ≤ 8 → Q (.ref r) H') ∧ (8 < zs.length → ∀ d, H' d = none → E (.ref CT) (some d) (upd H' d (.xd [("most", .int 8)])))
end
end CS
set_option Elab.async false
set_option maxRecDepth 100000
set_option maxHeartbeats 4000000
set_option linter.unusedVariables false
/-! Exceptions of the program's own as values: made, their fields read, asked for their classes; defs called in an except suite. -/
namespace CS
open PySem PySem.Spec PyProof.Rows L2
/-! the making of an exception whose built-in base has no __new__ of its own (KeyError: LookupError's) -/
abbrev bmK : List Value := [.type "KeyError", .type "LookupError", .type "Exception", .type "BaseException", .type "object"]
abbrev bmR : List Value := [.type "RuntimeError", .type "Exception", .type "BaseException", .type "object"]
open PySem.F in
theorem key_store : StoreFacts "KeyError" bmK "object.__setattr__" "object" := by
  constructor
  case mro => kernel_rfl
  case slot => exact .of (owner := "object") (n := "__setattr__") (by rw [typeLookup_type, builtinLookup_eq_fast]; kernel_rfl) (by decide +kernel) (by decide +kernel) (by decide +kernel) (by first | exact .inl (by decide +kernel) | exact .inr (by decide +kernel)) (by rw [isSubtype_type]; kernel_rfl)
  case entry => exact entry_object_sa
  case args => exact fun a b c => by unfold argsOk; kernel_rfl
  case passes => exact fun self => by kernel_rfl
  all_goals decide +kernel
/-- who makes the instances of a class whose built-in classes above are bmB -/
structure Maker (bmB : List Value) (newId : String) : Prop where
  facts : ∃ B initId bm0, ExcBaseFacts B newId initId bm0 ∧ bmB.contains (.type B) = true
  noA : bmB.contains (.type "AttributeError") = false
  noN : bmB.contains (.type "NameError") = false
theorem maker_V : Maker bmV "ValueError.__new__" := ⟨⟨_, _, _, PySem.F.excBase_ValueError, by decide +kernel⟩, by decide +kernel, by decide +kernel⟩
theorem maker_O : Maker bmO "OverflowError.__new__" := ⟨⟨_, _, _, PySem.F.excBase_OverflowError, by decide +kernel⟩, by decide +kernel, by decide +kernel⟩
theorem maker_R : Maker bmR "RuntimeError.__new__" := ⟨⟨_, _, _, PySem.F.excBase_RuntimeError, by decide +kernel⟩, by decide +kernel, by decide +kernel⟩
theorem maker_K : Maker bmK "LookupError.__new__" := ⟨⟨_, _, _, PySem.F.excBase_LookupError, by decide +kernel⟩, by decide +kernel, by decide +kernel⟩
end CS
namespace PySem
namespace CSX
open CS
section
variable {prog : Program} {w : World} {A : Around} {R : Result → Shared → Prop} {h : Heap} {g : Array GenState} {d : Drawn} {t : Nat} {os : OsState}
variable {nm q : Str} {C N fI : Addr} {bs bm bm0 : List Value} {hdct : Bool} {sn : List Str} {sub : List Value} {ab : Bool} {col : Option Bool} {dd : Option Addr} {k0 k1 k2 k3 k5 : Option Value} {B newId initId : String} {rest : List Value}
/-- the made object, not yet begun -/
theorem fresh_exc (F : ExcBaseFacts B newId initId bm0) (b1 : (Value.ref C :: bm).contains (.type B) = true) (b2 : (Value.ref C :: bm).contains (.type "AttributeError") = false) (b3 : (Value.ref C :: bm).contains (.type "NameError") = false)
    (hC : h.get? C = some (excClassObj nm q C N bs bm hdct sn sub ab col dd k0 k1 k2 k3 k5 newId)) (hz : rest.length ≤ sizeLine)
    (k : R (.ok (.ret (.ref (h.objs.size + 1)))) ⟨(h.push (PySem.W.kdv_tup rest)).push (PySem.HandSPX.excO C h.objs.size), g, d, t, os⟩) : codeAny (model prog w) A (.builtin newId ⟨.ref C :: rest, []⟩) R ⟨h, g, d, t, os⟩ := by
  have e0 := F.ends
  refine codeAny_builtinAt F.entry ?_
  unfold Builtin.«BaseException.__new__»
  refine wpAt_bind (show wpAt _ _ _ (stack >>= _) _ _ _ from wpAt_bind (wpAt_stack fun p below => wpAt_of_wpAny ?_))
  wp_walk
  refine wpAt_of_wpAny ?_
  rw [F.owner]
  repeat (first | with_reducible refine wpAny_madeHere_exc F.canon hC ?_ | with_reducible refine wpAny_loadPart_at hC ?_
                | (with_reducible refine wpAny_isSubtype_exc hC ?_; first | rw [b1] | rw [b2] | rw [b3]) | wp_step)
  rw [← Heap.size_push] at k
  exact k
theorem may_make (F : ExcBaseFacts B newId initId bm0) (b1 : (Value.ref C :: bm).contains (.type B) = true) {M : Model} {E : Value → Shared → Prop} {Q : Unit → Shared → Prop}
    (hC : h.get? C = some (excClassObj nm q C N bs bm hdct sn sub ab col dd k0 k1 k2 k3 k5 newId)) (k : Q () ⟨h, g, d, t, os⟩) : wpAny M A (checkBuiltinCall newId ⟨.ref C :: rest, []⟩) Q E ⟨h, g, d, t, os⟩ := by
  have e0 := F.noStar
  simp only [checkBuiltinCall, F.newKind, F.newSplit, F.newRow]
  repeat (first | (refine wpAny_isSubtype_exc hC ?_; rw [b1]) | refine wpAny_loadPart_at hC ?_ | refine wpAny_madeBy_exc hC ?_ | refine wpAny_staticBase_exc hC ?_
                | simp only [bne_self_eq_false, Bool.false_eq_true, if_false] | wp_step)
  exact k
/-- C(..), its __init__ a def -/
theorem call_made (m : CS.Maker bm0 newId) (hT : ∀ X : String, bm.contains (.type X) = bm0.contains (.type X)) (hC : h.get? C = some (excClassObj nm q C N bs bm hdct sn sub ab col dd k0 k1 k2 k3 k5 newId))
    (hi : PySem.W.Looks (model prog w) h (typeLookup (.ref C) "__init__") (some (.ref fI))) (hb : ∀ self, PySem.W.Looks (model prog w) h (bindSpecial (.ref fI) self) (.ref fI, [self])) (hz : rest.length ≤ sizeLine)
    (k : codeAny (model prog w) (A.under (.builtin "type.__call__" ⟨.ref C :: rest, []⟩)) (.call (.ref fI) ⟨.ref (h.objs.size + 1) :: rest, []⟩) (PySem.W.InitBack (h.objs.size + 1) R) ⟨(h.push (PySem.W.kdv_tup rest)).push (PySem.HandSPX.excO C h.objs.size), g, d, t, os⟩) :
    codeAny (model prog w) A (.call (.ref C) ⟨rest, []⟩) R ⟨h, g, d, t, os⟩ := by
  obtain ⟨⟨B, initId, bmF, F, hB⟩, nA, nN⟩ := m
  have c1 : (Value.ref C :: bm).contains (.type B) = true := by rw [List.contains_cons, hT, hB, Bool.or_true]
  have c2 : (Value.ref C :: bm).contains (.type "AttributeError") = false := by rw [List.contains_cons, hT, nA]; rfl
  have c3 : (Value.ref C :: bm).contains (.type "NameError") = false := by rw [List.contains_cons, hT, nN]; rfl
  have c4 : (Value.ref C :: bm).contains (.ref C) = true := by simp
  have z1 := PySem.tc_lookup
  have z2 := PySem.tc_bind (.ref C)
  have z3 : (⟨h, g, d, t, os⟩ : Shared).TypeIs (.ref C) "type" := ⟨_, hC, rfl⟩
  have up : ∀ b o, h.get? b = some o → ((h.push (PySem.W.kdv_tup rest)).push (PySem.HandSPX.excO C h.objs.size)).get? b = some o := fun b o e => Heap.get?_push_of_some _ (Heap.get?_push_of_some _ e)
  have at_ : ((h.push (PySem.W.kdv_tup rest)).push (PySem.HandSPX.excO C h.objs.size)).get? (h.objs.size + 1) = some (PySem.HandSPX.excO C h.objs.size) := by heap_get
  have hC1 := up _ _ hC
  refine codeAny_of_tree (show wpAny _ _ (callAny (.ref C) _) _ _ _ from ?_)
  repeat (any_goals (first | assumption | with_reducible refine wpAny_loadPart_at hC ?_ | wp_step))
  refine ⟨rfl, codeAny_call_builtin_at (Code.quiet_builtin _ (by decide +kernel)) PySem.entry_typeCall (wpAny_check_type_call_sub hC ?_)⟩
  repeat (first | with_reducible refine wpAny_madeBy_exc hC ?_ | with_reducible refine wpAny_loadPart_at hC ?_ | wp_step)
  refine codeAny_call_builtin_code (Code.quiet_builtin _ F.quiet) (may_make F c1 hC (fresh_exc F c1 c2 c3 hC hz ?_))
  show wpAny _ _ _ _ _ _
  unfold isInstance
  repeat (first | with_reducible refine wpAny_loadPart_at at_ ?_ | (with_reducible refine wpAny_isSubtype_exc hC1 ?_; rw [c4]) | wp_step)
  refine wpAny_isSubtype_exc hC1 ?_
  rw [c4]
  repeat wp_step
  refine show wpAny _ _ (typeLookup (.ref C) _) _ _ _ from (hi.keeps up).at (wpAny_holding (wpAny_bind (((hb (.ref (h.objs.size + 1))).keeps up).at (wpAny_bind (wpAny_call (codeAny_mono k fun r s' z => ?_))))))
  match r, z with
  | .error e, z => exact z
  | .ok (.ret v), ⟨e1, z⟩ =>
    subst e1
    first
      | exact wpAny_pure (wpAny_pure z)
      | (wp_walk; exact z)
  | .ok .next, z => exact z.elim
  | .ok .brk, z => exact z.elim
  | .ok .cont, z => exact z.elim
end
end CSX
end PySem
set_option Elab.async false
set_option maxRecDepth 100000
set_option maxHeartbeats 4000000
set_option linter.unusedVariables false
namespace CS
open PySem PySem.Spec PyProof.Rows L2
/-- what stands at a is an exception of the class at C, its dict at d -/
def ExAt (o : HO) (a C : Addr) (d : Option Addr) : Prop := ∀ (P : Program) (w : World) (H : Hp) (h : Heap), ObjOk P w H h a o → ∃ oe, h.get? a = some oe ∧ Zc (.ref C) d oe ∧ ∃ vs, oe.data = .fields vs
theorem exAt_exo {a C : Addr} {d : Option Addr} : ExAt (exo a C d) a C d := fun P w H h x => by
  obtain ⟨t1, e⟩ := (show (∃ t1 : Addr, h.get? a = some ({ cls := .ref C, dict := d, data := .fields #[.ref t1, .none, .none, .none, .bool false, .none] } : Obj)) ∧ _ from x).1
  exact ⟨_, e, ⟨rfl, rfl⟩, _, rfl⟩
theorem exAt_O {a C : Addr} : ExAt (ExO (.ref C) a) a C none := fun P w H h x => by
  obtain ⟨oe, vs, e, z, dt, _⟩ := (show (∃ (oe : Obj) (vs : Array Value), h.get? a = some oe ∧ Zc (.ref C) none oe ∧ oe.data = .fields vs ∧ vs[1]? = some .none ∧ vs[2]? = some .none ∧ 4 < vs.size) ∧ _ from x).1
  exact ⟨oe, e, z, vs, dt⟩
/-- an exception that is tracked, or the one that a suite holds -/
def ExIs (pn : List (Addr × Obj)) (H : Hp) (a C : Addr) (d : Option Addr) : Prop := ((∃ o, H a = some o ∧ ExAt o a C d) ∨ ∃ oe, (a, oe) ∈ pn ∧ Zc (.ref C) d oe ∧ ∃ vs, oe.data = .fields vs) ∧ ∀ dd, d = some dd → ∃ o, H dd = some o
theorem ExIs.same {pn : List (Addr × Obj)} {H H' : Hp} {a C : Addr} {d : Option Addr} (x : ExIs pn H a C d) (e : Same H H') : ExIs pn H' a C d :=
  ⟨x.1.imp (fun ⟨o, h, r⟩ => ⟨o, e _ _ h, r⟩) id, fun dd z => let ⟨o, h⟩ := x.2 dd z; ⟨o, e _ _ h⟩⟩
section
variable {X : Cx} {pins : List (Addr × Obj)} {σ : L2.St} {H : Hp} {s : Shared} {a C : Addr} {d : Option Addr}
theorem ExIs.inst (x : ExIs X.pn H a C d) (I : Inv X pins σ H s) : ∃ oe od, PySem.W.InstAt s.heap a oe C od ∧ (∀ dd, d = some dd → s.heap.get? dd = od) := by
  obtain ⟨oe, e, z, vs, dt⟩ : ∃ oe, s.heap.get? a = some oe ∧ Zc (.ref C) d oe ∧ ∃ vs, oe.data = .fields vs := by
    rcases x.1 with ⟨o, h, r⟩ | ⟨oe, m, z, k⟩
    · exact r _ _ _ _ (I.hok a o h)
    · exact ⟨oe, (I.pin (a, oe) (List.mem_append_left _ m)).1, z, k⟩
  have nc : PySem.W.notCls oe = true := by unfold PySem.W.notCls; rw [dt] <;> rfl
  cases d with
  | none => exact ⟨oe, none, ⟨e, z.1, nc, by rw [z.2]; trivial⟩, fun _ q => nomatch q⟩
  | some dd =>
    obtain ⟨o, h⟩ := x.2 dd rfl
    obtain ⟨od, g⟩ := objOk_get (I.hok dd o h)
    exact ⟨oe, some od, ⟨e, z.1, nc, by rw [z.2]; exact g⟩, fun d2 q => by cases q; exact g⟩
/-- isinstance(e, C) of an exception -/
def rIsX (K : PySem.W.Frag) (pn : List (Addr × Obj)) : List V → Hp → VK → Prop := fun xs H Q => ∃ (a C : Addr) (d : Option Addr) (c : V) (u : Value) (b : Bool), xs = [.ref a, c] ∧ ClsV c u ∧ ExIs pn H a C d ∧ ExcC K C ∧ PySem.W.kitOne K (.ref C) u = some b ∧ Q (.bl b) H
theorem call_isX : CallR X (.builtin "isinstance") (rIsX X.K X.pn) := by
  intro pins s σ H xs us Q I r ⟨a, C, d, c, u, b, ex, k, x, T, e, q⟩
  subst ex
  obtain ⟨u1, u2, rfl, r1, r2⟩ := vals2 r
  cases (show u1 = Value.ref a from r1)
  cases k.eq r2
  obtain ⟨oe, od, J, _⟩ := x.inst I
  obtain ⟨cd, hc, _⟩ := PySem.W.any_some T.hd
  exact PySem.W.kia_one (PySem.W.kitx_exc (by rw [hc]; rfl) T.hg T.hk T.hs T.ha T.hn T.ht T.hm) I.kIn J e (fun z => nomatch z) fun tk => ⟨.bl b, H, I.tok tk, rfl, q⟩
/-- e.f of an exception -/
def tFld (K : PySem.W.Frag) (pn : List (Addr × Obj)) (f : Str) (te : TE) : TE := fun σ H Q => te σ H fun x H1 => ∃ (a C dd : Addr) (fs : List (Str × V)) (v : V), x = .ref a ∧ ExIs pn H1 a C (some dd) ∧ XfC K C ∧ PySem.W.findIn K (.ref C) f = some none ∧ (H1 dd = some (.xd fs) ∨ H1 dd = some (exd dd fs)) ∧ fs.lookup f = some v ∧ Q v H1
theorem pe_fld {e : Expr} {te : TE} {pos : PySem.Pos} {n : Str} (he : PE X e te) (hb : attributeBase e n X.env (eval e X.env) = eval e X.env := by rfl) : PE X (.Attribute e n pos) (tFld X.K X.pn n te) := by
  refine ⟨fun pins s σ H Q I h => attr_of hb (thn (he.run pins s σ H _ I h) fun u s1 ⟨x, H1, I1, rx, a, C, dd, fs, v, ex, ei, T, no, ed, l, q⟩ => ?_)⟩
  subst ex
  cases (show u = Value.ref a from rx)
  obtain ⟨oe, od, J, g⟩ := ei.inst I1
  have g2 := g dd rfl
  obtain ⟨mA, hn, hr⟩ : ∃ mA, s1.heap.Ns1 dd mA ∧ ∀ f, RelO (fs.lookup f) (mA f) := by
    rcases ed with ed | ed
    · exact (show ObjOk X.prog X.w H1 s1.heap dd (.xd fs) from I1.hok dd _ ed)
    · exact exd_at I1.hok ed
  obtain ⟨od2, ho, hl⟩ := lookIn_ns hn
  have e2 : od = some od2 := g2.symm.trans ho
  subst e2
  obtain ⟨u2, hu, ru⟩ := RelO.some_of (v := v) (o := mA n) (by rw [← l]; exact hr n)
  exact HandSPX.exc_get I1.kIn J T.ga T.gg T.exC (PySem.W.findObj_own T.hdC no rfl (by rw [hl, hu])) (handed_of ru) ⟨v, H1, I1.tok _, ru, q⟩
end
section
variable {X : Cx} {pins : List (Addr × Obj)} {σ : L2.St} {H : Hp} {s : Shared} {a C fI : Addr} {x f : Str} {bmB : List Value} {B newId initId : String}
/-- C(..) as a value; W: what is asked of the arguments -/
theorem pe_mkV {W : List V → Hp → VK → Prop} {e : Expr} {es : List Expr} {ta : TA} {p pos : PySem.Pos} {k : Nat} {fd : FuncData} {ps : List Str} {sp : Sp} (M : Maker bmB newId) (T : OwnX X.K X.mg x f C fI bmB newId) (G : FnOk X.prog X.w X.K X.mg X.base CX0 k fI fd ps sp) (hb : Binds X.K fd ps []) (hr : Room (k + 1) X.A) (hg : Gl X x) (ha : PA X (e :: es) ta) (hW : ∀ vs H1 Q, W vs H1 Q → vs.length ≤ 1000 ∧ ∀ a, H1 a = none → sp (.ref a :: vs) (upd H1 a (exo a C none)) (fun v H2 => v = .non ∧ Q (.ref a) H2) (fun _ _ _ => False))
    (hdb : (x == ("__debug__" : Str)) = false := by decide) (he : starEach (e :: es) X.env = (false, eval e X.env) :: starEach es X.env := by rfl) (hpl : (backTo pos (starEach es X.env)).any (·.1) = false := by rfl) : PE X (.Call (.Name x p) (e :: es) [] pos) (fun σ H Q => ta σ H fun vs H1 => W vs H1 Q) := by
  refine ⟨fun pins s σ H Q I h => ?_⟩
  refine wpAny_Call_Name_kw (ld_glob I hg T.gC (PySem.W.callWith_K (h₀ := X.base) I.ok.mod.kin T.kC (thn (ha.run pos pins s σ H _ I h) fun us s1 ⟨vs, H1, I1, r1, hw⟩ => ⟨I1.kIn, ?_⟩) he hpl) hdb)
  obtain ⟨hl, q⟩ := hW _ _ _ hw
  obtain ⟨nm, N, qn, bs, bm, hdct, sn, sub, ab, col, dd, k0, k1, k2, k3, k5, hC, hT⟩ := PySem.W.excInit_of I1.kIn T.ini
  have hus : us.length ≤ sizeLine := by
    rw [← r1.length, sizeLine_eq]
    omega
  obtain ⟨hp, g, dr, tk, os⟩ := s1
  obtain ⟨a, ea⟩ : ∃ a, a = hp.objs.size + 1 := ⟨_, rfl⟩
  obtain ⟨h2, eh⟩ : ∃ h2, h2 = (hp.push (PySem.W.kdv_tup us)).push (PySem.HandSPX.excO C hp.objs.size) := ⟨_, rfl⟩
  have kp : ∀ b o, hp.get? b = some o → h2.get? b = some o := fun b o z => by
    rw [eh]
    exact Heap.get?_push_of_some _ (Heap.get?_push_of_some _ z)
  have at_ : h2.get? a = some (PySem.HandSPX.excO C hp.objs.size) := by
    rw [eh, ea]
    heap_get
  have big : hp.objs.size ≤ a := by rw [ea]; exact Nat.le_succ _
  have na : H1 a = none := I1.hok.fresh big
  have I2 : Inv X pins σ (upd H1 a (exo a C none)) ⟨h2, g, dr, tk, os⟩ := I1.laid (t' := tk) kp big (exo_ok at_)
  have hsp := q a na
  have len := G.len _ _ _ _ hsp
  have run := G.run (A := X.A.under (.builtin "type.__call__" ⟨.ref C :: us, []⟩)) (outer := X.stack) (s := ⟨h2, g, dr, tk, os⟩) (args := ⟨.ref a :: us, []⟩) (us := .ref a :: us) (vs := .ref a :: vs) (Q := fun v H2 => v = .non ∧ Q (.ref a) H2) (E := fun _ _ _ => False) (H := upd H1 a (exo a C none)) (hr.make C us []) (I2.env0.make C us [])
    (by have := hb ⟨h2, g, dr, tk, os⟩ (.ref a :: us) I2.kIn (by rw [List.append_nil, List.length_cons, ← r1.length]; exact len); rw [List.append_nil] at this; exact this) (.cons rfl r1) hsp
  show wpAny _ _ (call (.ref C) us) _ _ _
  refine wpAny_call (PySem.CSX.call_made M hT hC (PySem.W.looks_findIn I1.kIn T.iC) (fun self => PySem.W.bind_fn I1.kIn self T.tI) hus ?_)
  rw [← ea, ← eh]
  refine codeAny_mono run fun r s' hq => ?_
  match r, hq with
  | .error er, hq => exact hq.elim
  | .ok .next, hq => exact hq.elim
  | .ok .brk, hq => exact hq.elim
  | .ok .cont, hq => exact hq.elim
  | .ok (.ret z), ⟨v2, H2, os2, bare2, un2, hok2, rv, ev2, q2⟩ =>
    subst ev2
    exact ⟨rv, .ref a, H2, I1.call' (ch := []) os2 (Un.trans (Un.laid kp big na) un2) hok2 bare2 (fun b z => absurd z (by simp)), rfl, q2⟩
end
/-! a further field -/
section
variable {X : Cx} {pins : List (Addr × Obj)} {σ : L2.St} {H : Hp} {s : Shared} {a C dx fI : Addr} {x f f2 : Str} {y : V} {u : Value} {bmB : List Value} {B newId : String} {fs : List (Str × V)}
theorem put_more {A : Around} {Q : Unit → Shared → Prop} {E : Value → Shared → Prop} (SF : StoreFacts B bmB "object.__setattr__" "object") (T : OwnX X.K X.mg x f C fI bmB newId) (tk2 : PySem.W.takerIn X.K C f2 = some none) (I : Inv X pins σ H s) (e : H a = some (exo a C (some dx))) (ed : H dx = some (exd dx fs)) (hl : fs.length ≤ 900) (ry : RelV y u)
    (h : ∀ s', Inv X pins σ (upd H dx (exd dx ((f2, y) :: fs))) s' → Q () s') : wpAny (model X.prog X.w) A (setAttr (.ref a) f2 u) Q E s := by
  obtain ⟨t1, ho⟩ := exo_at I.hok e
  obtain ⟨mA, hns, rel⟩ := exd_at I.hok ed
  have hw := within_of rel
  obtain ⟨hp, g, d, t, os⟩ := s
  obtain ⟨oD, _, _, hoD, _, _⟩ := hns.count hw
  obtain ⟨cd, hc, hd⟩ := PySem.W.any_some T.xf.hdC
  refine PySem.W.set_plain I.kIn (od := some oD) ⟨ho, rfl, rfl, hoD⟩ T.sa ?_
  refine PySem.W.osa_openX SF I.kIn (od := some oD) ⟨ho, rfl, rfl, hoD⟩ T.ovr tk2 fun b => ?_
  have there : ∀ {Q2 : Option Addr → Shared → Prop} {E2 : Value → Shared → Prop} {A2 : Around} {t2 : Nat}, Q2 (some dx) ⟨hp, g, d, t2, os⟩ → wpAny (model X.prog X.w) A2 (instanceDict a true) Q2 E2 ⟨hp, g, d, t2, os⟩ := fun {Q2 E2 A2 t2} k => by
    unfold instanceDict
    refine wpAny_bind (wpAny_loadPart ho ?_)
    refine wpAny_bind ((PySem.W.looks_clsIn I.kIn hc).at ?_)
    rw [hd]
    exact wpAny_pure k
  refine wpAny_bind (wpAny_pure (wpAny_bind (there ?_)))
  show wpAny _ _ (Builtin.ObjectAttr.storeInDict dx _ f2 u) _ _ _
  refine PySem.OEX.store_in_old hns hw (by rw [List.length_map]; omega) fun h3 tk3 hn3 hs3 => ?_
  obtain ⟨o3, es3, ep3, q3, r3⟩ := id hn3
  have I3 := I.write (x := dx) (e := dx) (o := exd dx ((f2, y) :: fs)) (t' := tk3) (h' := h3) (by rw [ed]; exact True.intro) (.inl rfl) (fun b o hb q => (hs3.2 b hb).trans q) ⟨_, q3⟩ (exd_ok hn3 (relO_put ry rel))
  exact h _ I3
/-- self.f2 = e, self an exception that has fields -/
def tMore (C : Addr) (f2 : Str) (to te : TE) : TS := fun D σ H => te σ H fun y H1 => to σ H1 fun x H2 => ∃ a dx fs, x = .ref a ∧ H2 a = some (exo a C (some dx)) ∧ H2 dx = some (exd dx fs) ∧ fs.length ≤ 900 ∧ D.nx σ (upd H2 dx (exd dx ((f2, y) :: fs)))
theorem ps_more {o e : Expr} {to te : TE} {p' pos : PySem.Pos} (SF : StoreFacts B bmB "object.__setattr__" "object") (T : OwnX X.K X.mg x f C fI bmB newId) (tk2 : PySem.W.takerIn X.K C f2 = some none) (ho : PE X o to) (he : PE X e te) (hs : swapsWith e (some (.Attribute o f2 p')) pos.line X.env = pure false := by rfl) : PS X (.Assign [.Attribute o f2 p'] e pos) (tMore C f2 to te) := by
  refine ⟨fun pins s σ H D I h => ?_⟩
  refine plainObj_wpAny_Assign_Attribute (thn (he.run pins s σ H _ I h) fun v s1 ⟨y, H1, I1, r1, q1⟩ => thn (ho.run pins s1 σ H1 _ I1 q1) fun w2 s2 ⟨z, H2, I2, r2, a, dx, fs, ez, ea, ed, hl, q⟩ => ?_) hs
  subst ez
  cases (show w2 = Value.ref a from r2)
  exact put_more SF T tk2 I2 ea ed hl r1 fun s' J => ⟨σ, _, J, q⟩
end
/-! defs called in an except suite -/
/-- such a def's promise: sp is told what the suite holds -/
structure FnS (P : Program) (w : World) (K : PySem.W.Frag) (mg : Str → Option Value) (base : Heap) (k : Nat) (f : Addr) (fd : FuncData) (ps : List Str) (sp : List (Addr × Obj) → Sp) : Prop where
  many : ∀ pn vs H Q E, sp pn vs H Q E → vs.length = ps.length
  go : ∀ {A outer s H args us vs Q p}, L2H.RoomH k A → L2H.PinOk outer H s p → Env0 P w K mg base A outer s H → BindsTo s fd args (ps.zip us) → Vals vs us → sp [p] vs H Q E0 → codeAny (model P w) A (.call (.ref f) args) (CR CX0 outer P w H s Q E0) s
section
variable {P : Program} {w : World} {K : PySem.W.Frag} {mg : Str → Option Value} {base : Heap} {k : Nat} {f : Addr} {fd : FuncData} {ps N : List Str} {sp : List (Addr × Obj) → Sp} {x qual : Str} {st : Stmt}
theorem FnS.of_body (F : Fun K x qual st f fd) (S : FnScope N ps (defScope st)) (many : ∀ pn vs H Q E, sp pn vs H Q E → vs.length = ps.length)
    (body : ∀ cdv A outer s H vs Q p, L2H.RoomH k (A.deeper (envOfC qual (defScope st) s.heap.objs.size f cdv)) → sp [p] vs H Q E0 → ∃ t, PSs (L2H.cxH CX0 P w K mg base N qual (defScope st) f cdv A outer s H E0 p) (defBody st) t ∧ t { nx := fun _ H' => Q .non H', rt := Q } (start N vs) H) :
    FnS P w K mg base (k + 1) f fd ps sp := by
  obtain ⟨oc, od, kV, doc, pm, an, cdv, ct, osl, efd, at_, code⟩ := F.ex
  subst efd
  constructor
  · exact many
  intro A outer s H args us vs Q p room pin env bound vals h
  have inn : K.In s.heap := env.mod.kin.keeps fun b o e => (env.bs b o e).1
  have nolim : s.heap.NoLimit := env.mod.nolimit.keeps fun b o e => (env.bs b o e).1
  have pars : ∀ y ∈ ps.zip us, (defScope st).names.lookup y.1 = some .local ∨ ((defScope st).names.lookup y.1 = some .cell ∧ ((cellsFrom (s.heap.objs.size + 1) (defScope st).names []).lookup y.1).isSome = true) := by
    rintro ⟨n, v⟩ hy
    exact (S.par n (List.of_mem_zip hy).1).imp id fun c => ⟨c, PySem.W.cellsFrom_some _ _ _ (.inl c)⟩
  refine codeAny_call_function room.depth (inn _ _ at_) rfl S.co S.gen rfl (PySem.W.codeRec_of inn code) (bound _ _ _ _ (wpAny_newFunctionEnv_cells S.kind pars ?_))
  rintro env2 rfl s1 laid
  refine ⟨nolim.keeps laid.toInCall.keep, codeAny_func ?_⟩
  obtain ⟨t, run, now⟩ := body cdv A outer s H vs Q p (room.deeper _) h
  have I := L2H.inv_startH (CX := CX0) (E := E0) S pin env (many _ _ _ _ _ h) vals laid
  refine wpAny_mono (run.run [] s1 _ H _ I now) (fun fl s' e => ?_) fun _ _ e => e
  have J : ∃ u v, (fl = .ret u ∨ (fl = .next ∧ u = Value.none)) ∧ RelV v u ∧ CE outer P w H s Q u s' := by
    cases fl with
    | ret u =>
      obtain ⟨v, _, H', J, rv, q⟩ := e
      exact ⟨u, v, .inl rfl, rv, v, H', J.os, J.bare, J.base, J.hok, rv, q⟩
    | next =>
      obtain ⟨_, H', J, q⟩ := e
      exact ⟨.none, .non, .inr ⟨rfl, rfl⟩, rfl, .non, H', J.os, J.bare, J.base, J.hok, rfl, q⟩
    | brk => exact absurd e (fun ⟨_, _, _, z⟩ => z)
    | cont => exact absurd e (fun ⟨_, _, _, z⟩ => z)
  obtain ⟨u, v, e1, _, e2⟩ := J
  rcases e1 with rfl | ⟨rfl, rfl⟩
  · exact e2
  · exact e2
end
section
variable {X : Cx} {k : Nat} {f : Addr} {fd : FuncData} {ps : List Str} {sp : List (Addr × Obj) → Sp} {x : Str} {p pos : PySem.Pos} {e : Expr} {es : List Expr} {t : TA} {pin : Addr × Obj}
/-- f(e, ..) in a suite -/
theorem pe_callS {W : List V → Hp → VK → Prop} (F : FnS X.prog X.w X.K X.mg X.base k f fd ps sp) (hp : pin ∈ X.pn) (hr : L2H.RoomH k X.A) (hg : Gl X x) (hm : X.mg x = some (.ref f)) (hk : PySem.W.keepIn X.K (.ref f) = true) (hb : Binds X.K fd ps []) (ha : PA X (e :: es) t) (hW : ∀ vs H Q, W vs H Q → sp [pin] vs H Q E0)
    (he : starEach (e :: es) X.env = (false, eval e X.env) :: starEach es X.env := by rfl) (hpl : (backTo pos (starEach es X.env)).any (·.1) = false := by rfl) (hdb : (x == ("__debug__" : Str)) = false := by decide) : PE X (.Call (.Name x p) (e :: es) [] pos) (fun σ H Q => t σ H fun vs H1 => W vs H1 Q) := by
  constructor
  intro pins s σ H Q I h
  refine wpAny_Call_Name_kw (ld_glob I hg hm (PySem.W.callWith_K (h₀ := X.base) I.ok.mod.kin hk (thn (ha.run pos pins s σ H _ I h) fun us s1 ⟨vs, H1, J, rv, now⟩ => ⟨J.kIn, ?_⟩) he hpl) hdb)
  have now2 : sp [pin] vs H1 Q E0 := hW _ _ _ now
  have b2 : BindsTo s1 fd ⟨us, []⟩ (ps.zip us) := by
    have z := hb s1 us J.kIn (by rw [List.append_nil, ← rv.length]; exact F.many _ _ _ _ _ now2)
    rw [List.append_nil] at z
    exact z
  have P1 := J.pin pin (List.mem_append_left _ hp)
  have ok : L2H.PinOk X.stack H1 s1 pin := ⟨P1.1, P1.2.1, fun hm => (List.mem_cons.mp (J.stkSub pin.1 hm)).elim P1.2.2.1 P1.2.2.2.1, P1.2.2.2.2⟩
  show wpAny _ _ (call (.ref f) us) _ _ _
  refine wpAny_call (codeAny_mono (F.go hr ok J.env0 b2 rv now2) fun r s' z => ?_)
  match r, z with
  | .error er, z => exact z.elim
  | .ok (.ret u), z => exact J.after z
  | .ok .next, z => exact z.elim
  | .ok .brk, z => exact z.elim
  | .ok .cont, z => exact z.elim
end
end CS
set_option Elab.async false
set_option maxRecDepth 100000
set_option maxHeartbeats 4000000
set_option linter.unusedVariables false
/-! the law's exceptions: their making, lists of them -/
namespace CS
open PySem PySem.Spec PyProof.Rows L2
/-- the exception at a, of the class at C, with the fields fs -/
def ExVal (H : Hp) (a C : Addr) (fs : List (Str × V)) : Prop := ∃ dx, H a = some (exo a C (some dx)) ∧ H dx = some (exd dx fs)
theorem ExVal.same {H H' : Hp} {a C : Addr} {fs : List (Str × V)} (x : ExVal H a C fs) (e : Same H H') : ExVal H' a C fs := let ⟨dx, h1, h2⟩ := x; ⟨dx, e _ _ h1, e _ _ h2⟩
theorem exo_lst {e C : Addr} {d : Option Addr} {xs : List V} : exo e C d ≠ .lst xs := fun z => by
  have z' : HO.ext _ = HO.lst xs := z
  cases z'
theorem exd_lst {e : Addr} {fs : List (Str × V)} {xs : List V} : exd e fs ≠ .lst xs := fun z => by
  have z' : HO.ext _ = HO.lst xs := z
  cases z'
theorem ExVal.upd {H : Hp} {a C l : Addr} {fs : List (Str × V)} {xs ys : List V} (x : ExVal H a C fs) (h : H l = some (.lst xs)) : ExVal (upd H l (.lst ys)) a C fs := by
  obtain ⟨dx, h1, h2⟩ := x
  exact ⟨dx, by rw [upd_ne (ne_of h1 h exo_lst)]; exact h1, by rw [upd_ne (ne_of h2 h exd_lst)]; exact h2⟩
theorem ExVal.is {H : Hp} {a C : Addr} {fs : List (Str × V)} (x : ExVal H a C fs) (pn : List (Addr × Obj)) : ∃ dx, ExIs pn H a C (some dx) ∧ H dx = some (exd dx fs) :=
  let ⟨dx, h1, h2⟩ := x; ⟨dx, ⟨.inl ⟨_, h1, exAt_exo⟩, fun d2 q => by cases q; exact ⟨_, h2⟩⟩, h2⟩
/-- a list of exceptions -/
abbrev ExL (H : Hp) (as : List Addr) (ps : List (Addr × List (Str × V))) : Prop := Paired (fun a (p : Addr × List (Str × V)) => ExVal H a p.1 p.2) as ps
theorem ExL.same {H H' : Hp} {as : List Addr} {ps : List (Addr × List (Str × V))} (x : ExL H as ps) (e : Same H H') : ExL H' as ps := Paired.mapP x fun _ _ y => y.same e
theorem ExL.upd {H : Hp} {l : Addr} {xs ys : List V} {as : List Addr} {ps : List (Addr × List (Str × V))} (x : ExL H as ps) (h : H l = some (.lst xs)) : ExL (L2.upd H l (.lst ys)) as ps := Paired.mapP x fun _ _ y => y.upd h
theorem Paired.snoc {α β : Type} {F : α → β → Prop} {a : α} {b : β} (h : F a b) : ∀ {l : List α} {m : List β}, Paired F l m → Paired F (l ++ [a]) (m ++ [b])
  | _, _, .nil => .cons h .nil
  | _, _, .cons r t => .cons r (Paired.snoc h t)
theorem Paired.at {α β : Type} {F : α → β → Prop} : ∀ {l : List α} {m : List β} {i : Nat} {a : α}, Paired F l m → l[i]? = some a → ∃ b, m[i]? = some b ∧ F a b
  | _, _, 0, _, .cons r _, e => by cases e; exact ⟨_, rfl, r⟩
  | _, _, i + 1, _, .cons _ t, e => by
    obtain ⟨b, h1, h2⟩ := Paired.at (i := i) t (by simpa using e)
    exact ⟨b, by simpa using h1, h2⟩
theorem Paired.at2 {α β : Type} {F : α → β → Prop} : ∀ {l : List α} {m : List β} {i : Nat} {b : β}, Paired F l m → m[i]? = some b → ∃ a, l[i]? = some a ∧ F a b
  | _, _, 0, _, .cons r _, e => by cases e; exact ⟨_, rfl, r⟩
  | _, _, i + 1, _, .cons _ t, e => by
    obtain ⟨a, h1, h2⟩ := Paired.at2 (i := i) t (by simpa using e)
    exact ⟨a, by simpa using h1, h2⟩
theorem Same.none {H H' : Hp} {p : Addr} (e : Same H H') (n : H' p = none) : H p = none := by
  cases h : H p with
  | none => rfl
  | some o => rw [e _ _ h] at n; cases n
def wEx1 (C : Addr) (f : Str) : List V → Hp → VK → Prop := fun vs H1 Q => ∃ v, vs = [v] ∧ ∀ a H2, Same H1 H2 → ExVal H2 a C [(f, v)] → Q (.ref a) H2
theorem stored_same {H1 H' : Hp} {a C dx : Addr} {f : Str} {v : V} (na : H1 a = none) (st : Stored (upd H1 a (exo a C none)) a C f v dx H') : Same H1 H' := fun b o h => by
  obtain ⟨s1, s2, s3, s4, s5⟩ := st
  have nb : b ≠ a := ne_of_none h na
  have nd : b ≠ dx := fun z => by
    rw [← z, upd_ne nb, h] at s1
    cases s1
  rw [s5 b nb nd, upd_ne nb]
  exact h
section
variable {X : Cx} {x f qual : Str} {C fI : Addr} {bmB : List Value} {newId : String} {st : Stmt} {fd : FuncData} {e : Expr} {te : TE} {p pos : PySem.Pos}
/-- C(e), an exception with one field -/
theorem pe_ex1 (M : Maker bmB newId) (Z : Xc X.K X.mg x f C fI bmB newId st qual fd) (G : FnOk X.prog X.w X.K X.mg X.base CX0 1 fI fd ["self", f] (spPut C f)) (hr : Room 2 X.A) (hg : Gl X x) (he : PE X e te)
    (hdb : (x == ("__debug__" : Str)) = false := by decide) (h1 : starEach [e] X.env = (false, eval e X.env) :: starEach [] X.env := by rfl) (h2 : (backTo pos (starEach [] X.env)).any (·.1) = false := by rfl) : PE X (.Call (.Name x p) [e] [] pos) (fun σ H Q => tCons te tNil σ H fun vs H1 => wEx1 C f vs H1 Q) :=
  pe_mkV M Z.T G Z.b hr hg (pa_cons he pa_nil h1) (fun vs H1 Q ⟨v, ev, k⟩ => by
    subst ev
    refine ⟨(by show 1 ≤ 1000; decide), fun a na => ⟨a, v, rfl, upd_same, fun dx H' s => ⟨rfl, k a H' (stored_same na s) ⟨dx, s.2.2.1, s.2.2.2.1⟩⟩⟩⟩) hdb h1 h2
end
section
variable {P : Program} {w : World} {K : PySem.W.Frag} {mg : Str → Option Value} {base : Heap}
theorem scI0 : FnScope ["self", "given"] ["self", "given"] (defScope (inClass sBadFraction 0)) := ⟨rfl, rfl, rfl, by decide +kernel, rfl, by decide +kernel, by decide +kernel⟩
theorem ini_0 {C g : Addr} {fd : FuncData} (Z : Xc K mg "BadFraction" "given" C g bmV "ValueError.__new__" (inClass sBadFraction 0) "BadFraction.__init__" fd) : FnOk P w K mg base CX0 1 g fd ["self", "given"] (spPut C "given") := ok_put PySem.F.store_ValueError Z.T Z.F scI0 rfl rfl rfl (by decide +kernel) (by decide +kernel) (fun _ => rfl)
theorem scI1 : FnScope ["self", "given"] ["self", "given"] (defScope (inClass sBadshare 0)) := ⟨rfl, rfl, rfl, by decide +kernel, rfl, by decide +kernel, by decide +kernel⟩
theorem ini_1 {C g : Addr} {fd : FuncData} (Z : Xc K mg "BadShare" "given" C g bmV "ValueError.__new__" (inClass sBadshare 0) "BadShare.__init__" fd) : FnOk P w K mg base CX0 1 g fd ["self", "given"] (spPut C "given") := ok_put PySem.F.store_ValueError Z.T Z.F scI1 rfl rfl rfl (by decide +kernel) (by decide +kernel) (fun _ => rfl)
theorem scI2 : FnScope ["self", "given"] ["self", "given"] (defScope (inClass sBadnumber 0)) := ⟨rfl, rfl, rfl, by decide +kernel, rfl, by decide +kernel, by decide +kernel⟩
theorem ini_2 {C g : Addr} {fd : FuncData} (Z : Xc K mg "BadNumber" "given" C g bmV "ValueError.__new__" (inClass sBadnumber 0) "BadNumber.__init__" fd) : FnOk P w K mg base CX0 1 g fd ["self", "given"] (spPut C "given") := ok_put PySem.F.store_ValueError Z.T Z.F scI2 rfl rfl rfl (by decide +kernel) (by decide +kernel) (fun _ => rfl)
theorem scI3 : FnScope ["self", "given"] ["self", "given"] (defScope (inClass sBadweight 0)) := ⟨rfl, rfl, rfl, by decide +kernel, rfl, by decide +kernel, by decide +kernel⟩
theorem ini_3 {C g : Addr} {fd : FuncData} (Z : Xc K mg "BadWeight" "given" C g bmV "ValueError.__new__" (inClass sBadweight 0) "BadWeight.__init__" fd) : FnOk P w K mg base CX0 1 g fd ["self", "given"] (spPut C "given") := ok_put PySem.F.store_ValueError Z.T Z.F scI3 rfl rfl rfl (by decide +kernel) (by decide +kernel) (fun _ => rfl)
theorem scI4 : FnScope ["self", "given"] ["self", "given"] (defScope (inClass sBadOrder 0)) := ⟨rfl, rfl, rfl, by decide +kernel, rfl, by decide +kernel, by decide +kernel⟩
theorem ini_4 {C g : Addr} {fd : FuncData} (Z : Xc K mg "BadOrder" "given" C g bmV "ValueError.__new__" (inClass sBadOrder 0) "BadOrder.__init__" fd) : FnOk P w K mg base CX0 1 g fd ["self", "given"] (spPut C "given") := ok_put PySem.F.store_ValueError Z.T Z.F scI4 rfl rfl rfl (by decide +kernel) (by decide +kernel) (fun _ => rfl)
theorem scI5 : FnScope ["self", "given"] ["self", "given"] (defScope (inClass sBadTable 0)) := ⟨rfl, rfl, rfl, by decide +kernel, rfl, by decide +kernel, by decide +kernel⟩
theorem ini_5 {C g : Addr} {fd : FuncData} (Z : Xc K mg "BadTable" "given" C g bmV "ValueError.__new__" (inClass sBadTable 0) "BadTable.__init__" fd) : FnOk P w K mg base CX0 1 g fd ["self", "given"] (spPut C "given") := ok_put PySem.F.store_ValueError Z.T Z.F scI5 rfl rfl rfl (by decide +kernel) (by decide +kernel) (fun _ => rfl)
theorem scI6 : FnScope ["self", "given"] ["self", "given"] (defScope (inClass sBadCrossing 0)) := ⟨rfl, rfl, rfl, by decide +kernel, rfl, by decide +kernel, by decide +kernel⟩
theorem ini_6 {C g : Addr} {fd : FuncData} (Z : Xc K mg "BadCrossing" "given" C g bmV "ValueError.__new__" (inClass sBadCrossing 0) "BadCrossing.__init__" fd) : FnOk P w K mg base CX0 1 g fd ["self", "given"] (spPut C "given") := ok_put PySem.F.store_ValueError Z.T Z.F scI6 rfl rfl rfl (by decide +kernel) (by decide +kernel) (fun _ => rfl)
theorem scI7 : FnScope ["self", "given"] ["self", "given"] (defScope (inClass sBadCosts 0)) := ⟨rfl, rfl, rfl, by decide +kernel, rfl, by decide +kernel, by decide +kernel⟩
theorem ini_7 {C g : Addr} {fd : FuncData} (Z : Xc K mg "BadCosts" "given" C g bmV "ValueError.__new__" (inClass sBadCosts 0) "BadCosts.__init__" fd) : FnOk P w K mg base CX0 1 g fd ["self", "given"] (spPut C "given") := ok_put PySem.F.store_ValueError Z.T Z.F scI7 rfl rfl rfl (by decide +kernel) (by decide +kernel) (fun _ => rfl)
theorem scI8 : FnScope ["self", "given"] ["self", "given"] (defScope (inClass sBadDays 0)) := ⟨rfl, rfl, rfl, by decide +kernel, rfl, by decide +kernel, by decide +kernel⟩
theorem ini_8 {C g : Addr} {fd : FuncData} (Z : Xc K mg "BadDays" "given" C g bmV "ValueError.__new__" (inClass sBadDays 0) "BadDays.__init__" fd) : FnOk P w K mg base CX0 1 g fd ["self", "given"] (spPut C "given") := ok_put PySem.F.store_ValueError Z.T Z.F scI8 rfl rfl rfl (by decide +kernel) (by decide +kernel) (fun _ => rfl)
theorem scI9 : FnScope ["self", "given"] ["self", "given"] (defScope (inClass sBadClaim 0)) := ⟨rfl, rfl, rfl, by decide +kernel, rfl, by decide +kernel, by decide +kernel⟩
theorem ini_9 {C g : Addr} {fd : FuncData} (Z : Xc K mg "BadClaim" "given" C g bmV "ValueError.__new__" (inClass sBadClaim 0) "BadClaim.__init__" fd) : FnOk P w K mg base CX0 1 g fd ["self", "given"] (spPut C "given") := ok_put PySem.F.store_ValueError Z.T Z.F scI9 rfl rfl rfl (by decide +kernel) (by decide +kernel) (fun _ => rfl)
theorem scI10 : FnScope ["self", "given"] ["self", "given"] (defScope (inClass sBadFair 0)) := ⟨rfl, rfl, rfl, by decide +kernel, rfl, by decide +kernel, by decide +kernel⟩
theorem ini_10 {C g : Addr} {fd : FuncData} (Z : Xc K mg "BadFair" "given" C g bmV "ValueError.__new__" (inClass sBadFair 0) "BadFair.__init__" fd) : FnOk P w K mg base CX0 1 g fd ["self", "given"] (spPut C "given") := ok_put PySem.F.store_ValueError Z.T Z.F scI10 rfl rfl rfl (by decide +kernel) (by decide +kernel) (fun _ => rfl)
theorem scI11 : FnScope ["self", "given"] ["self", "given"] (defScope (inClass sBadHedge 0)) := ⟨rfl, rfl, rfl, by decide +kernel, rfl, by decide +kernel, by decide +kernel⟩
theorem ini_11 {C g : Addr} {fd : FuncData} (Z : Xc K mg "BadHedge" "given" C g bmV "ValueError.__new__" (inClass sBadHedge 0) "BadHedge.__init__" fd) : FnOk P w K mg base CX0 1 g fd ["self", "given"] (spPut C "given") := ok_put PySem.F.store_ValueError Z.T Z.F scI11 rfl rfl rfl (by decide +kernel) (by decide +kernel) (fun _ => rfl)
theorem scI12 : FnScope ["self", "given"] ["self", "given"] (defScope (inClass sBadLabel 0)) := ⟨rfl, rfl, rfl, by decide +kernel, rfl, by decide +kernel, by decide +kernel⟩
theorem ini_12 {C g : Addr} {fd : FuncData} (Z : Xc K mg "BadLabel" "given" C g bmV "ValueError.__new__" (inClass sBadLabel 0) "BadLabel.__init__" fd) : FnOk P w K mg base CX0 1 g fd ["self", "given"] (spPut C "given") := ok_put PySem.F.store_ValueError Z.T Z.F scI12 rfl rfl rfl (by decide +kernel) (by decide +kernel) (fun _ => rfl)
theorem scI13 : FnScope ["self", "given"] ["self", "given"] (defScope (inClass sBadQuote 0)) := ⟨rfl, rfl, rfl, by decide +kernel, rfl, by decide +kernel, by decide +kernel⟩
theorem ini_13 {C g : Addr} {fd : FuncData} (Z : Xc K mg "BadQuote" "given" C g bmV "ValueError.__new__" (inClass sBadQuote 0) "BadQuote.__init__" fd) : FnOk P w K mg base CX0 1 g fd ["self", "given"] (spPut C "given") := ok_put PySem.F.store_ValueError Z.T Z.F scI13 rfl rfl rfl (by decide +kernel) (by decide +kernel) (fun _ => rfl)
theorem scI14 : FnScope ["self", "part"] ["self", "part"] (defScope (inClass sBadPaper 0)) := ⟨rfl, rfl, rfl, by decide +kernel, rfl, by decide +kernel, by decide +kernel⟩
theorem ini_14 {C g : Addr} {fd : FuncData} (Z : Xc K mg "BadPaper" "part" C g bmV "ValueError.__new__" (inClass sBadPaper 0) "BadPaper.__init__" fd) : FnOk P w K mg base CX0 1 g fd ["self", "part"] (spPut C "part") := ok_put PySem.F.store_ValueError Z.T Z.F scI14 rfl rfl rfl (by decide +kernel) (by decide +kernel) (fun _ => rfl)
theorem scI15 : FnScope ["self", "part"] ["self", "part"] (defScope (inClass sBadBook 0)) := ⟨rfl, rfl, rfl, by decide +kernel, rfl, by decide +kernel, by decide +kernel⟩
theorem ini_15 {C g : Addr} {fd : FuncData} (Z : Xc K mg "BadBook" "part" C g bmV "ValueError.__new__" (inClass sBadBook 0) "BadBook.__init__" fd) : FnOk P w K mg base CX0 1 g fd ["self", "part"] (spPut C "part") := ok_put PySem.F.store_ValueError Z.T Z.F scI15 rfl rfl rfl (by decide +kernel) (by decide +kernel) (fun _ => rfl)
theorem scI16 : FnScope ["self", "paper"] ["self", "paper"] (defScope (inClass sNotWider 0)) := ⟨rfl, rfl, rfl, by decide +kernel, rfl, by decide +kernel, by decide +kernel⟩
theorem ini_16 {C g : Addr} {fd : FuncData} (Z : Xc K mg "NotWider" "paper" C g bmV "ValueError.__new__" (inClass sNotWider 0) "NotWider.__init__" fd) : FnOk P w K mg base CX0 1 g fd ["self", "paper"] (spPut C "paper") := ok_put PySem.F.store_ValueError Z.T Z.F scI16 rfl rfl rfl (by decide +kernel) (by decide +kernel) (fun _ => rfl)
theorem scI17 : FnScope ["self", "paper"] ["self", "paper"] (defScope (inClass sSureGain 0)) := ⟨rfl, rfl, rfl, by decide +kernel, rfl, by decide +kernel, by decide +kernel⟩
theorem ini_17 {C g : Addr} {fd : FuncData} (Z : Xc K mg "SureGain" "paper" C g bmV "ValueError.__new__" (inClass sSureGain 0) "SureGain.__init__" fd) : FnOk P w K mg base CX0 1 g fd ["self", "paper"] (spPut C "paper") := ok_put PySem.F.store_ValueError Z.T Z.F scI17 rfl rfl rfl (by decide +kernel) (by decide +kernel) (fun _ => rfl)
theorem scI18 : FnScope ["self", "path"] ["self", "path"] (defScope (inClass sBadTerm 0)) := ⟨rfl, rfl, rfl, by decide +kernel, rfl, by decide +kernel, by decide +kernel⟩
theorem ini_18 {C g : Addr} {fd : FuncData} (Z : Xc K mg "BadTerm" "path" C g bmV "ValueError.__new__" (inClass sBadTerm 0) "BadTerm.__init__" fd) : FnOk P w K mg base CX0 1 g fd ["self", "path"] (spPut C "path") := ok_put PySem.F.store_ValueError Z.T Z.F scI18 rfl rfl rfl (by decide +kernel) (by decide +kernel) (fun _ => rfl)
theorem scI19 : FnScope ["self", "path"] ["self", "path"] (defScope (inClass sBadMix 0)) := ⟨rfl, rfl, rfl, by decide +kernel, rfl, by decide +kernel, by decide +kernel⟩
theorem ini_19 {C g : Addr} {fd : FuncData} (Z : Xc K mg "BadMix" "path" C g bmV "ValueError.__new__" (inClass sBadMix 0) "BadMix.__init__" fd) : FnOk P w K mg base CX0 1 g fd ["self", "path"] (spPut C "path") := ok_put PySem.F.store_ValueError Z.T Z.F scI19 rfl rfl rfl (by decide +kernel) (by decide +kernel) (fun _ => rfl)
theorem scI21 : FnScope ["self", "most"] ["self", "most"] (defScope (inClass sToomany 0)) := ⟨rfl, rfl, rfl, by decide +kernel, rfl, by decide +kernel, by decide +kernel⟩
theorem ini_21 {C g : Addr} {fd : FuncData} (Z : Xc K mg "TooMany" "most" C g bmO "OverflowError.__new__" (inClass sToomany 0) "TooMany.__init__" fd) : FnOk P w K mg base CX0 1 g fd ["self", "most"] (spPut C "most") := ok_put PySem.F.store_OverflowError Z.T Z.F scI21 rfl rfl rfl (by decide +kernel) (by decide +kernel) (fun _ => rfl)
theorem scI22 : FnScope ["self", "many"] ["self", "many"] (defScope (inClass sNothingLeft 0)) := ⟨rfl, rfl, rfl, by decide +kernel, rfl, by decide +kernel, by decide +kernel⟩
theorem ini_22 {C g : Addr} {fd : FuncData} (Z : Xc K mg "NothingLeft" "many" C g bmR "RuntimeError.__new__" (inClass sNothingLeft 0) "NothingLeft.__init__" fd) : FnOk P w K mg base CX0 1 g fd ["self", "many"] (spPut C "many") := ok_put PySem.F.store_RuntimeError Z.T Z.F scI22 rfl rfl rfl (by decide +kernel) (by decide +kernel) (fun _ => rfl)
theorem scI23 : FnScope ["self", "given"] ["self", "given"] (defScope (inClass sMissing 0)) := ⟨rfl, rfl, rfl, by decide +kernel, rfl, by decide +kernel, by decide +kernel⟩
theorem ini_23 {C g : Addr} {fd : FuncData} (Z : Xc K mg "Missing" "given" C g bmK "LookupError.__new__" (inClass sMissing 0) "Missing.__init__" fd) : FnOk P w K mg base CX0 1 g fd ["self", "given"] (spPut C "given") := ok_put key_store Z.T Z.F scI23 rfl rfl rfl (by decide +kernel) (by decide +kernel) (fun _ => rfl)
/-- BadText: two fields -/
structure Xc2 (K : PySem.W.Frag) (mg : Str → Option Value) (x f f2 : Str) (C fI : Addr) (bmB : List Value) (newId : String) (st : Stmt) (qual : Str) (fd : FuncData) : Prop where
  T : OwnX K mg x f C fI bmB newId
  F : Fun K "__init__" qual st fI fd
  b : Binds K fd ["self", f, f2] []
  tk2 : PySem.W.takerIn K C f2 = some none
  no2 : PySem.W.findIn K (.ref C) f2 = some none
theorem scI20 : FnScope ["self", "line", "word"] ["self", "line", "word"] (defScope (inClass sBadText 0)) := ⟨rfl, rfl, rfl, by decide +kernel, rfl, by decide +kernel, by decide +kernel⟩
def spPut2 (C : Addr) : Sp := fun vs H Q _ => ∃ a y z, vs = [.ref a, y, z] ∧ H a = some (exo a C none) ∧ ∀ dx H', H dx = none → dx ≠ a → H' a = some (exo a C (some dx)) → H' dx = some (exd dx [("word", z), ("line", y)]) → (∀ b, b ≠ a → b ≠ dx → H' b = H b) → Q .non H'
theorem ini_20 {C g : Addr} {fd : FuncData} (Z : Xc2 K mg "BadText" "line" "word" C g bmV "ValueError.__new__" (inClass sBadText 0) "BadText.__init__" fd) : FnOk P w K mg base CX0 1 g fd ["self", "line", "word"] (spPut2 C) := by
  refine Z.F.ok scI20 (fun vs H Q E h => ?_) (fun cdv A outer s H vs Q E hr h => ?_)
  · obtain ⟨a, y, z, rfl, _⟩ := h
    rfl
  · obtain ⟨a, y, z, rfl, ea, k⟩ := h
    refine ⟨_, pss_cons (ps_put PySem.F.store_ValueError Z.T (pv 0) (pv 1)) (pss_one (ps_more PySem.F.store_ValueError Z.T Z.tk2 (pv 0) (pv 2))), ?_⟩
    refine ⟨_, rfl, _, rfl, a, rfl, ea, fun dx H1 st => ?_⟩
    obtain ⟨s1, s2, s3, s4, s5⟩ := st
    refine ⟨_, rfl, _, rfl, a, dx, _, rfl, s3, s4, (by show 1 ≤ 900; decide), ?_⟩
    refine k dx _ s1 s2 (by rw [upd_ne (Ne.symm s2)]; exact s3) upd_same fun b h1 h2 => by rw [upd_ne h2]; exact s5 b h1 h2
def wEx2 (C : Addr) : List V → Hp → VK → Prop := fun vs H1 Q => ∃ v u, vs = [v, u] ∧ ∀ a H2, Same H1 H2 → ExVal H2 a C [("word", u), ("line", v)] → Q (.ref a) H2
end
section
variable {X : Cx} {C fI : Addr} {fd : FuncData} {e e2 : Expr} {te te2 : TE} {p pos : PySem.Pos}
theorem pe_ex2 (Z : Xc2 X.K X.mg "BadText" "line" "word" C fI bmV "ValueError.__new__" (inClass sBadText 0) "BadText.__init__" fd) (hr : Room 2 X.A) (hg : Gl X "BadText") (he : PE X e te) (he2 : PE X e2 te2)
    (h1 : starEach [e, e2] X.env = (false, eval e X.env) :: starEach [e2] X.env := by rfl) (h2 : (backTo pos (starEach [e2] X.env)).any (·.1) = false := by rfl) (h3 : starEach [e2] X.env = (false, eval e2 X.env) :: starEach [] X.env := by rfl) : PE X (.Call (.Name "BadText" p) [e, e2] [] pos) (fun σ H Q => tCons te (tCons te2 tNil) σ H fun vs H1 => wEx2 C vs H1 Q) :=
  pe_mkV maker_V Z.T (ini_20 Z) Z.b hr hg (pa_cons he (pa_cons he2 pa_nil h3) h1) (fun vs H1 Q ⟨v, u, ev, k⟩ => by
    subst ev
    refine ⟨(by show 2 ≤ 1000; decide), fun a na => ⟨a, v, u, rfl, upd_same, fun dx H' s1 s2 s3 s4 s5 => ⟨rfl, k a H' (fun b o h => ?_) ⟨dx, s3, s4⟩⟩⟩⟩
    have nb : b ≠ a := ne_of_none h na
    have nd : b ≠ dx := fun z => by
      rw [← z, upd_ne nb, h] at s1
      cases s1
    rw [s5 b nb nd, upd_ne nb]
    exact h) (by decide) h1 h2
end
end CS
set_option Elab.async false
set_option maxRecDepth 100000
set_option maxHeartbeats 8000000
set_option linter.unusedVariables false
set_option pp.maxSteps 9000
/-! the program's errors, told in one: Ax i is the i-th class's address, Ax 24 is StepError's -/
namespace CS
open PySem PySem.Spec PyProof.Rows L2
structure ErrOk (K : PySem.W.Frag) (mg : Str → Option Value) (Ax : Nat → Addr) : Prop where
  z0 : ∃ g fd, Xc K mg "BadFraction" "given" (Ax 0) g bmV "ValueError.__new__" (inClass sBadFraction 0) "BadFraction.__init__" fd
  z1 : ∃ g fd, Xc K mg "BadShare" "given" (Ax 1) g bmV "ValueError.__new__" (inClass sBadshare 0) "BadShare.__init__" fd
  z2 : ∃ g fd, Xc K mg "BadNumber" "given" (Ax 2) g bmV "ValueError.__new__" (inClass sBadnumber 0) "BadNumber.__init__" fd
  z3 : ∃ g fd, Xc K mg "BadWeight" "given" (Ax 3) g bmV "ValueError.__new__" (inClass sBadweight 0) "BadWeight.__init__" fd
  z4 : ∃ g fd, Xc K mg "BadOrder" "given" (Ax 4) g bmV "ValueError.__new__" (inClass sBadOrder 0) "BadOrder.__init__" fd
  z5 : ∃ g fd, Xc K mg "BadTable" "given" (Ax 5) g bmV "ValueError.__new__" (inClass sBadTable 0) "BadTable.__init__" fd
  z6 : ∃ g fd, Xc K mg "BadCrossing" "given" (Ax 6) g bmV "ValueError.__new__" (inClass sBadCrossing 0) "BadCrossing.__init__" fd
  z7 : ∃ g fd, Xc K mg "BadCosts" "given" (Ax 7) g bmV "ValueError.__new__" (inClass sBadCosts 0) "BadCosts.__init__" fd
  z8 : ∃ g fd, Xc K mg "BadDays" "given" (Ax 8) g bmV "ValueError.__new__" (inClass sBadDays 0) "BadDays.__init__" fd
  z9 : ∃ g fd, Xc K mg "BadClaim" "given" (Ax 9) g bmV "ValueError.__new__" (inClass sBadClaim 0) "BadClaim.__init__" fd
  z10 : ∃ g fd, Xc K mg "BadFair" "given" (Ax 10) g bmV "ValueError.__new__" (inClass sBadFair 0) "BadFair.__init__" fd
  z11 : ∃ g fd, Xc K mg "BadHedge" "given" (Ax 11) g bmV "ValueError.__new__" (inClass sBadHedge 0) "BadHedge.__init__" fd
  z12 : ∃ g fd, Xc K mg "BadLabel" "given" (Ax 12) g bmV "ValueError.__new__" (inClass sBadLabel 0) "BadLabel.__init__" fd
  z13 : ∃ g fd, Xc K mg "BadQuote" "given" (Ax 13) g bmV "ValueError.__new__" (inClass sBadQuote 0) "BadQuote.__init__" fd
  z14 : ∃ g fd, Xc K mg "BadPaper" "part" (Ax 14) g bmV "ValueError.__new__" (inClass sBadPaper 0) "BadPaper.__init__" fd
  z15 : ∃ g fd, Xc K mg "BadBook" "part" (Ax 15) g bmV "ValueError.__new__" (inClass sBadBook 0) "BadBook.__init__" fd
  z16 : ∃ g fd, Xc K mg "NotWider" "paper" (Ax 16) g bmV "ValueError.__new__" (inClass sNotWider 0) "NotWider.__init__" fd
  z17 : ∃ g fd, Xc K mg "SureGain" "paper" (Ax 17) g bmV "ValueError.__new__" (inClass sSureGain 0) "SureGain.__init__" fd
  z18 : ∃ g fd, Xc K mg "BadTerm" "path" (Ax 18) g bmV "ValueError.__new__" (inClass sBadTerm 0) "BadTerm.__init__" fd
  z19 : ∃ g fd, Xc K mg "BadMix" "path" (Ax 19) g bmV "ValueError.__new__" (inClass sBadMix 0) "BadMix.__init__" fd
  z20 : ∃ g fd, Xc2 K mg "BadText" "line" "word" (Ax 20) g bmV "ValueError.__new__" (inClass sBadText 0) "BadText.__init__" fd
  z21 : ∃ g fd, Xc K mg "TooMany" "most" (Ax 21) g bmO "OverflowError.__new__" (inClass sToomany 0) "TooMany.__init__" fd
  z22 : ∃ g fd, Xc K mg "NothingLeft" "many" (Ax 22) g bmR "RuntimeError.__new__" (inClass sNothingLeft 0) "NothingLeft.__init__" fd
  z23 : ∃ g fd, Xc K mg "Missing" "given" (Ax 23) g bmK "LookupError.__new__" (inClass sMissing 0) "Missing.__init__" fd
  step : mg "StepError" = some (.ref (Ax 24)) ∧ PySem.W.excIn K (Ax 24) bmV "ValueError.__new__" = true ∧ PySem.W.keepIn K (.ref (Ax 24)) = true
  exc : ∀ j, j < 25 → ExcC K (Ax j)
  kit : ∀ j i, j < 25 → i < 24 → PySem.W.kitOne K (.ref (Ax j)) (.ref (Ax i)) = some (decide (i = j))
  kS : ∀ j, j < 25 → PySem.W.kitOne K (.ref (Ax j)) (.ref (Ax 24)) = some (decide (j < 21 ∨ j = 24))
  kV : ∀ j, j < 25 → PySem.W.kitOne K (.ref (Ax j)) (.type "ValueError") = some (decide (j < 21 ∨ j = 24))
  kO : ∀ j, j < 25 → PySem.W.kitOne K (.ref (Ax j)) (.type "OverflowError") = some (decide (j = 21))
  kR : ∀ j, j < 25 → PySem.W.kitOne K (.ref (Ax j)) (.type "RuntimeError") = some (decide (j = 22))
  kK : ∀ j, j < 25 → PySem.W.kitOne K (.ref (Ax j)) (.type "KeyError") = some (decide (j = 23))
  exm : ∀ j, j < 21 → PySem.W.exmOne K (.ref (Ax j)) (.ref (Ax 24)) = some true
  mV : mg "ValueError" = none
  mO : mg "OverflowError" = none
  mR : mg "RuntimeError" = none
  mK : mg "KeyError" = none
section
variable {X : Cx} {Ax : Nat → Addr} {e e2 : Expr} {te te2 : TE} {p pos : PySem.Pos}
theorem pe_e0 (EO : ErrOk X.K X.mg Ax) (hr : Room 2 X.A) (hg : Gl X "BadFraction") (he : PE X e te) (h1 : starEach [e] X.env = (false, eval e X.env) :: starEach [] X.env := by rfl) (h2 : (backTo pos (starEach [] X.env)).any (·.1) = false := by rfl) : PE X (.Call (.Name "BadFraction" p) [e] [] pos) (fun σ H Q => tCons te tNil σ H fun vs H1 => wEx1 (Ax 0) "given" vs H1 Q) := by
  obtain ⟨g, fd, Z⟩ := EO.z0
  exact pe_ex1 maker_V Z (ini_0 Z) hr hg he (by decide) h1 h2
theorem pe_e1 (EO : ErrOk X.K X.mg Ax) (hr : Room 2 X.A) (hg : Gl X "BadShare") (he : PE X e te) (h1 : starEach [e] X.env = (false, eval e X.env) :: starEach [] X.env := by rfl) (h2 : (backTo pos (starEach [] X.env)).any (·.1) = false := by rfl) : PE X (.Call (.Name "BadShare" p) [e] [] pos) (fun σ H Q => tCons te tNil σ H fun vs H1 => wEx1 (Ax 1) "given" vs H1 Q) := by
  obtain ⟨g, fd, Z⟩ := EO.z1
  exact pe_ex1 maker_V Z (ini_1 Z) hr hg he (by decide) h1 h2
theorem pe_e2 (EO : ErrOk X.K X.mg Ax) (hr : Room 2 X.A) (hg : Gl X "BadNumber") (he : PE X e te) (h1 : starEach [e] X.env = (false, eval e X.env) :: starEach [] X.env := by rfl) (h2 : (backTo pos (starEach [] X.env)).any (·.1) = false := by rfl) : PE X (.Call (.Name "BadNumber" p) [e] [] pos) (fun σ H Q => tCons te tNil σ H fun vs H1 => wEx1 (Ax 2) "given" vs H1 Q) := by
  obtain ⟨g, fd, Z⟩ := EO.z2
  exact pe_ex1 maker_V Z (ini_2 Z) hr hg he (by decide) h1 h2
theorem pe_e3 (EO : ErrOk X.K X.mg Ax) (hr : Room 2 X.A) (hg : Gl X "BadWeight") (he : PE X e te) (h1 : starEach [e] X.env = (false, eval e X.env) :: starEach [] X.env := by rfl) (h2 : (backTo pos (starEach [] X.env)).any (·.1) = false := by rfl) : PE X (.Call (.Name "BadWeight" p) [e] [] pos) (fun σ H Q => tCons te tNil σ H fun vs H1 => wEx1 (Ax 3) "given" vs H1 Q) := by
  obtain ⟨g, fd, Z⟩ := EO.z3
  exact pe_ex1 maker_V Z (ini_3 Z) hr hg he (by decide) h1 h2
theorem pe_e4 (EO : ErrOk X.K X.mg Ax) (hr : Room 2 X.A) (hg : Gl X "BadOrder") (he : PE X e te) (h1 : starEach [e] X.env = (false, eval e X.env) :: starEach [] X.env := by rfl) (h2 : (backTo pos (starEach [] X.env)).any (·.1) = false := by rfl) : PE X (.Call (.Name "BadOrder" p) [e] [] pos) (fun σ H Q => tCons te tNil σ H fun vs H1 => wEx1 (Ax 4) "given" vs H1 Q) := by
  obtain ⟨g, fd, Z⟩ := EO.z4
  exact pe_ex1 maker_V Z (ini_4 Z) hr hg he (by decide) h1 h2
theorem pe_e5 (EO : ErrOk X.K X.mg Ax) (hr : Room 2 X.A) (hg : Gl X "BadTable") (he : PE X e te) (h1 : starEach [e] X.env = (false, eval e X.env) :: starEach [] X.env := by rfl) (h2 : (backTo pos (starEach [] X.env)).any (·.1) = false := by rfl) : PE X (.Call (.Name "BadTable" p) [e] [] pos) (fun σ H Q => tCons te tNil σ H fun vs H1 => wEx1 (Ax 5) "given" vs H1 Q) := by
  obtain ⟨g, fd, Z⟩ := EO.z5
  exact pe_ex1 maker_V Z (ini_5 Z) hr hg he (by decide) h1 h2
theorem pe_e6 (EO : ErrOk X.K X.mg Ax) (hr : Room 2 X.A) (hg : Gl X "BadCrossing") (he : PE X e te) (h1 : starEach [e] X.env = (false, eval e X.env) :: starEach [] X.env := by rfl) (h2 : (backTo pos (starEach [] X.env)).any (·.1) = false := by rfl) : PE X (.Call (.Name "BadCrossing" p) [e] [] pos) (fun σ H Q => tCons te tNil σ H fun vs H1 => wEx1 (Ax 6) "given" vs H1 Q) := by
  obtain ⟨g, fd, Z⟩ := EO.z6
  exact pe_ex1 maker_V Z (ini_6 Z) hr hg he (by decide) h1 h2
theorem pe_e7 (EO : ErrOk X.K X.mg Ax) (hr : Room 2 X.A) (hg : Gl X "BadCosts") (he : PE X e te) (h1 : starEach [e] X.env = (false, eval e X.env) :: starEach [] X.env := by rfl) (h2 : (backTo pos (starEach [] X.env)).any (·.1) = false := by rfl) : PE X (.Call (.Name "BadCosts" p) [e] [] pos) (fun σ H Q => tCons te tNil σ H fun vs H1 => wEx1 (Ax 7) "given" vs H1 Q) := by
  obtain ⟨g, fd, Z⟩ := EO.z7
  exact pe_ex1 maker_V Z (ini_7 Z) hr hg he (by decide) h1 h2
theorem pe_e8 (EO : ErrOk X.K X.mg Ax) (hr : Room 2 X.A) (hg : Gl X "BadDays") (he : PE X e te) (h1 : starEach [e] X.env = (false, eval e X.env) :: starEach [] X.env := by rfl) (h2 : (backTo pos (starEach [] X.env)).any (·.1) = false := by rfl) : PE X (.Call (.Name "BadDays" p) [e] [] pos) (fun σ H Q => tCons te tNil σ H fun vs H1 => wEx1 (Ax 8) "given" vs H1 Q) := by
  obtain ⟨g, fd, Z⟩ := EO.z8
  exact pe_ex1 maker_V Z (ini_8 Z) hr hg he (by decide) h1 h2
theorem pe_e9 (EO : ErrOk X.K X.mg Ax) (hr : Room 2 X.A) (hg : Gl X "BadClaim") (he : PE X e te) (h1 : starEach [e] X.env = (false, eval e X.env) :: starEach [] X.env := by rfl) (h2 : (backTo pos (starEach [] X.env)).any (·.1) = false := by rfl) : PE X (.Call (.Name "BadClaim" p) [e] [] pos) (fun σ H Q => tCons te tNil σ H fun vs H1 => wEx1 (Ax 9) "given" vs H1 Q) := by
  obtain ⟨g, fd, Z⟩ := EO.z9
  exact pe_ex1 maker_V Z (ini_9 Z) hr hg he (by decide) h1 h2
theorem pe_e10 (EO : ErrOk X.K X.mg Ax) (hr : Room 2 X.A) (hg : Gl X "BadFair") (he : PE X e te) (h1 : starEach [e] X.env = (false, eval e X.env) :: starEach [] X.env := by rfl) (h2 : (backTo pos (starEach [] X.env)).any (·.1) = false := by rfl) : PE X (.Call (.Name "BadFair" p) [e] [] pos) (fun σ H Q => tCons te tNil σ H fun vs H1 => wEx1 (Ax 10) "given" vs H1 Q) := by
  obtain ⟨g, fd, Z⟩ := EO.z10
  exact pe_ex1 maker_V Z (ini_10 Z) hr hg he (by decide) h1 h2
theorem pe_e11 (EO : ErrOk X.K X.mg Ax) (hr : Room 2 X.A) (hg : Gl X "BadHedge") (he : PE X e te) (h1 : starEach [e] X.env = (false, eval e X.env) :: starEach [] X.env := by rfl) (h2 : (backTo pos (starEach [] X.env)).any (·.1) = false := by rfl) : PE X (.Call (.Name "BadHedge" p) [e] [] pos) (fun σ H Q => tCons te tNil σ H fun vs H1 => wEx1 (Ax 11) "given" vs H1 Q) := by
  obtain ⟨g, fd, Z⟩ := EO.z11
  exact pe_ex1 maker_V Z (ini_11 Z) hr hg he (by decide) h1 h2
theorem pe_e12 (EO : ErrOk X.K X.mg Ax) (hr : Room 2 X.A) (hg : Gl X "BadLabel") (he : PE X e te) (h1 : starEach [e] X.env = (false, eval e X.env) :: starEach [] X.env := by rfl) (h2 : (backTo pos (starEach [] X.env)).any (·.1) = false := by rfl) : PE X (.Call (.Name "BadLabel" p) [e] [] pos) (fun σ H Q => tCons te tNil σ H fun vs H1 => wEx1 (Ax 12) "given" vs H1 Q) := by
  obtain ⟨g, fd, Z⟩ := EO.z12
  exact pe_ex1 maker_V Z (ini_12 Z) hr hg he (by decide) h1 h2
theorem pe_e13 (EO : ErrOk X.K X.mg Ax) (hr : Room 2 X.A) (hg : Gl X "BadQuote") (he : PE X e te) (h1 : starEach [e] X.env = (false, eval e X.env) :: starEach [] X.env := by rfl) (h2 : (backTo pos (starEach [] X.env)).any (·.1) = false := by rfl) : PE X (.Call (.Name "BadQuote" p) [e] [] pos) (fun σ H Q => tCons te tNil σ H fun vs H1 => wEx1 (Ax 13) "given" vs H1 Q) := by
  obtain ⟨g, fd, Z⟩ := EO.z13
  exact pe_ex1 maker_V Z (ini_13 Z) hr hg he (by decide) h1 h2
theorem pe_e14 (EO : ErrOk X.K X.mg Ax) (hr : Room 2 X.A) (hg : Gl X "BadPaper") (he : PE X e te) (h1 : starEach [e] X.env = (false, eval e X.env) :: starEach [] X.env := by rfl) (h2 : (backTo pos (starEach [] X.env)).any (·.1) = false := by rfl) : PE X (.Call (.Name "BadPaper" p) [e] [] pos) (fun σ H Q => tCons te tNil σ H fun vs H1 => wEx1 (Ax 14) "part" vs H1 Q) := by
  obtain ⟨g, fd, Z⟩ := EO.z14
  exact pe_ex1 maker_V Z (ini_14 Z) hr hg he (by decide) h1 h2
theorem pe_e15 (EO : ErrOk X.K X.mg Ax) (hr : Room 2 X.A) (hg : Gl X "BadBook") (he : PE X e te) (h1 : starEach [e] X.env = (false, eval e X.env) :: starEach [] X.env := by rfl) (h2 : (backTo pos (starEach [] X.env)).any (·.1) = false := by rfl) : PE X (.Call (.Name "BadBook" p) [e] [] pos) (fun σ H Q => tCons te tNil σ H fun vs H1 => wEx1 (Ax 15) "part" vs H1 Q) := by
  obtain ⟨g, fd, Z⟩ := EO.z15
  exact pe_ex1 maker_V Z (ini_15 Z) hr hg he (by decide) h1 h2
theorem pe_e16 (EO : ErrOk X.K X.mg Ax) (hr : Room 2 X.A) (hg : Gl X "NotWider") (he : PE X e te) (h1 : starEach [e] X.env = (false, eval e X.env) :: starEach [] X.env := by rfl) (h2 : (backTo pos (starEach [] X.env)).any (·.1) = false := by rfl) : PE X (.Call (.Name "NotWider" p) [e] [] pos) (fun σ H Q => tCons te tNil σ H fun vs H1 => wEx1 (Ax 16) "paper" vs H1 Q) := by
  obtain ⟨g, fd, Z⟩ := EO.z16
  exact pe_ex1 maker_V Z (ini_16 Z) hr hg he (by decide) h1 h2
theorem pe_e17 (EO : ErrOk X.K X.mg Ax) (hr : Room 2 X.A) (hg : Gl X "SureGain") (he : PE X e te) (h1 : starEach [e] X.env = (false, eval e X.env) :: starEach [] X.env := by rfl) (h2 : (backTo pos (starEach [] X.env)).any (·.1) = false := by rfl) : PE X (.Call (.Name "SureGain" p) [e] [] pos) (fun σ H Q => tCons te tNil σ H fun vs H1 => wEx1 (Ax 17) "paper" vs H1 Q) := by
  obtain ⟨g, fd, Z⟩ := EO.z17
  exact pe_ex1 maker_V Z (ini_17 Z) hr hg he (by decide) h1 h2
theorem pe_e18 (EO : ErrOk X.K X.mg Ax) (hr : Room 2 X.A) (hg : Gl X "BadTerm") (he : PE X e te) (h1 : starEach [e] X.env = (false, eval e X.env) :: starEach [] X.env := by rfl) (h2 : (backTo pos (starEach [] X.env)).any (·.1) = false := by rfl) : PE X (.Call (.Name "BadTerm" p) [e] [] pos) (fun σ H Q => tCons te tNil σ H fun vs H1 => wEx1 (Ax 18) "path" vs H1 Q) := by
  obtain ⟨g, fd, Z⟩ := EO.z18
  exact pe_ex1 maker_V Z (ini_18 Z) hr hg he (by decide) h1 h2
theorem pe_e19 (EO : ErrOk X.K X.mg Ax) (hr : Room 2 X.A) (hg : Gl X "BadMix") (he : PE X e te) (h1 : starEach [e] X.env = (false, eval e X.env) :: starEach [] X.env := by rfl) (h2 : (backTo pos (starEach [] X.env)).any (·.1) = false := by rfl) : PE X (.Call (.Name "BadMix" p) [e] [] pos) (fun σ H Q => tCons te tNil σ H fun vs H1 => wEx1 (Ax 19) "path" vs H1 Q) := by
  obtain ⟨g, fd, Z⟩ := EO.z19
  exact pe_ex1 maker_V Z (ini_19 Z) hr hg he (by decide) h1 h2
theorem pe_e21 (EO : ErrOk X.K X.mg Ax) (hr : Room 2 X.A) (hg : Gl X "TooMany") (he : PE X e te) (h1 : starEach [e] X.env = (false, eval e X.env) :: starEach [] X.env := by rfl) (h2 : (backTo pos (starEach [] X.env)).any (·.1) = false := by rfl) : PE X (.Call (.Name "TooMany" p) [e] [] pos) (fun σ H Q => tCons te tNil σ H fun vs H1 => wEx1 (Ax 21) "most" vs H1 Q) := by
  obtain ⟨g, fd, Z⟩ := EO.z21
  exact pe_ex1 maker_O Z (ini_21 Z) hr hg he (by decide) h1 h2
theorem pe_e22 (EO : ErrOk X.K X.mg Ax) (hr : Room 2 X.A) (hg : Gl X "NothingLeft") (he : PE X e te) (h1 : starEach [e] X.env = (false, eval e X.env) :: starEach [] X.env := by rfl) (h2 : (backTo pos (starEach [] X.env)).any (·.1) = false := by rfl) : PE X (.Call (.Name "NothingLeft" p) [e] [] pos) (fun σ H Q => tCons te tNil σ H fun vs H1 => wEx1 (Ax 22) "many" vs H1 Q) := by
  obtain ⟨g, fd, Z⟩ := EO.z22
  exact pe_ex1 maker_R Z (ini_22 Z) hr hg he (by decide) h1 h2
theorem pe_e23 (EO : ErrOk X.K X.mg Ax) (hr : Room 2 X.A) (hg : Gl X "Missing") (he : PE X e te) (h1 : starEach [e] X.env = (false, eval e X.env) :: starEach [] X.env := by rfl) (h2 : (backTo pos (starEach [] X.env)).any (·.1) = false := by rfl) : PE X (.Call (.Name "Missing" p) [e] [] pos) (fun σ H Q => tCons te tNil σ H fun vs H1 => wEx1 (Ax 23) "given" vs H1 Q) := by
  obtain ⟨g, fd, Z⟩ := EO.z23
  exact pe_ex1 maker_K Z (ini_23 Z) hr hg he (by decide) h1 h2
theorem pe_e20 (EO : ErrOk X.K X.mg Ax) (hr : Room 2 X.A) (hg : Gl X "BadText") (he : PE X e te) (he2 : PE X e2 te2) (h1 : starEach [e, e2] X.env = (false, eval e X.env) :: starEach [e2] X.env := by rfl) (h2 : (backTo pos (starEach [e2] X.env)).any (·.1) = false := by rfl) (h3 : starEach [e2] X.env = (false, eval e2 X.env) :: starEach [] X.env := by rfl) :
    PE X (.Call (.Name "BadText" p) [e, e2] [] pos) (fun σ H Q => tCons te (tCons te2 tNil) σ H fun vs H1 => wEx2 (Ax 20) vs H1 Q) := by
  obtain ⟨g, fd, Z⟩ := EO.z20
  exact pe_ex2 Z hr hg he he2 h1 h2 h3
/-- StepError('..') -/
theorem pe_step (EO : ErrOk X.K X.mg Ax) (hg : Gl X "StepError") (he : PE X e te) (h1 : starEach [e] X.env = (false, eval e X.env) :: starEach [] X.env := by rfl) : PE X (.Call (.Name "StepError" p) [e] [] pos) (fun σ H Q => te σ H fun _ H1 => ∀ a, H1 a = none → Q (.ref a) (upd H1 a (ExO (.ref (Ax 24)) a))) := by
  obtain ⟨g, q, k⟩ := EO.step
  exact pe_exc1 PySem.F.excBase_ValueError q g k hg he h1
theorem pe_n0 (EO : ErrOk X.K X.mg Ax) (hg : Gl X "BadFraction") : PE X (.Name "BadFraction" p) (tC (.ref (Ax 0))) := by
  obtain ⟨g, fd, Z⟩ := EO.z0
  exact pe_glob (v := .ref (Ax 0)) hg Z.T.gC rfl
theorem pe_n1 (EO : ErrOk X.K X.mg Ax) (hg : Gl X "BadShare") : PE X (.Name "BadShare" p) (tC (.ref (Ax 1))) := by
  obtain ⟨g, fd, Z⟩ := EO.z1
  exact pe_glob (v := .ref (Ax 1)) hg Z.T.gC rfl
theorem pe_n2 (EO : ErrOk X.K X.mg Ax) (hg : Gl X "BadNumber") : PE X (.Name "BadNumber" p) (tC (.ref (Ax 2))) := by
  obtain ⟨g, fd, Z⟩ := EO.z2
  exact pe_glob (v := .ref (Ax 2)) hg Z.T.gC rfl
theorem pe_n3 (EO : ErrOk X.K X.mg Ax) (hg : Gl X "BadWeight") : PE X (.Name "BadWeight" p) (tC (.ref (Ax 3))) := by
  obtain ⟨g, fd, Z⟩ := EO.z3
  exact pe_glob (v := .ref (Ax 3)) hg Z.T.gC rfl
theorem pe_n4 (EO : ErrOk X.K X.mg Ax) (hg : Gl X "BadOrder") : PE X (.Name "BadOrder" p) (tC (.ref (Ax 4))) := by
  obtain ⟨g, fd, Z⟩ := EO.z4
  exact pe_glob (v := .ref (Ax 4)) hg Z.T.gC rfl
theorem pe_n5 (EO : ErrOk X.K X.mg Ax) (hg : Gl X "BadTable") : PE X (.Name "BadTable" p) (tC (.ref (Ax 5))) := by
  obtain ⟨g, fd, Z⟩ := EO.z5
  exact pe_glob (v := .ref (Ax 5)) hg Z.T.gC rfl
theorem pe_n6 (EO : ErrOk X.K X.mg Ax) (hg : Gl X "BadCrossing") : PE X (.Name "BadCrossing" p) (tC (.ref (Ax 6))) := by
  obtain ⟨g, fd, Z⟩ := EO.z6
  exact pe_glob (v := .ref (Ax 6)) hg Z.T.gC rfl
theorem pe_n7 (EO : ErrOk X.K X.mg Ax) (hg : Gl X "BadCosts") : PE X (.Name "BadCosts" p) (tC (.ref (Ax 7))) := by
  obtain ⟨g, fd, Z⟩ := EO.z7
  exact pe_glob (v := .ref (Ax 7)) hg Z.T.gC rfl
theorem pe_n8 (EO : ErrOk X.K X.mg Ax) (hg : Gl X "BadDays") : PE X (.Name "BadDays" p) (tC (.ref (Ax 8))) := by
  obtain ⟨g, fd, Z⟩ := EO.z8
  exact pe_glob (v := .ref (Ax 8)) hg Z.T.gC rfl
theorem pe_n9 (EO : ErrOk X.K X.mg Ax) (hg : Gl X "BadClaim") : PE X (.Name "BadClaim" p) (tC (.ref (Ax 9))) := by
  obtain ⟨g, fd, Z⟩ := EO.z9
  exact pe_glob (v := .ref (Ax 9)) hg Z.T.gC rfl
theorem pe_n10 (EO : ErrOk X.K X.mg Ax) (hg : Gl X "BadFair") : PE X (.Name "BadFair" p) (tC (.ref (Ax 10))) := by
  obtain ⟨g, fd, Z⟩ := EO.z10
  exact pe_glob (v := .ref (Ax 10)) hg Z.T.gC rfl
theorem pe_n11 (EO : ErrOk X.K X.mg Ax) (hg : Gl X "BadHedge") : PE X (.Name "BadHedge" p) (tC (.ref (Ax 11))) := by
  obtain ⟨g, fd, Z⟩ := EO.z11
  exact pe_glob (v := .ref (Ax 11)) hg Z.T.gC rfl
theorem pe_n12 (EO : ErrOk X.K X.mg Ax) (hg : Gl X "BadLabel") : PE X (.Name "BadLabel" p) (tC (.ref (Ax 12))) := by
  obtain ⟨g, fd, Z⟩ := EO.z12
  exact pe_glob (v := .ref (Ax 12)) hg Z.T.gC rfl
theorem pe_n13 (EO : ErrOk X.K X.mg Ax) (hg : Gl X "BadQuote") : PE X (.Name "BadQuote" p) (tC (.ref (Ax 13))) := by
  obtain ⟨g, fd, Z⟩ := EO.z13
  exact pe_glob (v := .ref (Ax 13)) hg Z.T.gC rfl
theorem pe_n14 (EO : ErrOk X.K X.mg Ax) (hg : Gl X "BadPaper") : PE X (.Name "BadPaper" p) (tC (.ref (Ax 14))) := by
  obtain ⟨g, fd, Z⟩ := EO.z14
  exact pe_glob (v := .ref (Ax 14)) hg Z.T.gC rfl
theorem pe_n15 (EO : ErrOk X.K X.mg Ax) (hg : Gl X "BadBook") : PE X (.Name "BadBook" p) (tC (.ref (Ax 15))) := by
  obtain ⟨g, fd, Z⟩ := EO.z15
  exact pe_glob (v := .ref (Ax 15)) hg Z.T.gC rfl
theorem pe_n16 (EO : ErrOk X.K X.mg Ax) (hg : Gl X "NotWider") : PE X (.Name "NotWider" p) (tC (.ref (Ax 16))) := by
  obtain ⟨g, fd, Z⟩ := EO.z16
  exact pe_glob (v := .ref (Ax 16)) hg Z.T.gC rfl
theorem pe_n17 (EO : ErrOk X.K X.mg Ax) (hg : Gl X "SureGain") : PE X (.Name "SureGain" p) (tC (.ref (Ax 17))) := by
  obtain ⟨g, fd, Z⟩ := EO.z17
  exact pe_glob (v := .ref (Ax 17)) hg Z.T.gC rfl
theorem pe_n18 (EO : ErrOk X.K X.mg Ax) (hg : Gl X "BadTerm") : PE X (.Name "BadTerm" p) (tC (.ref (Ax 18))) := by
  obtain ⟨g, fd, Z⟩ := EO.z18
  exact pe_glob (v := .ref (Ax 18)) hg Z.T.gC rfl
theorem pe_n19 (EO : ErrOk X.K X.mg Ax) (hg : Gl X "BadMix") : PE X (.Name "BadMix" p) (tC (.ref (Ax 19))) := by
  obtain ⟨g, fd, Z⟩ := EO.z19
  exact pe_glob (v := .ref (Ax 19)) hg Z.T.gC rfl
theorem pe_n20 (EO : ErrOk X.K X.mg Ax) (hg : Gl X "BadText") : PE X (.Name "BadText" p) (tC (.ref (Ax 20))) := by
  obtain ⟨g, fd, Z⟩ := EO.z20
  exact pe_glob (v := .ref (Ax 20)) hg Z.T.gC rfl
theorem pe_n21 (EO : ErrOk X.K X.mg Ax) (hg : Gl X "TooMany") : PE X (.Name "TooMany" p) (tC (.ref (Ax 21))) := by
  obtain ⟨g, fd, Z⟩ := EO.z21
  exact pe_glob (v := .ref (Ax 21)) hg Z.T.gC rfl
theorem pe_n22 (EO : ErrOk X.K X.mg Ax) (hg : Gl X "NothingLeft") : PE X (.Name "NothingLeft" p) (tC (.ref (Ax 22))) := by
  obtain ⟨g, fd, Z⟩ := EO.z22
  exact pe_glob (v := .ref (Ax 22)) hg Z.T.gC rfl
theorem pe_n23 (EO : ErrOk X.K X.mg Ax) (hg : Gl X "Missing") : PE X (.Name "Missing" p) (tC (.ref (Ax 23))) := by
  obtain ⟨g, fd, Z⟩ := EO.z23
  exact pe_glob (v := .ref (Ax 23)) hg Z.T.gC rfl
theorem pe_nS (EO : ErrOk X.K X.mg Ax) (hg : Gl X "StepError") : PE X (.Name "StepError" p) (tC (.ref (Ax 24))) := pe_glob (v := .ref (Ax 24)) hg EO.step.1 rfl
end
section
variable {P : Program} {w : World} {K : PySem.W.Frag} {mg : Str → Option Value} {base : Heap}
def sortsL (j : Nat) : List V := (List.range 24).map fun i => V.bl (decide (i = j))
def aboveL (j : Nat) : List V := [V.bl (decide (j < 21 ∨ j = 24)), .bl (decide (j < 21 ∨ j = 24)), .bl (decide (j = 21)), .bl (decide (j = 22)), .bl (decide (j = 23))]
def spSorts (Ax : Nat → Addr) (pn : List (Addr × Obj)) : Sp := fun vs H Q _ => ∃ a d j, vs = [.ref a] ∧ j < 25 ∧ ExIs pn H a (Ax j) d ∧ ∀ p H', Same H H' → H' p = some (.lst (sortsL j)) → Q (.ref p) H'
def spAbove (Ax : Nat → Addr) : Sp := fun vs H Q _ => ∃ a d j, vs = [.ref a] ∧ j < 25 ∧ ExIs [] H a (Ax j) d ∧ ∀ p H', Same H H' → H' p = some (.lst (aboveL j)) → Q (.ref p) H'
abbrev nsLawSorts : List Str := ["error", "found"]
theorem scLawSorts : FnScope nsLawSorts ["error"] (defScope sLawSorts) := ⟨rfl, rfl, rfl, by decide +kernel, rfl, by decide +kernel, by decide +kernel⟩
theorem ok_law_sorts {f : Addr} {fd : FuncData} (F : Df K mg "_law_sorts" sLawSorts ["error"] f fd)
    {Ax : Nat → Addr} (EO : ErrOk K mg Ax) (T : Bt mg) : FnOk P w K mg base CX0 1 f fd ["error"] (spSorts Ax []) := by
  refine F.F.ok scLawSorts (fun vs H Q E h => ?_) (fun cdv A outer s H vs Q E hr h => ?_)
  · obtain ⟨a, d, j, rfl, _⟩ := h
    rfl
  · obtain ⟨a, d, j, rfl, hj, hx, k⟩ := h
    refine ⟨_, (pss_cons (ps_set (i := 1) scLawSorts.nd rfl (Or.inl rfl) (pe_lst (pa_cons (pe_callB call_isX (by rfl) T.isinstance (by decide +kernel) (pa_cons (pv 0) (pa_cons (pe_n0 EO (by rfl)) pa_nil))) (pa_cons (pe_callB call_isX (by rfl) T.isinstance (by decide +kernel) (pa_cons (pv 0) (pa_cons (pe_n1 EO (by rfl)) pa_nil))) (pa_cons (pe_callB call_isX (by rfl) T.isinstance (by decide +kernel) (pa_cons (pv 0) (pa_cons (pe_n2 EO (by rfl)) pa_nil))) pa_nil)))))
      (pss_cons (ps_set (i := 1) scLawSorts.nd rfl (Or.inl rfl) (pe_op op_cat (pv 1) (pe_lst (pa_cons (pe_callB call_isX (by rfl) T.isinstance (by decide +kernel) (pa_cons (pv 0) (pa_cons (pe_n3 EO (by rfl)) pa_nil))) (pa_cons (pe_callB call_isX (by rfl) T.isinstance (by decide +kernel) (pa_cons (pv 0) (pa_cons (pe_n4 EO (by rfl)) pa_nil))) (pa_cons (pe_callB call_isX (by rfl) T.isinstance (by decide +kernel) (pa_cons (pv 0) (pa_cons (pe_n5 EO (by rfl)) pa_nil))) pa_nil))))))
      (pss_cons (ps_set (i := 1) scLawSorts.nd rfl (Or.inl rfl) (pe_op op_cat (pv 1) (pe_lst (pa_cons (pe_callB call_isX (by rfl) T.isinstance (by decide +kernel) (pa_cons (pv 0) (pa_cons (pe_n6 EO (by rfl)) pa_nil))) (pa_cons (pe_callB call_isX (by rfl) T.isinstance (by decide +kernel) (pa_cons (pv 0) (pa_cons (pe_n7 EO (by rfl)) pa_nil))) (pa_cons (pe_callB call_isX (by rfl) T.isinstance (by decide +kernel) (pa_cons (pv 0) (pa_cons (pe_n8 EO (by rfl)) pa_nil))) pa_nil))))))
      (pss_cons (ps_set (i := 1) scLawSorts.nd rfl (Or.inl rfl) (pe_op op_cat (pv 1) (pe_lst (pa_cons (pe_callB call_isX (by rfl) T.isinstance (by decide +kernel) (pa_cons (pv 0) (pa_cons (pe_n9 EO (by rfl)) pa_nil))) (pa_cons (pe_callB call_isX (by rfl) T.isinstance (by decide +kernel) (pa_cons (pv 0) (pa_cons (pe_n10 EO (by rfl)) pa_nil))) (pa_cons (pe_callB call_isX (by rfl) T.isinstance (by decide +kernel) (pa_cons (pv 0) (pa_cons (pe_n11 EO (by rfl)) pa_nil))) pa_nil))))))
      (pss_cons (ps_set (i := 1) scLawSorts.nd rfl (Or.inl rfl) (pe_op op_cat (pv 1) (pe_lst (pa_cons (pe_callB call_isX (by rfl) T.isinstance (by decide +kernel) (pa_cons (pv 0) (pa_cons (pe_n12 EO (by rfl)) pa_nil))) (pa_cons (pe_callB call_isX (by rfl) T.isinstance (by decide +kernel) (pa_cons (pv 0) (pa_cons (pe_n13 EO (by rfl)) pa_nil))) (pa_cons (pe_callB call_isX (by rfl) T.isinstance (by decide +kernel) (pa_cons (pv 0) (pa_cons (pe_n14 EO (by rfl)) pa_nil))) pa_nil))))))
      (pss_cons (ps_set (i := 1) scLawSorts.nd rfl (Or.inl rfl) (pe_op op_cat (pv 1) (pe_lst (pa_cons (pe_callB call_isX (by rfl) T.isinstance (by decide +kernel) (pa_cons (pv 0) (pa_cons (pe_n15 EO (by rfl)) pa_nil))) (pa_cons (pe_callB call_isX (by rfl) T.isinstance (by decide +kernel) (pa_cons (pv 0) (pa_cons (pe_n16 EO (by rfl)) pa_nil))) (pa_cons (pe_callB call_isX (by rfl) T.isinstance (by decide +kernel) (pa_cons (pv 0) (pa_cons (pe_n17 EO (by rfl)) pa_nil))) pa_nil))))))
      (pss_cons (ps_set (i := 1) scLawSorts.nd rfl (Or.inl rfl) (pe_op op_cat (pv 1) (pe_lst (pa_cons (pe_callB call_isX (by rfl) T.isinstance (by decide +kernel) (pa_cons (pv 0) (pa_cons (pe_n18 EO (by rfl)) pa_nil))) (pa_cons (pe_callB call_isX (by rfl) T.isinstance (by decide +kernel) (pa_cons (pv 0) (pa_cons (pe_n19 EO (by rfl)) pa_nil))) (pa_cons (pe_callB call_isX (by rfl) T.isinstance (by decide +kernel) (pa_cons (pv 0) (pa_cons (pe_n20 EO (by rfl)) pa_nil))) pa_nil))))))
      (pss_one (ps_ret (pe_op op_cat (pv 1) (pe_lst (pa_cons (pe_callB call_isX (by rfl) T.isinstance (by decide +kernel) (pa_cons (pv 0) (pa_cons (pe_n21 EO (by rfl)) pa_nil))) (pa_cons (pe_callB call_isX (by rfl) T.isinstance (by decide +kernel) (pa_cons (pv 0) (pa_cons (pe_n22 EO (by rfl)) pa_nil))) (pa_cons (pe_callB call_isX (by rfl) T.isinstance (by decide +kernel) (pa_cons (pv 0) (pa_cons (pe_n23 EO (by rfl)) pa_nil))) pa_nil)))))))))))))), ?_⟩
    have S0 : Same H H := Same.refl H
    refine ⟨_, rfl, a, Ax j, d, _, _, _, rfl, .own _, hx.same S0, EO.exc j hj, EO.kit j 0 hj (by decide), _, rfl, a, Ax j, d, _, _, _, rfl, .own _, hx.same S0, EO.exc j hj, EO.kit j 1 hj (by decide), _, rfl, a, Ax j, d, _, _, _, rfl, .own _, hx.same S0, EO.exc j hj, EO.kit j 2 hj (by decide), (by show 3 ≤ sizeLine; decide), fun p0 n0 => ?_⟩
    have T0 := Same.new (o := .lst [V.bl (decide (0 = j)), V.bl (decide (1 = j)), V.bl (decide (2 = j))]) n0
    have l0 : L2.upd H p0 (.lst [V.bl (decide (0 = j)), V.bl (decide (1 = j)), V.bl (decide (2 = j))]) p0 = some (.lst [V.bl (decide (0 = j)), V.bl (decide (1 = j)), V.bl (decide (2 = j))]) := upd_same
    have S1 : Same H (L2.upd H p0 (.lst [V.bl (decide (0 = j)), V.bl (decide (1 = j)), V.bl (decide (2 = j))])) := T0
    generalize L2.upd H p0 (.lst [V.bl (decide (0 = j)), V.bl (decide (1 = j)), V.bl (decide (2 = j))]) = H1 at *
    have q0 : H1 p0 = some (.lst [V.bl (decide (0 = j)), V.bl (decide (1 = j)), V.bl (decide (2 = j))]) := l0
    refine ⟨_, rfl, _, rfl, a, Ax j, d, _, _, _, rfl, .own _, hx.same S1, EO.exc j hj, EO.kit j 3 hj (by decide), _, rfl, a, Ax j, d, _, _, _, rfl, .own _, hx.same S1, EO.exc j hj, EO.kit j 4 hj (by decide), _, rfl, a, Ax j, d, _, _, _, rfl, .own _, hx.same S1, EO.exc j hj, EO.kit j 5 hj (by decide), (by show 3 ≤ sizeLine; decide), fun p1 n1 => ?_⟩
    refine ⟨p0, p1, [V.bl (decide (0 = j)), V.bl (decide (1 = j)), V.bl (decide (2 = j))], [V.bl (decide (3 = j)), V.bl (decide (4 = j)), V.bl (decide (5 = j))], rfl, rfl, Same.new n1 _ _ q0, upd_same, (by show 6 ≤ sizeLine; decide), fun pq1 m1 => ?_⟩
    have S2 := S1.trans ((Same.new (o := .lst [V.bl (decide (3 = j)), V.bl (decide (4 = j)), V.bl (decide (5 = j))]) n1).trans (Same.new (o := .lst ([V.bl (decide (0 = j)), V.bl (decide (1 = j)), V.bl (decide (2 = j))] ++ [V.bl (decide (3 = j)), V.bl (decide (4 = j)), V.bl (decide (5 = j))])) m1))
    have q1 : L2.upd (L2.upd H1 p1 (.lst [V.bl (decide (3 = j)), V.bl (decide (4 = j)), V.bl (decide (5 = j))])) pq1 (.lst ([V.bl (decide (0 = j)), V.bl (decide (1 = j)), V.bl (decide (2 = j))] ++ [V.bl (decide (3 = j)), V.bl (decide (4 = j)), V.bl (decide (5 = j))])) pq1 = some (.lst [V.bl (decide (0 = j)), V.bl (decide (1 = j)), V.bl (decide (2 = j)), V.bl (decide (3 = j)), V.bl (decide (4 = j)), V.bl (decide (5 = j))]) := upd_same
    generalize L2.upd (L2.upd H1 p1 (.lst [V.bl (decide (3 = j)), V.bl (decide (4 = j)), V.bl (decide (5 = j))])) pq1 (.lst ([V.bl (decide (0 = j)), V.bl (decide (1 = j)), V.bl (decide (2 = j))] ++ [V.bl (decide (3 = j)), V.bl (decide (4 = j)), V.bl (decide (5 = j))])) = H2 at *
    refine ⟨_, rfl, _, rfl, a, Ax j, d, _, _, _, rfl, .own _, hx.same S2, EO.exc j hj, EO.kit j 6 hj (by decide), _, rfl, a, Ax j, d, _, _, _, rfl, .own _, hx.same S2, EO.exc j hj, EO.kit j 7 hj (by decide), _, rfl, a, Ax j, d, _, _, _, rfl, .own _, hx.same S2, EO.exc j hj, EO.kit j 8 hj (by decide), (by show 3 ≤ sizeLine; decide), fun p2 n2 => ?_⟩
    refine ⟨pq1, p2, [V.bl (decide (0 = j)), V.bl (decide (1 = j)), V.bl (decide (2 = j)), V.bl (decide (3 = j)), V.bl (decide (4 = j)), V.bl (decide (5 = j))], [V.bl (decide (6 = j)), V.bl (decide (7 = j)), V.bl (decide (8 = j))], rfl, rfl, Same.new n2 _ _ q1, upd_same, (by show 9 ≤ sizeLine; decide), fun pq2 m2 => ?_⟩
    have S3 := S2.trans ((Same.new (o := .lst [V.bl (decide (6 = j)), V.bl (decide (7 = j)), V.bl (decide (8 = j))]) n2).trans (Same.new (o := .lst ([V.bl (decide (0 = j)), V.bl (decide (1 = j)), V.bl (decide (2 = j)), V.bl (decide (3 = j)), V.bl (decide (4 = j)), V.bl (decide (5 = j))] ++ [V.bl (decide (6 = j)), V.bl (decide (7 = j)), V.bl (decide (8 = j))])) m2))
    have q2 : L2.upd (L2.upd H2 p2 (.lst [V.bl (decide (6 = j)), V.bl (decide (7 = j)), V.bl (decide (8 = j))])) pq2 (.lst ([V.bl (decide (0 = j)), V.bl (decide (1 = j)), V.bl (decide (2 = j)), V.bl (decide (3 = j)), V.bl (decide (4 = j)), V.bl (decide (5 = j))] ++ [V.bl (decide (6 = j)), V.bl (decide (7 = j)), V.bl (decide (8 = j))])) pq2 = some (.lst [V.bl (decide (0 = j)), V.bl (decide (1 = j)), V.bl (decide (2 = j)), V.bl (decide (3 = j)), V.bl (decide (4 = j)), V.bl (decide (5 = j)), V.bl (decide (6 = j)), V.bl (decide (7 = j)), V.bl (decide (8 = j))]) := upd_same
    generalize L2.upd (L2.upd H2 p2 (.lst [V.bl (decide (6 = j)), V.bl (decide (7 = j)), V.bl (decide (8 = j))])) pq2 (.lst ([V.bl (decide (0 = j)), V.bl (decide (1 = j)), V.bl (decide (2 = j)), V.bl (decide (3 = j)), V.bl (decide (4 = j)), V.bl (decide (5 = j))] ++ [V.bl (decide (6 = j)), V.bl (decide (7 = j)), V.bl (decide (8 = j))])) = H3 at *
    refine ⟨_, rfl, _, rfl, a, Ax j, d, _, _, _, rfl, .own _, hx.same S3, EO.exc j hj, EO.kit j 9 hj (by decide), _, rfl, a, Ax j, d, _, _, _, rfl, .own _, hx.same S3, EO.exc j hj, EO.kit j 10 hj (by decide), _, rfl, a, Ax j, d, _, _, _, rfl, .own _, hx.same S3, EO.exc j hj, EO.kit j 11 hj (by decide), (by show 3 ≤ sizeLine; decide), fun p3 n3 => ?_⟩
    refine ⟨pq2, p3, [V.bl (decide (0 = j)), V.bl (decide (1 = j)), V.bl (decide (2 = j)), V.bl (decide (3 = j)), V.bl (decide (4 = j)), V.bl (decide (5 = j)), V.bl (decide (6 = j)), V.bl (decide (7 = j)), V.bl (decide (8 = j))], [V.bl (decide (9 = j)), V.bl (decide (10 = j)), V.bl (decide (11 = j))], rfl, rfl, Same.new n3 _ _ q2, upd_same, (by show 12 ≤ sizeLine; decide), fun pq3 m3 => ?_⟩
    have S4 := S3.trans ((Same.new (o := .lst [V.bl (decide (9 = j)), V.bl (decide (10 = j)), V.bl (decide (11 = j))]) n3).trans (Same.new (o := .lst ([V.bl (decide (0 = j)), V.bl (decide (1 = j)), V.bl (decide (2 = j)), V.bl (decide (3 = j)), V.bl (decide (4 = j)), V.bl (decide (5 = j)), V.bl (decide (6 = j)), V.bl (decide (7 = j)), V.bl (decide (8 = j))] ++ [V.bl (decide (9 = j)), V.bl (decide (10 = j)), V.bl (decide (11 = j))])) m3))
    have q3 : L2.upd (L2.upd H3 p3 (.lst [V.bl (decide (9 = j)), V.bl (decide (10 = j)), V.bl (decide (11 = j))])) pq3 (.lst ([V.bl (decide (0 = j)), V.bl (decide (1 = j)), V.bl (decide (2 = j)), V.bl (decide (3 = j)), V.bl (decide (4 = j)), V.bl (decide (5 = j)), V.bl (decide (6 = j)), V.bl (decide (7 = j)), V.bl (decide (8 = j))] ++ [V.bl (decide (9 = j)), V.bl (decide (10 = j)), V.bl (decide (11 = j))])) pq3 = some (.lst [V.bl (decide (0 = j)), V.bl (decide (1 = j)), V.bl (decide (2 = j)), V.bl (decide (3 = j)), V.bl (decide (4 = j)), V.bl (decide (5 = j)), V.bl (decide (6 = j)), V.bl (decide (7 = j)), V.bl (decide (8 = j)), V.bl (decide (9 = j)), V.bl (decide (10 = j)), V.bl (decide (11 = j))]) := upd_same
    generalize L2.upd (L2.upd H3 p3 (.lst [V.bl (decide (9 = j)), V.bl (decide (10 = j)), V.bl (decide (11 = j))])) pq3 (.lst ([V.bl (decide (0 = j)), V.bl (decide (1 = j)), V.bl (decide (2 = j)), V.bl (decide (3 = j)), V.bl (decide (4 = j)), V.bl (decide (5 = j)), V.bl (decide (6 = j)), V.bl (decide (7 = j)), V.bl (decide (8 = j))] ++ [V.bl (decide (9 = j)), V.bl (decide (10 = j)), V.bl (decide (11 = j))])) = H4 at *
    refine ⟨_, rfl, _, rfl, a, Ax j, d, _, _, _, rfl, .own _, hx.same S4, EO.exc j hj, EO.kit j 12 hj (by decide), _, rfl, a, Ax j, d, _, _, _, rfl, .own _, hx.same S4, EO.exc j hj, EO.kit j 13 hj (by decide), _, rfl, a, Ax j, d, _, _, _, rfl, .own _, hx.same S4, EO.exc j hj, EO.kit j 14 hj (by decide), (by show 3 ≤ sizeLine; decide), fun p4 n4 => ?_⟩
    refine ⟨pq3, p4, [V.bl (decide (0 = j)), V.bl (decide (1 = j)), V.bl (decide (2 = j)), V.bl (decide (3 = j)), V.bl (decide (4 = j)), V.bl (decide (5 = j)), V.bl (decide (6 = j)), V.bl (decide (7 = j)), V.bl (decide (8 = j)), V.bl (decide (9 = j)), V.bl (decide (10 = j)), V.bl (decide (11 = j))], [V.bl (decide (12 = j)), V.bl (decide (13 = j)), V.bl (decide (14 = j))], rfl, rfl, Same.new n4 _ _ q3, upd_same, (by show 15 ≤ sizeLine; decide), fun pq4 m4 => ?_⟩
    have S5 := S4.trans ((Same.new (o := .lst [V.bl (decide (12 = j)), V.bl (decide (13 = j)), V.bl (decide (14 = j))]) n4).trans (Same.new (o := .lst ([V.bl (decide (0 = j)), V.bl (decide (1 = j)), V.bl (decide (2 = j)), V.bl (decide (3 = j)), V.bl (decide (4 = j)), V.bl (decide (5 = j)), V.bl (decide (6 = j)), V.bl (decide (7 = j)), V.bl (decide (8 = j)), V.bl (decide (9 = j)), V.bl (decide (10 = j)), V.bl (decide (11 = j))] ++ [V.bl (decide (12 = j)), V.bl (decide (13 = j)), V.bl (decide (14 = j))])) m4))
    have q4 : L2.upd (L2.upd H4 p4 (.lst [V.bl (decide (12 = j)), V.bl (decide (13 = j)), V.bl (decide (14 = j))])) pq4 (.lst ([V.bl (decide (0 = j)), V.bl (decide (1 = j)), V.bl (decide (2 = j)), V.bl (decide (3 = j)), V.bl (decide (4 = j)), V.bl (decide (5 = j)), V.bl (decide (6 = j)), V.bl (decide (7 = j)), V.bl (decide (8 = j)), V.bl (decide (9 = j)), V.bl (decide (10 = j)), V.bl (decide (11 = j))] ++ [V.bl (decide (12 = j)), V.bl (decide (13 = j)), V.bl (decide (14 = j))])) pq4 = some (.lst [V.bl (decide (0 = j)), V.bl (decide (1 = j)), V.bl (decide (2 = j)), V.bl (decide (3 = j)), V.bl (decide (4 = j)), V.bl (decide (5 = j)), V.bl (decide (6 = j)), V.bl (decide (7 = j)), V.bl (decide (8 = j)), V.bl (decide (9 = j)), V.bl (decide (10 = j)), V.bl (decide (11 = j)), V.bl (decide (12 = j)), V.bl (decide (13 = j)), V.bl (decide (14 = j))]) := upd_same
    generalize L2.upd (L2.upd H4 p4 (.lst [V.bl (decide (12 = j)), V.bl (decide (13 = j)), V.bl (decide (14 = j))])) pq4 (.lst ([V.bl (decide (0 = j)), V.bl (decide (1 = j)), V.bl (decide (2 = j)), V.bl (decide (3 = j)), V.bl (decide (4 = j)), V.bl (decide (5 = j)), V.bl (decide (6 = j)), V.bl (decide (7 = j)), V.bl (decide (8 = j)), V.bl (decide (9 = j)), V.bl (decide (10 = j)), V.bl (decide (11 = j))] ++ [V.bl (decide (12 = j)), V.bl (decide (13 = j)), V.bl (decide (14 = j))])) = H5 at *
    refine ⟨_, rfl, _, rfl, a, Ax j, d, _, _, _, rfl, .own _, hx.same S5, EO.exc j hj, EO.kit j 15 hj (by decide), _, rfl, a, Ax j, d, _, _, _, rfl, .own _, hx.same S5, EO.exc j hj, EO.kit j 16 hj (by decide), _, rfl, a, Ax j, d, _, _, _, rfl, .own _, hx.same S5, EO.exc j hj, EO.kit j 17 hj (by decide), (by show 3 ≤ sizeLine; decide), fun p5 n5 => ?_⟩
    refine ⟨pq4, p5, [V.bl (decide (0 = j)), V.bl (decide (1 = j)), V.bl (decide (2 = j)), V.bl (decide (3 = j)), V.bl (decide (4 = j)), V.bl (decide (5 = j)), V.bl (decide (6 = j)), V.bl (decide (7 = j)), V.bl (decide (8 = j)), V.bl (decide (9 = j)), V.bl (decide (10 = j)), V.bl (decide (11 = j)), V.bl (decide (12 = j)), V.bl (decide (13 = j)), V.bl (decide (14 = j))], [V.bl (decide (15 = j)), V.bl (decide (16 = j)), V.bl (decide (17 = j))], rfl, rfl, Same.new n5 _ _ q4, upd_same, (by show 18 ≤ sizeLine; decide), fun pq5 m5 => ?_⟩
    have S6 := S5.trans ((Same.new (o := .lst [V.bl (decide (15 = j)), V.bl (decide (16 = j)), V.bl (decide (17 = j))]) n5).trans (Same.new (o := .lst ([V.bl (decide (0 = j)), V.bl (decide (1 = j)), V.bl (decide (2 = j)), V.bl (decide (3 = j)), V.bl (decide (4 = j)), V.bl (decide (5 = j)), V.bl (decide (6 = j)), V.bl (decide (7 = j)), V.bl (decide (8 = j)), V.bl (decide (9 = j)), V.bl (decide (10 = j)), V.bl (decide (11 = j)), V.bl (decide (12 = j)), V.bl (decide (13 = j)), V.bl (decide (14 = j))] ++ [V.bl (decide (15 = j)), V.bl (decide (16 = j)), V.bl (decide (17 = j))])) m5))
    have q5 : L2.upd (L2.upd H5 p5 (.lst [V.bl (decide (15 = j)), V.bl (decide (16 = j)), V.bl (decide (17 = j))])) pq5 (.lst ([V.bl (decide (0 = j)), V.bl (decide (1 = j)), V.bl (decide (2 = j)), V.bl (decide (3 = j)), V.bl (decide (4 = j)), V.bl (decide (5 = j)), V.bl (decide (6 = j)), V.bl (decide (7 = j)), V.bl (decide (8 = j)), V.bl (decide (9 = j)), V.bl (decide (10 = j)), V.bl (decide (11 = j)), V.bl (decide (12 = j)), V.bl (decide (13 = j)), V.bl (decide (14 = j))] ++ [V.bl (decide (15 = j)), V.bl (decide (16 = j)), V.bl (decide (17 = j))])) pq5 = some (.lst [V.bl (decide (0 = j)), V.bl (decide (1 = j)), V.bl (decide (2 = j)), V.bl (decide (3 = j)), V.bl (decide (4 = j)), V.bl (decide (5 = j)), V.bl (decide (6 = j)), V.bl (decide (7 = j)), V.bl (decide (8 = j)), V.bl (decide (9 = j)), V.bl (decide (10 = j)), V.bl (decide (11 = j)), V.bl (decide (12 = j)), V.bl (decide (13 = j)), V.bl (decide (14 = j)), V.bl (decide (15 = j)), V.bl (decide (16 = j)), V.bl (decide (17 = j))]) := upd_same
    generalize L2.upd (L2.upd H5 p5 (.lst [V.bl (decide (15 = j)), V.bl (decide (16 = j)), V.bl (decide (17 = j))])) pq5 (.lst ([V.bl (decide (0 = j)), V.bl (decide (1 = j)), V.bl (decide (2 = j)), V.bl (decide (3 = j)), V.bl (decide (4 = j)), V.bl (decide (5 = j)), V.bl (decide (6 = j)), V.bl (decide (7 = j)), V.bl (decide (8 = j)), V.bl (decide (9 = j)), V.bl (decide (10 = j)), V.bl (decide (11 = j)), V.bl (decide (12 = j)), V.bl (decide (13 = j)), V.bl (decide (14 = j))] ++ [V.bl (decide (15 = j)), V.bl (decide (16 = j)), V.bl (decide (17 = j))])) = H6 at *
    refine ⟨_, rfl, _, rfl, a, Ax j, d, _, _, _, rfl, .own _, hx.same S6, EO.exc j hj, EO.kit j 18 hj (by decide), _, rfl, a, Ax j, d, _, _, _, rfl, .own _, hx.same S6, EO.exc j hj, EO.kit j 19 hj (by decide), _, rfl, a, Ax j, d, _, _, _, rfl, .own _, hx.same S6, EO.exc j hj, EO.kit j 20 hj (by decide), (by show 3 ≤ sizeLine; decide), fun p6 n6 => ?_⟩
    refine ⟨pq5, p6, [V.bl (decide (0 = j)), V.bl (decide (1 = j)), V.bl (decide (2 = j)), V.bl (decide (3 = j)), V.bl (decide (4 = j)), V.bl (decide (5 = j)), V.bl (decide (6 = j)), V.bl (decide (7 = j)), V.bl (decide (8 = j)), V.bl (decide (9 = j)), V.bl (decide (10 = j)), V.bl (decide (11 = j)), V.bl (decide (12 = j)), V.bl (decide (13 = j)), V.bl (decide (14 = j)), V.bl (decide (15 = j)), V.bl (decide (16 = j)), V.bl (decide (17 = j))], [V.bl (decide (18 = j)), V.bl (decide (19 = j)), V.bl (decide (20 = j))], rfl, rfl, Same.new n6 _ _ q5, upd_same, (by show 21 ≤ sizeLine; decide), fun pq6 m6 => ?_⟩
    have S7 := S6.trans ((Same.new (o := .lst [V.bl (decide (18 = j)), V.bl (decide (19 = j)), V.bl (decide (20 = j))]) n6).trans (Same.new (o := .lst ([V.bl (decide (0 = j)), V.bl (decide (1 = j)), V.bl (decide (2 = j)), V.bl (decide (3 = j)), V.bl (decide (4 = j)), V.bl (decide (5 = j)), V.bl (decide (6 = j)), V.bl (decide (7 = j)), V.bl (decide (8 = j)), V.bl (decide (9 = j)), V.bl (decide (10 = j)), V.bl (decide (11 = j)), V.bl (decide (12 = j)), V.bl (decide (13 = j)), V.bl (decide (14 = j)), V.bl (decide (15 = j)), V.bl (decide (16 = j)), V.bl (decide (17 = j))] ++ [V.bl (decide (18 = j)), V.bl (decide (19 = j)), V.bl (decide (20 = j))])) m6))
    have q6 : L2.upd (L2.upd H6 p6 (.lst [V.bl (decide (18 = j)), V.bl (decide (19 = j)), V.bl (decide (20 = j))])) pq6 (.lst ([V.bl (decide (0 = j)), V.bl (decide (1 = j)), V.bl (decide (2 = j)), V.bl (decide (3 = j)), V.bl (decide (4 = j)), V.bl (decide (5 = j)), V.bl (decide (6 = j)), V.bl (decide (7 = j)), V.bl (decide (8 = j)), V.bl (decide (9 = j)), V.bl (decide (10 = j)), V.bl (decide (11 = j)), V.bl (decide (12 = j)), V.bl (decide (13 = j)), V.bl (decide (14 = j)), V.bl (decide (15 = j)), V.bl (decide (16 = j)), V.bl (decide (17 = j))] ++ [V.bl (decide (18 = j)), V.bl (decide (19 = j)), V.bl (decide (20 = j))])) pq6 = some (.lst [V.bl (decide (0 = j)), V.bl (decide (1 = j)), V.bl (decide (2 = j)), V.bl (decide (3 = j)), V.bl (decide (4 = j)), V.bl (decide (5 = j)), V.bl (decide (6 = j)), V.bl (decide (7 = j)), V.bl (decide (8 = j)), V.bl (decide (9 = j)), V.bl (decide (10 = j)), V.bl (decide (11 = j)), V.bl (decide (12 = j)), V.bl (decide (13 = j)), V.bl (decide (14 = j)), V.bl (decide (15 = j)), V.bl (decide (16 = j)), V.bl (decide (17 = j)), V.bl (decide (18 = j)), V.bl (decide (19 = j)), V.bl (decide (20 = j))]) := upd_same
    generalize L2.upd (L2.upd H6 p6 (.lst [V.bl (decide (18 = j)), V.bl (decide (19 = j)), V.bl (decide (20 = j))])) pq6 (.lst ([V.bl (decide (0 = j)), V.bl (decide (1 = j)), V.bl (decide (2 = j)), V.bl (decide (3 = j)), V.bl (decide (4 = j)), V.bl (decide (5 = j)), V.bl (decide (6 = j)), V.bl (decide (7 = j)), V.bl (decide (8 = j)), V.bl (decide (9 = j)), V.bl (decide (10 = j)), V.bl (decide (11 = j)), V.bl (decide (12 = j)), V.bl (decide (13 = j)), V.bl (decide (14 = j)), V.bl (decide (15 = j)), V.bl (decide (16 = j)), V.bl (decide (17 = j))] ++ [V.bl (decide (18 = j)), V.bl (decide (19 = j)), V.bl (decide (20 = j))])) = H7 at *
    refine ⟨_, rfl, _, rfl, a, Ax j, d, _, _, _, rfl, .own _, hx.same S7, EO.exc j hj, EO.kit j 21 hj (by decide), _, rfl, a, Ax j, d, _, _, _, rfl, .own _, hx.same S7, EO.exc j hj, EO.kit j 22 hj (by decide), _, rfl, a, Ax j, d, _, _, _, rfl, .own _, hx.same S7, EO.exc j hj, EO.kit j 23 hj (by decide), (by show 3 ≤ sizeLine; decide), fun p7 n7 => ?_⟩
    refine ⟨pq6, p7, [V.bl (decide (0 = j)), V.bl (decide (1 = j)), V.bl (decide (2 = j)), V.bl (decide (3 = j)), V.bl (decide (4 = j)), V.bl (decide (5 = j)), V.bl (decide (6 = j)), V.bl (decide (7 = j)), V.bl (decide (8 = j)), V.bl (decide (9 = j)), V.bl (decide (10 = j)), V.bl (decide (11 = j)), V.bl (decide (12 = j)), V.bl (decide (13 = j)), V.bl (decide (14 = j)), V.bl (decide (15 = j)), V.bl (decide (16 = j)), V.bl (decide (17 = j)), V.bl (decide (18 = j)), V.bl (decide (19 = j)), V.bl (decide (20 = j))], [V.bl (decide (21 = j)), V.bl (decide (22 = j)), V.bl (decide (23 = j))], rfl, rfl, Same.new n7 _ _ q6, upd_same, (by show 24 ≤ sizeLine; decide), fun pq7 m7 => ?_⟩
    have S8 := S7.trans ((Same.new (o := .lst [V.bl (decide (21 = j)), V.bl (decide (22 = j)), V.bl (decide (23 = j))]) n7).trans (Same.new (o := .lst ([V.bl (decide (0 = j)), V.bl (decide (1 = j)), V.bl (decide (2 = j)), V.bl (decide (3 = j)), V.bl (decide (4 = j)), V.bl (decide (5 = j)), V.bl (decide (6 = j)), V.bl (decide (7 = j)), V.bl (decide (8 = j)), V.bl (decide (9 = j)), V.bl (decide (10 = j)), V.bl (decide (11 = j)), V.bl (decide (12 = j)), V.bl (decide (13 = j)), V.bl (decide (14 = j)), V.bl (decide (15 = j)), V.bl (decide (16 = j)), V.bl (decide (17 = j)), V.bl (decide (18 = j)), V.bl (decide (19 = j)), V.bl (decide (20 = j))] ++ [V.bl (decide (21 = j)), V.bl (decide (22 = j)), V.bl (decide (23 = j))])) m7))
    have q7 : L2.upd (L2.upd H7 p7 (.lst [V.bl (decide (21 = j)), V.bl (decide (22 = j)), V.bl (decide (23 = j))])) pq7 (.lst ([V.bl (decide (0 = j)), V.bl (decide (1 = j)), V.bl (decide (2 = j)), V.bl (decide (3 = j)), V.bl (decide (4 = j)), V.bl (decide (5 = j)), V.bl (decide (6 = j)), V.bl (decide (7 = j)), V.bl (decide (8 = j)), V.bl (decide (9 = j)), V.bl (decide (10 = j)), V.bl (decide (11 = j)), V.bl (decide (12 = j)), V.bl (decide (13 = j)), V.bl (decide (14 = j)), V.bl (decide (15 = j)), V.bl (decide (16 = j)), V.bl (decide (17 = j)), V.bl (decide (18 = j)), V.bl (decide (19 = j)), V.bl (decide (20 = j))] ++ [V.bl (decide (21 = j)), V.bl (decide (22 = j)), V.bl (decide (23 = j))])) pq7 = some (.lst [V.bl (decide (0 = j)), V.bl (decide (1 = j)), V.bl (decide (2 = j)), V.bl (decide (3 = j)), V.bl (decide (4 = j)), V.bl (decide (5 = j)), V.bl (decide (6 = j)), V.bl (decide (7 = j)), V.bl (decide (8 = j)), V.bl (decide (9 = j)), V.bl (decide (10 = j)), V.bl (decide (11 = j)), V.bl (decide (12 = j)), V.bl (decide (13 = j)), V.bl (decide (14 = j)), V.bl (decide (15 = j)), V.bl (decide (16 = j)), V.bl (decide (17 = j)), V.bl (decide (18 = j)), V.bl (decide (19 = j)), V.bl (decide (20 = j)), V.bl (decide (21 = j)), V.bl (decide (22 = j)), V.bl (decide (23 = j))]) := upd_same
    generalize L2.upd (L2.upd H7 p7 (.lst [V.bl (decide (21 = j)), V.bl (decide (22 = j)), V.bl (decide (23 = j))])) pq7 (.lst ([V.bl (decide (0 = j)), V.bl (decide (1 = j)), V.bl (decide (2 = j)), V.bl (decide (3 = j)), V.bl (decide (4 = j)), V.bl (decide (5 = j)), V.bl (decide (6 = j)), V.bl (decide (7 = j)), V.bl (decide (8 = j)), V.bl (decide (9 = j)), V.bl (decide (10 = j)), V.bl (decide (11 = j)), V.bl (decide (12 = j)), V.bl (decide (13 = j)), V.bl (decide (14 = j)), V.bl (decide (15 = j)), V.bl (decide (16 = j)), V.bl (decide (17 = j)), V.bl (decide (18 = j)), V.bl (decide (19 = j)), V.bl (decide (20 = j))] ++ [V.bl (decide (21 = j)), V.bl (decide (22 = j)), V.bl (decide (23 = j))])) = H8 at *
    exact k _ _ S8 q7
abbrev nsLawAbove : List Str := ["error", "found"]
theorem scLawAbove : FnScope nsLawAbove ["error"] (defScope sLawAbove) := ⟨rfl, rfl, rfl, by decide +kernel, rfl, by decide +kernel, by decide +kernel⟩
theorem ok_law_above {f : Addr} {fd : FuncData} (F : Df K mg "_law_above" sLawAbove ["error"] f fd)
    {Ax : Nat → Addr} (EO : ErrOk K mg Ax) (T : Bt mg) : FnOk P w K mg base CX0 1 f fd ["error"] (spAbove Ax) := by
  refine F.F.ok scLawAbove (fun vs H Q E h => ?_) (fun cdv A outer s H vs Q E hr h => ?_)
  · obtain ⟨a, d, j, rfl, _⟩ := h
    rfl
  · obtain ⟨a, d, j, rfl, hj, hx, k⟩ := h
    refine ⟨_, (pss_cons (ps_set (i := 1) scLawAbove.nd rfl (Or.inl rfl) (pe_lst (pa_cons (pe_callB call_isX (by rfl) T.isinstance (by decide +kernel) (pa_cons (pv 0) (pa_cons (pe_nS EO (by rfl)) pa_nil))) (pa_cons (pe_callB call_isX (by rfl) T.isinstance (by decide +kernel) (pa_cons (pv 0) (pa_cons (pe_bltn (v := .ty "ValueError") (by rfl) EO.mV (by decide +kernel) rfl) pa_nil))) (pa_cons (pe_callB call_isX (by rfl) T.isinstance (by decide +kernel) (pa_cons (pv 0) (pa_cons (pe_bltn (v := .ty "OverflowError") (by rfl) EO.mO (by decide +kernel) rfl) pa_nil))) pa_nil)))))
      (pss_one (ps_ret (pe_op op_cat (pv 1) (pe_lst (pa_cons (pe_callB call_isX (by rfl) T.isinstance (by decide +kernel) (pa_cons (pv 0) (pa_cons (pe_bltn (v := .ty "RuntimeError") (by rfl) EO.mR (by decide +kernel) rfl) pa_nil))) (pa_cons (pe_callB call_isX (by rfl) T.isinstance (by decide +kernel) (pa_cons (pv 0) (pa_cons (pe_bltn (v := .ty "KeyError") (by rfl) EO.mK (by decide +kernel) rfl) pa_nil))) pa_nil))))))), ?_⟩
    refine ⟨_, rfl, a, Ax j, d, _, _, _, rfl, .own _, hx, EO.exc j hj, EO.kS j hj, _, rfl, a, Ax j, d, _, _, _, rfl, .ty _, hx, EO.exc j hj, EO.kV j hj, _, rfl, a, Ax j, d, _, _, _, rfl, .ty _, hx, EO.exc j hj, EO.kO j hj, (by show 3 ≤ sizeLine; decide), fun p0 n0 => ?_⟩
    have S1 := Same.new (o := .lst [V.bl (decide (j < 21 ∨ j = 24)), V.bl (decide (j < 21 ∨ j = 24)), V.bl (decide (j = 21))]) n0
    have q0 : L2.upd H p0 (.lst [V.bl (decide (j < 21 ∨ j = 24)), V.bl (decide (j < 21 ∨ j = 24)), V.bl (decide (j = 21))]) p0 = some (.lst [V.bl (decide (j < 21 ∨ j = 24)), V.bl (decide (j < 21 ∨ j = 24)), V.bl (decide (j = 21))]) := upd_same
    generalize L2.upd H p0 (.lst [V.bl (decide (j < 21 ∨ j = 24)), V.bl (decide (j < 21 ∨ j = 24)), V.bl (decide (j = 21))]) = H1 at *
    refine ⟨_, rfl, _, rfl, a, Ax j, d, _, _, _, rfl, .ty _, hx.same S1, EO.exc j hj, EO.kR j hj, _, rfl, a, Ax j, d, _, _, _, rfl, .ty _, hx.same S1, EO.exc j hj, EO.kK j hj, (by show 2 ≤ sizeLine; decide), fun p1 n1 => ?_⟩
    refine ⟨p0, p1, _, _, rfl, rfl, Same.new n1 _ _ q0, upd_same, (by show 5 ≤ sizeLine; decide), fun p2 n2 => ?_⟩
    exact k _ _ (S1.trans ((Same.new n1).trans (Same.new n2))) upd_same
end
end CS
set_option Elab.async false
set_option maxRecDepth 100000
set_option maxHeartbeats 8000000
set_option linter.unusedVariables false
set_option pp.maxSteps 9000
/-! _law_sorts within a suite; the errors given a thing -/
namespace CS
open PySem PySem.Spec PyProof.Rows L2
section
variable {P : Program} {w : World} {K : PySem.W.Frag} {mg : Str → Option Value} {base : Heap}
theorem ExL.snoc {H : Hp} {as : List Addr} {ps : List (Addr × List (Str × V))} {a C : Addr} {fs : List (Str × V)} (e : ExL H as ps) (x : ExVal H a C fs) : ExL H (as ++ [a]) (ps ++ [(C, fs)]) := Paired.snoc (F := fun a (p : Addr × List (Str × V)) => ExVal H a p.1 p.2) (b := (C, fs)) x e
theorem oks_law_sorts {f : Addr} {fd : FuncData} (F : Df K mg "_law_sorts" sLawSorts ["error"] f fd)
    {Ax : Nat → Addr} (EO : ErrOk K mg Ax) (T : Bt mg) : FnS P w K mg base 1 f fd ["error"] (spSorts Ax) := by
  refine FnS.of_body F.F scLawSorts (fun pn vs H Q E h => ?_) (fun cdv A outer s H vs Q p hr h => ?_)
  · obtain ⟨a, d, j, rfl, _⟩ := h
    rfl
  · obtain ⟨a, d, j, rfl, hj, hx, k⟩ := h
    refine ⟨_, (pss_cons (ps_set (i := 1) scLawSorts.nd rfl (Or.inl rfl) (pe_lst (pa_cons (pe_callB call_isX (by rfl) T.isinstance (by decide +kernel) (pa_cons (pv 0) (pa_cons (pe_n0 EO (by rfl)) pa_nil))) (pa_cons (pe_callB call_isX (by rfl) T.isinstance (by decide +kernel) (pa_cons (pv 0) (pa_cons (pe_n1 EO (by rfl)) pa_nil))) (pa_cons (pe_callB call_isX (by rfl) T.isinstance (by decide +kernel) (pa_cons (pv 0) (pa_cons (pe_n2 EO (by rfl)) pa_nil))) pa_nil)))))
      (pss_cons (ps_set (i := 1) scLawSorts.nd rfl (Or.inl rfl) (pe_op op_cat (pv 1) (pe_lst (pa_cons (pe_callB call_isX (by rfl) T.isinstance (by decide +kernel) (pa_cons (pv 0) (pa_cons (pe_n3 EO (by rfl)) pa_nil))) (pa_cons (pe_callB call_isX (by rfl) T.isinstance (by decide +kernel) (pa_cons (pv 0) (pa_cons (pe_n4 EO (by rfl)) pa_nil))) (pa_cons (pe_callB call_isX (by rfl) T.isinstance (by decide +kernel) (pa_cons (pv 0) (pa_cons (pe_n5 EO (by rfl)) pa_nil))) pa_nil))))))
      (pss_cons (ps_set (i := 1) scLawSorts.nd rfl (Or.inl rfl) (pe_op op_cat (pv 1) (pe_lst (pa_cons (pe_callB call_isX (by rfl) T.isinstance (by decide +kernel) (pa_cons (pv 0) (pa_cons (pe_n6 EO (by rfl)) pa_nil))) (pa_cons (pe_callB call_isX (by rfl) T.isinstance (by decide +kernel) (pa_cons (pv 0) (pa_cons (pe_n7 EO (by rfl)) pa_nil))) (pa_cons (pe_callB call_isX (by rfl) T.isinstance (by decide +kernel) (pa_cons (pv 0) (pa_cons (pe_n8 EO (by rfl)) pa_nil))) pa_nil))))))
      (pss_cons (ps_set (i := 1) scLawSorts.nd rfl (Or.inl rfl) (pe_op op_cat (pv 1) (pe_lst (pa_cons (pe_callB call_isX (by rfl) T.isinstance (by decide +kernel) (pa_cons (pv 0) (pa_cons (pe_n9 EO (by rfl)) pa_nil))) (pa_cons (pe_callB call_isX (by rfl) T.isinstance (by decide +kernel) (pa_cons (pv 0) (pa_cons (pe_n10 EO (by rfl)) pa_nil))) (pa_cons (pe_callB call_isX (by rfl) T.isinstance (by decide +kernel) (pa_cons (pv 0) (pa_cons (pe_n11 EO (by rfl)) pa_nil))) pa_nil))))))
      (pss_cons (ps_set (i := 1) scLawSorts.nd rfl (Or.inl rfl) (pe_op op_cat (pv 1) (pe_lst (pa_cons (pe_callB call_isX (by rfl) T.isinstance (by decide +kernel) (pa_cons (pv 0) (pa_cons (pe_n12 EO (by rfl)) pa_nil))) (pa_cons (pe_callB call_isX (by rfl) T.isinstance (by decide +kernel) (pa_cons (pv 0) (pa_cons (pe_n13 EO (by rfl)) pa_nil))) (pa_cons (pe_callB call_isX (by rfl) T.isinstance (by decide +kernel) (pa_cons (pv 0) (pa_cons (pe_n14 EO (by rfl)) pa_nil))) pa_nil))))))
      (pss_cons (ps_set (i := 1) scLawSorts.nd rfl (Or.inl rfl) (pe_op op_cat (pv 1) (pe_lst (pa_cons (pe_callB call_isX (by rfl) T.isinstance (by decide +kernel) (pa_cons (pv 0) (pa_cons (pe_n15 EO (by rfl)) pa_nil))) (pa_cons (pe_callB call_isX (by rfl) T.isinstance (by decide +kernel) (pa_cons (pv 0) (pa_cons (pe_n16 EO (by rfl)) pa_nil))) (pa_cons (pe_callB call_isX (by rfl) T.isinstance (by decide +kernel) (pa_cons (pv 0) (pa_cons (pe_n17 EO (by rfl)) pa_nil))) pa_nil))))))
      (pss_cons (ps_set (i := 1) scLawSorts.nd rfl (Or.inl rfl) (pe_op op_cat (pv 1) (pe_lst (pa_cons (pe_callB call_isX (by rfl) T.isinstance (by decide +kernel) (pa_cons (pv 0) (pa_cons (pe_n18 EO (by rfl)) pa_nil))) (pa_cons (pe_callB call_isX (by rfl) T.isinstance (by decide +kernel) (pa_cons (pv 0) (pa_cons (pe_n19 EO (by rfl)) pa_nil))) (pa_cons (pe_callB call_isX (by rfl) T.isinstance (by decide +kernel) (pa_cons (pv 0) (pa_cons (pe_n20 EO (by rfl)) pa_nil))) pa_nil))))))
      (pss_one (ps_ret (pe_op op_cat (pv 1) (pe_lst (pa_cons (pe_callB call_isX (by rfl) T.isinstance (by decide +kernel) (pa_cons (pv 0) (pa_cons (pe_n21 EO (by rfl)) pa_nil))) (pa_cons (pe_callB call_isX (by rfl) T.isinstance (by decide +kernel) (pa_cons (pv 0) (pa_cons (pe_n22 EO (by rfl)) pa_nil))) (pa_cons (pe_callB call_isX (by rfl) T.isinstance (by decide +kernel) (pa_cons (pv 0) (pa_cons (pe_n23 EO (by rfl)) pa_nil))) pa_nil)))))))))))))), ?_⟩
    have S0 : Same H H := Same.refl H
    refine ⟨_, rfl, a, Ax j, d, _, _, _, rfl, .own _, hx.same S0, EO.exc j hj, EO.kit j 0 hj (by decide), _, rfl, a, Ax j, d, _, _, _, rfl, .own _, hx.same S0, EO.exc j hj, EO.kit j 1 hj (by decide), _, rfl, a, Ax j, d, _, _, _, rfl, .own _, hx.same S0, EO.exc j hj, EO.kit j 2 hj (by decide), (by show 3 ≤ sizeLine; decide), fun p0 n0 => ?_⟩
    have T0 := Same.new (o := .lst [V.bl (decide (0 = j)), V.bl (decide (1 = j)), V.bl (decide (2 = j))]) n0
    have l0 : L2.upd H p0 (.lst [V.bl (decide (0 = j)), V.bl (decide (1 = j)), V.bl (decide (2 = j))]) p0 = some (.lst [V.bl (decide (0 = j)), V.bl (decide (1 = j)), V.bl (decide (2 = j))]) := upd_same
    have S1 : Same H (L2.upd H p0 (.lst [V.bl (decide (0 = j)), V.bl (decide (1 = j)), V.bl (decide (2 = j))])) := T0
    generalize L2.upd H p0 (.lst [V.bl (decide (0 = j)), V.bl (decide (1 = j)), V.bl (decide (2 = j))]) = H1 at *
    have q0 : H1 p0 = some (.lst [V.bl (decide (0 = j)), V.bl (decide (1 = j)), V.bl (decide (2 = j))]) := l0
    refine ⟨_, rfl, _, rfl, a, Ax j, d, _, _, _, rfl, .own _, hx.same S1, EO.exc j hj, EO.kit j 3 hj (by decide), _, rfl, a, Ax j, d, _, _, _, rfl, .own _, hx.same S1, EO.exc j hj, EO.kit j 4 hj (by decide), _, rfl, a, Ax j, d, _, _, _, rfl, .own _, hx.same S1, EO.exc j hj, EO.kit j 5 hj (by decide), (by show 3 ≤ sizeLine; decide), fun p1 n1 => ?_⟩
    refine ⟨p0, p1, [V.bl (decide (0 = j)), V.bl (decide (1 = j)), V.bl (decide (2 = j))], [V.bl (decide (3 = j)), V.bl (decide (4 = j)), V.bl (decide (5 = j))], rfl, rfl, Same.new n1 _ _ q0, upd_same, (by show 6 ≤ sizeLine; decide), fun pq1 m1 => ?_⟩
    have S2 := S1.trans ((Same.new (o := .lst [V.bl (decide (3 = j)), V.bl (decide (4 = j)), V.bl (decide (5 = j))]) n1).trans (Same.new (o := .lst ([V.bl (decide (0 = j)), V.bl (decide (1 = j)), V.bl (decide (2 = j))] ++ [V.bl (decide (3 = j)), V.bl (decide (4 = j)), V.bl (decide (5 = j))])) m1))
    have q1 : L2.upd (L2.upd H1 p1 (.lst [V.bl (decide (3 = j)), V.bl (decide (4 = j)), V.bl (decide (5 = j))])) pq1 (.lst ([V.bl (decide (0 = j)), V.bl (decide (1 = j)), V.bl (decide (2 = j))] ++ [V.bl (decide (3 = j)), V.bl (decide (4 = j)), V.bl (decide (5 = j))])) pq1 = some (.lst [V.bl (decide (0 = j)), V.bl (decide (1 = j)), V.bl (decide (2 = j)), V.bl (decide (3 = j)), V.bl (decide (4 = j)), V.bl (decide (5 = j))]) := upd_same
    generalize L2.upd (L2.upd H1 p1 (.lst [V.bl (decide (3 = j)), V.bl (decide (4 = j)), V.bl (decide (5 = j))])) pq1 (.lst ([V.bl (decide (0 = j)), V.bl (decide (1 = j)), V.bl (decide (2 = j))] ++ [V.bl (decide (3 = j)), V.bl (decide (4 = j)), V.bl (decide (5 = j))])) = H2 at *
    refine ⟨_, rfl, _, rfl, a, Ax j, d, _, _, _, rfl, .own _, hx.same S2, EO.exc j hj, EO.kit j 6 hj (by decide), _, rfl, a, Ax j, d, _, _, _, rfl, .own _, hx.same S2, EO.exc j hj, EO.kit j 7 hj (by decide), _, rfl, a, Ax j, d, _, _, _, rfl, .own _, hx.same S2, EO.exc j hj, EO.kit j 8 hj (by decide), (by show 3 ≤ sizeLine; decide), fun p2 n2 => ?_⟩
    refine ⟨pq1, p2, [V.bl (decide (0 = j)), V.bl (decide (1 = j)), V.bl (decide (2 = j)), V.bl (decide (3 = j)), V.bl (decide (4 = j)), V.bl (decide (5 = j))], [V.bl (decide (6 = j)), V.bl (decide (7 = j)), V.bl (decide (8 = j))], rfl, rfl, Same.new n2 _ _ q1, upd_same, (by show 9 ≤ sizeLine; decide), fun pq2 m2 => ?_⟩
    have S3 := S2.trans ((Same.new (o := .lst [V.bl (decide (6 = j)), V.bl (decide (7 = j)), V.bl (decide (8 = j))]) n2).trans (Same.new (o := .lst ([V.bl (decide (0 = j)), V.bl (decide (1 = j)), V.bl (decide (2 = j)), V.bl (decide (3 = j)), V.bl (decide (4 = j)), V.bl (decide (5 = j))] ++ [V.bl (decide (6 = j)), V.bl (decide (7 = j)), V.bl (decide (8 = j))])) m2))
    have q2 : L2.upd (L2.upd H2 p2 (.lst [V.bl (decide (6 = j)), V.bl (decide (7 = j)), V.bl (decide (8 = j))])) pq2 (.lst ([V.bl (decide (0 = j)), V.bl (decide (1 = j)), V.bl (decide (2 = j)), V.bl (decide (3 = j)), V.bl (decide (4 = j)), V.bl (decide (5 = j))] ++ [V.bl (decide (6 = j)), V.bl (decide (7 = j)), V.bl (decide (8 = j))])) pq2 = some (.lst [V.bl (decide (0 = j)), V.bl (decide (1 = j)), V.bl (decide (2 = j)), V.bl (decide (3 = j)), V.bl (decide (4 = j)), V.bl (decide (5 = j)), V.bl (decide (6 = j)), V.bl (decide (7 = j)), V.bl (decide (8 = j))]) := upd_same
    generalize L2.upd (L2.upd H2 p2 (.lst [V.bl (decide (6 = j)), V.bl (decide (7 = j)), V.bl (decide (8 = j))])) pq2 (.lst ([V.bl (decide (0 = j)), V.bl (decide (1 = j)), V.bl (decide (2 = j)), V.bl (decide (3 = j)), V.bl (decide (4 = j)), V.bl (decide (5 = j))] ++ [V.bl (decide (6 = j)), V.bl (decide (7 = j)), V.bl (decide (8 = j))])) = H3 at *
    refine ⟨_, rfl, _, rfl, a, Ax j, d, _, _, _, rfl, .own _, hx.same S3, EO.exc j hj, EO.kit j 9 hj (by decide), _, rfl, a, Ax j, d, _, _, _, rfl, .own _, hx.same S3, EO.exc j hj, EO.kit j 10 hj (by decide), _, rfl, a, Ax j, d, _, _, _, rfl, .own _, hx.same S3, EO.exc j hj, EO.kit j 11 hj (by decide), (by show 3 ≤ sizeLine; decide), fun p3 n3 => ?_⟩
    refine ⟨pq2, p3, [V.bl (decide (0 = j)), V.bl (decide (1 = j)), V.bl (decide (2 = j)), V.bl (decide (3 = j)), V.bl (decide (4 = j)), V.bl (decide (5 = j)), V.bl (decide (6 = j)), V.bl (decide (7 = j)), V.bl (decide (8 = j))], [V.bl (decide (9 = j)), V.bl (decide (10 = j)), V.bl (decide (11 = j))], rfl, rfl, Same.new n3 _ _ q2, upd_same, (by show 12 ≤ sizeLine; decide), fun pq3 m3 => ?_⟩
    have S4 := S3.trans ((Same.new (o := .lst [V.bl (decide (9 = j)), V.bl (decide (10 = j)), V.bl (decide (11 = j))]) n3).trans (Same.new (o := .lst ([V.bl (decide (0 = j)), V.bl (decide (1 = j)), V.bl (decide (2 = j)), V.bl (decide (3 = j)), V.bl (decide (4 = j)), V.bl (decide (5 = j)), V.bl (decide (6 = j)), V.bl (decide (7 = j)), V.bl (decide (8 = j))] ++ [V.bl (decide (9 = j)), V.bl (decide (10 = j)), V.bl (decide (11 = j))])) m3))
    have q3 : L2.upd (L2.upd H3 p3 (.lst [V.bl (decide (9 = j)), V.bl (decide (10 = j)), V.bl (decide (11 = j))])) pq3 (.lst ([V.bl (decide (0 = j)), V.bl (decide (1 = j)), V.bl (decide (2 = j)), V.bl (decide (3 = j)), V.bl (decide (4 = j)), V.bl (decide (5 = j)), V.bl (decide (6 = j)), V.bl (decide (7 = j)), V.bl (decide (8 = j))] ++ [V.bl (decide (9 = j)), V.bl (decide (10 = j)), V.bl (decide (11 = j))])) pq3 = some (.lst [V.bl (decide (0 = j)), V.bl (decide (1 = j)), V.bl (decide (2 = j)), V.bl (decide (3 = j)), V.bl (decide (4 = j)), V.bl (decide (5 = j)), V.bl (decide (6 = j)), V.bl (decide (7 = j)), V.bl (decide (8 = j)), V.bl (decide (9 = j)), V.bl (decide (10 = j)), V.bl (decide (11 = j))]) := upd_same
    generalize L2.upd (L2.upd H3 p3 (.lst [V.bl (decide (9 = j)), V.bl (decide (10 = j)), V.bl (decide (11 = j))])) pq3 (.lst ([V.bl (decide (0 = j)), V.bl (decide (1 = j)), V.bl (decide (2 = j)), V.bl (decide (3 = j)), V.bl (decide (4 = j)), V.bl (decide (5 = j)), V.bl (decide (6 = j)), V.bl (decide (7 = j)), V.bl (decide (8 = j))] ++ [V.bl (decide (9 = j)), V.bl (decide (10 = j)), V.bl (decide (11 = j))])) = H4 at *
    refine ⟨_, rfl, _, rfl, a, Ax j, d, _, _, _, rfl, .own _, hx.same S4, EO.exc j hj, EO.kit j 12 hj (by decide), _, rfl, a, Ax j, d, _, _, _, rfl, .own _, hx.same S4, EO.exc j hj, EO.kit j 13 hj (by decide), _, rfl, a, Ax j, d, _, _, _, rfl, .own _, hx.same S4, EO.exc j hj, EO.kit j 14 hj (by decide), (by show 3 ≤ sizeLine; decide), fun p4 n4 => ?_⟩
    refine ⟨pq3, p4, [V.bl (decide (0 = j)), V.bl (decide (1 = j)), V.bl (decide (2 = j)), V.bl (decide (3 = j)), V.bl (decide (4 = j)), V.bl (decide (5 = j)), V.bl (decide (6 = j)), V.bl (decide (7 = j)), V.bl (decide (8 = j)), V.bl (decide (9 = j)), V.bl (decide (10 = j)), V.bl (decide (11 = j))], [V.bl (decide (12 = j)), V.bl (decide (13 = j)), V.bl (decide (14 = j))], rfl, rfl, Same.new n4 _ _ q3, upd_same, (by show 15 ≤ sizeLine; decide), fun pq4 m4 => ?_⟩
    have S5 := S4.trans ((Same.new (o := .lst [V.bl (decide (12 = j)), V.bl (decide (13 = j)), V.bl (decide (14 = j))]) n4).trans (Same.new (o := .lst ([V.bl (decide (0 = j)), V.bl (decide (1 = j)), V.bl (decide (2 = j)), V.bl (decide (3 = j)), V.bl (decide (4 = j)), V.bl (decide (5 = j)), V.bl (decide (6 = j)), V.bl (decide (7 = j)), V.bl (decide (8 = j)), V.bl (decide (9 = j)), V.bl (decide (10 = j)), V.bl (decide (11 = j))] ++ [V.bl (decide (12 = j)), V.bl (decide (13 = j)), V.bl (decide (14 = j))])) m4))
    have q4 : L2.upd (L2.upd H4 p4 (.lst [V.bl (decide (12 = j)), V.bl (decide (13 = j)), V.bl (decide (14 = j))])) pq4 (.lst ([V.bl (decide (0 = j)), V.bl (decide (1 = j)), V.bl (decide (2 = j)), V.bl (decide (3 = j)), V.bl (decide (4 = j)), V.bl (decide (5 = j)), V.bl (decide (6 = j)), V.bl (decide (7 = j)), V.bl (decide (8 = j)), V.bl (decide (9 = j)), V.bl (decide (10 = j)), V.bl (decide (11 = j))] ++ [V.bl (decide (12 = j)), V.bl (decide (13 = j)), V.bl (decide (14 = j))])) pq4 = some (.lst [V.bl (decide (0 = j)), V.bl (decide (1 = j)), V.bl (decide (2 = j)), V.bl (decide (3 = j)), V.bl (decide (4 = j)), V.bl (decide (5 = j)), V.bl (decide (6 = j)), V.bl (decide (7 = j)), V.bl (decide (8 = j)), V.bl (decide (9 = j)), V.bl (decide (10 = j)), V.bl (decide (11 = j)), V.bl (decide (12 = j)), V.bl (decide (13 = j)), V.bl (decide (14 = j))]) := upd_same
    generalize L2.upd (L2.upd H4 p4 (.lst [V.bl (decide (12 = j)), V.bl (decide (13 = j)), V.bl (decide (14 = j))])) pq4 (.lst ([V.bl (decide (0 = j)), V.bl (decide (1 = j)), V.bl (decide (2 = j)), V.bl (decide (3 = j)), V.bl (decide (4 = j)), V.bl (decide (5 = j)), V.bl (decide (6 = j)), V.bl (decide (7 = j)), V.bl (decide (8 = j)), V.bl (decide (9 = j)), V.bl (decide (10 = j)), V.bl (decide (11 = j))] ++ [V.bl (decide (12 = j)), V.bl (decide (13 = j)), V.bl (decide (14 = j))])) = H5 at *
    refine ⟨_, rfl, _, rfl, a, Ax j, d, _, _, _, rfl, .own _, hx.same S5, EO.exc j hj, EO.kit j 15 hj (by decide), _, rfl, a, Ax j, d, _, _, _, rfl, .own _, hx.same S5, EO.exc j hj, EO.kit j 16 hj (by decide), _, rfl, a, Ax j, d, _, _, _, rfl, .own _, hx.same S5, EO.exc j hj, EO.kit j 17 hj (by decide), (by show 3 ≤ sizeLine; decide), fun p5 n5 => ?_⟩
    refine ⟨pq4, p5, [V.bl (decide (0 = j)), V.bl (decide (1 = j)), V.bl (decide (2 = j)), V.bl (decide (3 = j)), V.bl (decide (4 = j)), V.bl (decide (5 = j)), V.bl (decide (6 = j)), V.bl (decide (7 = j)), V.bl (decide (8 = j)), V.bl (decide (9 = j)), V.bl (decide (10 = j)), V.bl (decide (11 = j)), V.bl (decide (12 = j)), V.bl (decide (13 = j)), V.bl (decide (14 = j))], [V.bl (decide (15 = j)), V.bl (decide (16 = j)), V.bl (decide (17 = j))], rfl, rfl, Same.new n5 _ _ q4, upd_same, (by show 18 ≤ sizeLine; decide), fun pq5 m5 => ?_⟩
    have S6 := S5.trans ((Same.new (o := .lst [V.bl (decide (15 = j)), V.bl (decide (16 = j)), V.bl (decide (17 = j))]) n5).trans (Same.new (o := .lst ([V.bl (decide (0 = j)), V.bl (decide (1 = j)), V.bl (decide (2 = j)), V.bl (decide (3 = j)), V.bl (decide (4 = j)), V.bl (decide (5 = j)), V.bl (decide (6 = j)), V.bl (decide (7 = j)), V.bl (decide (8 = j)), V.bl (decide (9 = j)), V.bl (decide (10 = j)), V.bl (decide (11 = j)), V.bl (decide (12 = j)), V.bl (decide (13 = j)), V.bl (decide (14 = j))] ++ [V.bl (decide (15 = j)), V.bl (decide (16 = j)), V.bl (decide (17 = j))])) m5))
    have q5 : L2.upd (L2.upd H5 p5 (.lst [V.bl (decide (15 = j)), V.bl (decide (16 = j)), V.bl (decide (17 = j))])) pq5 (.lst ([V.bl (decide (0 = j)), V.bl (decide (1 = j)), V.bl (decide (2 = j)), V.bl (decide (3 = j)), V.bl (decide (4 = j)), V.bl (decide (5 = j)), V.bl (decide (6 = j)), V.bl (decide (7 = j)), V.bl (decide (8 = j)), V.bl (decide (9 = j)), V.bl (decide (10 = j)), V.bl (decide (11 = j)), V.bl (decide (12 = j)), V.bl (decide (13 = j)), V.bl (decide (14 = j))] ++ [V.bl (decide (15 = j)), V.bl (decide (16 = j)), V.bl (decide (17 = j))])) pq5 = some (.lst [V.bl (decide (0 = j)), V.bl (decide (1 = j)), V.bl (decide (2 = j)), V.bl (decide (3 = j)), V.bl (decide (4 = j)), V.bl (decide (5 = j)), V.bl (decide (6 = j)), V.bl (decide (7 = j)), V.bl (decide (8 = j)), V.bl (decide (9 = j)), V.bl (decide (10 = j)), V.bl (decide (11 = j)), V.bl (decide (12 = j)), V.bl (decide (13 = j)), V.bl (decide (14 = j)), V.bl (decide (15 = j)), V.bl (decide (16 = j)), V.bl (decide (17 = j))]) := upd_same
    generalize L2.upd (L2.upd H5 p5 (.lst [V.bl (decide (15 = j)), V.bl (decide (16 = j)), V.bl (decide (17 = j))])) pq5 (.lst ([V.bl (decide (0 = j)), V.bl (decide (1 = j)), V.bl (decide (2 = j)), V.bl (decide (3 = j)), V.bl (decide (4 = j)), V.bl (decide (5 = j)), V.bl (decide (6 = j)), V.bl (decide (7 = j)), V.bl (decide (8 = j)), V.bl (decide (9 = j)), V.bl (decide (10 = j)), V.bl (decide (11 = j)), V.bl (decide (12 = j)), V.bl (decide (13 = j)), V.bl (decide (14 = j))] ++ [V.bl (decide (15 = j)), V.bl (decide (16 = j)), V.bl (decide (17 = j))])) = H6 at *
    refine ⟨_, rfl, _, rfl, a, Ax j, d, _, _, _, rfl, .own _, hx.same S6, EO.exc j hj, EO.kit j 18 hj (by decide), _, rfl, a, Ax j, d, _, _, _, rfl, .own _, hx.same S6, EO.exc j hj, EO.kit j 19 hj (by decide), _, rfl, a, Ax j, d, _, _, _, rfl, .own _, hx.same S6, EO.exc j hj, EO.kit j 20 hj (by decide), (by show 3 ≤ sizeLine; decide), fun p6 n6 => ?_⟩
    refine ⟨pq5, p6, [V.bl (decide (0 = j)), V.bl (decide (1 = j)), V.bl (decide (2 = j)), V.bl (decide (3 = j)), V.bl (decide (4 = j)), V.bl (decide (5 = j)), V.bl (decide (6 = j)), V.bl (decide (7 = j)), V.bl (decide (8 = j)), V.bl (decide (9 = j)), V.bl (decide (10 = j)), V.bl (decide (11 = j)), V.bl (decide (12 = j)), V.bl (decide (13 = j)), V.bl (decide (14 = j)), V.bl (decide (15 = j)), V.bl (decide (16 = j)), V.bl (decide (17 = j))], [V.bl (decide (18 = j)), V.bl (decide (19 = j)), V.bl (decide (20 = j))], rfl, rfl, Same.new n6 _ _ q5, upd_same, (by show 21 ≤ sizeLine; decide), fun pq6 m6 => ?_⟩
    have S7 := S6.trans ((Same.new (o := .lst [V.bl (decide (18 = j)), V.bl (decide (19 = j)), V.bl (decide (20 = j))]) n6).trans (Same.new (o := .lst ([V.bl (decide (0 = j)), V.bl (decide (1 = j)), V.bl (decide (2 = j)), V.bl (decide (3 = j)), V.bl (decide (4 = j)), V.bl (decide (5 = j)), V.bl (decide (6 = j)), V.bl (decide (7 = j)), V.bl (decide (8 = j)), V.bl (decide (9 = j)), V.bl (decide (10 = j)), V.bl (decide (11 = j)), V.bl (decide (12 = j)), V.bl (decide (13 = j)), V.bl (decide (14 = j)), V.bl (decide (15 = j)), V.bl (decide (16 = j)), V.bl (decide (17 = j))] ++ [V.bl (decide (18 = j)), V.bl (decide (19 = j)), V.bl (decide (20 = j))])) m6))
    have q6 : L2.upd (L2.upd H6 p6 (.lst [V.bl (decide (18 = j)), V.bl (decide (19 = j)), V.bl (decide (20 = j))])) pq6 (.lst ([V.bl (decide (0 = j)), V.bl (decide (1 = j)), V.bl (decide (2 = j)), V.bl (decide (3 = j)), V.bl (decide (4 = j)), V.bl (decide (5 = j)), V.bl (decide (6 = j)), V.bl (decide (7 = j)), V.bl (decide (8 = j)), V.bl (decide (9 = j)), V.bl (decide (10 = j)), V.bl (decide (11 = j)), V.bl (decide (12 = j)), V.bl (decide (13 = j)), V.bl (decide (14 = j)), V.bl (decide (15 = j)), V.bl (decide (16 = j)), V.bl (decide (17 = j))] ++ [V.bl (decide (18 = j)), V.bl (decide (19 = j)), V.bl (decide (20 = j))])) pq6 = some (.lst [V.bl (decide (0 = j)), V.bl (decide (1 = j)), V.bl (decide (2 = j)), V.bl (decide (3 = j)), V.bl (decide (4 = j)), V.bl (decide (5 = j)), V.bl (decide (6 = j)), V.bl (decide (7 = j)), V.bl (decide (8 = j)), V.bl (decide (9 = j)), V.bl (decide (10 = j)), V.bl (decide (11 = j)), V.bl (decide (12 = j)), V.bl (decide (13 = j)), V.bl (decide (14 = j)), V.bl (decide (15 = j)), V.bl (decide (16 = j)), V.bl (decide (17 = j)), V.bl (decide (18 = j)), V.bl (decide (19 = j)), V.bl (decide (20 = j))]) := upd_same
    generalize L2.upd (L2.upd H6 p6 (.lst [V.bl (decide (18 = j)), V.bl (decide (19 = j)), V.bl (decide (20 = j))])) pq6 (.lst ([V.bl (decide (0 = j)), V.bl (decide (1 = j)), V.bl (decide (2 = j)), V.bl (decide (3 = j)), V.bl (decide (4 = j)), V.bl (decide (5 = j)), V.bl (decide (6 = j)), V.bl (decide (7 = j)), V.bl (decide (8 = j)), V.bl (decide (9 = j)), V.bl (decide (10 = j)), V.bl (decide (11 = j)), V.bl (decide (12 = j)), V.bl (decide (13 = j)), V.bl (decide (14 = j)), V.bl (decide (15 = j)), V.bl (decide (16 = j)), V.bl (decide (17 = j))] ++ [V.bl (decide (18 = j)), V.bl (decide (19 = j)), V.bl (decide (20 = j))])) = H7 at *
    refine ⟨_, rfl, _, rfl, a, Ax j, d, _, _, _, rfl, .own _, hx.same S7, EO.exc j hj, EO.kit j 21 hj (by decide), _, rfl, a, Ax j, d, _, _, _, rfl, .own _, hx.same S7, EO.exc j hj, EO.kit j 22 hj (by decide), _, rfl, a, Ax j, d, _, _, _, rfl, .own _, hx.same S7, EO.exc j hj, EO.kit j 23 hj (by decide), (by show 3 ≤ sizeLine; decide), fun p7 n7 => ?_⟩
    refine ⟨pq6, p7, [V.bl (decide (0 = j)), V.bl (decide (1 = j)), V.bl (decide (2 = j)), V.bl (decide (3 = j)), V.bl (decide (4 = j)), V.bl (decide (5 = j)), V.bl (decide (6 = j)), V.bl (decide (7 = j)), V.bl (decide (8 = j)), V.bl (decide (9 = j)), V.bl (decide (10 = j)), V.bl (decide (11 = j)), V.bl (decide (12 = j)), V.bl (decide (13 = j)), V.bl (decide (14 = j)), V.bl (decide (15 = j)), V.bl (decide (16 = j)), V.bl (decide (17 = j)), V.bl (decide (18 = j)), V.bl (decide (19 = j)), V.bl (decide (20 = j))], [V.bl (decide (21 = j)), V.bl (decide (22 = j)), V.bl (decide (23 = j))], rfl, rfl, Same.new n7 _ _ q6, upd_same, (by show 24 ≤ sizeLine; decide), fun pq7 m7 => ?_⟩
    have S8 := S7.trans ((Same.new (o := .lst [V.bl (decide (21 = j)), V.bl (decide (22 = j)), V.bl (decide (23 = j))]) n7).trans (Same.new (o := .lst ([V.bl (decide (0 = j)), V.bl (decide (1 = j)), V.bl (decide (2 = j)), V.bl (decide (3 = j)), V.bl (decide (4 = j)), V.bl (decide (5 = j)), V.bl (decide (6 = j)), V.bl (decide (7 = j)), V.bl (decide (8 = j)), V.bl (decide (9 = j)), V.bl (decide (10 = j)), V.bl (decide (11 = j)), V.bl (decide (12 = j)), V.bl (decide (13 = j)), V.bl (decide (14 = j)), V.bl (decide (15 = j)), V.bl (decide (16 = j)), V.bl (decide (17 = j)), V.bl (decide (18 = j)), V.bl (decide (19 = j)), V.bl (decide (20 = j))] ++ [V.bl (decide (21 = j)), V.bl (decide (22 = j)), V.bl (decide (23 = j))])) m7))
    have q7 : L2.upd (L2.upd H7 p7 (.lst [V.bl (decide (21 = j)), V.bl (decide (22 = j)), V.bl (decide (23 = j))])) pq7 (.lst ([V.bl (decide (0 = j)), V.bl (decide (1 = j)), V.bl (decide (2 = j)), V.bl (decide (3 = j)), V.bl (decide (4 = j)), V.bl (decide (5 = j)), V.bl (decide (6 = j)), V.bl (decide (7 = j)), V.bl (decide (8 = j)), V.bl (decide (9 = j)), V.bl (decide (10 = j)), V.bl (decide (11 = j)), V.bl (decide (12 = j)), V.bl (decide (13 = j)), V.bl (decide (14 = j)), V.bl (decide (15 = j)), V.bl (decide (16 = j)), V.bl (decide (17 = j)), V.bl (decide (18 = j)), V.bl (decide (19 = j)), V.bl (decide (20 = j))] ++ [V.bl (decide (21 = j)), V.bl (decide (22 = j)), V.bl (decide (23 = j))])) pq7 = some (.lst [V.bl (decide (0 = j)), V.bl (decide (1 = j)), V.bl (decide (2 = j)), V.bl (decide (3 = j)), V.bl (decide (4 = j)), V.bl (decide (5 = j)), V.bl (decide (6 = j)), V.bl (decide (7 = j)), V.bl (decide (8 = j)), V.bl (decide (9 = j)), V.bl (decide (10 = j)), V.bl (decide (11 = j)), V.bl (decide (12 = j)), V.bl (decide (13 = j)), V.bl (decide (14 = j)), V.bl (decide (15 = j)), V.bl (decide (16 = j)), V.bl (decide (17 = j)), V.bl (decide (18 = j)), V.bl (decide (19 = j)), V.bl (decide (20 = j)), V.bl (decide (21 = j)), V.bl (decide (22 = j)), V.bl (decide (23 = j))]) := upd_same
    generalize L2.upd (L2.upd H7 p7 (.lst [V.bl (decide (21 = j)), V.bl (decide (22 = j)), V.bl (decide (23 = j))])) pq7 (.lst ([V.bl (decide (0 = j)), V.bl (decide (1 = j)), V.bl (decide (2 = j)), V.bl (decide (3 = j)), V.bl (decide (4 = j)), V.bl (decide (5 = j)), V.bl (decide (6 = j)), V.bl (decide (7 = j)), V.bl (decide (8 = j)), V.bl (decide (9 = j)), V.bl (decide (10 = j)), V.bl (decide (11 = j)), V.bl (decide (12 = j)), V.bl (decide (13 = j)), V.bl (decide (14 = j)), V.bl (decide (15 = j)), V.bl (decide (16 = j)), V.bl (decide (17 = j)), V.bl (decide (18 = j)), V.bl (decide (19 = j)), V.bl (decide (20 = j))] ++ [V.bl (decide (21 = j)), V.bl (decide (22 = j)), V.bl (decide (23 = j))])) = H8 at *
    exact k _ _ S8 q7
abbrev givenPs (Ax : Nat → Addr) (v : V) : List (Addr × List (Str × V)) := [(Ax 0, [("given", v)]), (Ax 1, [("given", v)]), (Ax 2, [("given", v)]), (Ax 3, [("given", v)]), (Ax 4, [("given", v)]), (Ax 5, [("given", v)]), (Ax 6, [("given", v)]), (Ax 7, [("given", v)]), (Ax 8, [("given", v)]), (Ax 9, [("given", v)]), (Ax 10, [("given", v)]), (Ax 11, [("given", v)]), (Ax 12, [("given", v)]), (Ax 13, [("given", v)]), (Ax 14, [("part", v)]), (Ax 15, [("part", v)]), (Ax 16, [("paper", v)]), (Ax 17, [("paper", v)]), (Ax 18, [("path", v)]), (Ax 19, [("path", v)]), (Ax 20, [("word", v), ("line", v)])]
abbrev allPs (Ax : Nat → Addr) (v : V) : List (Addr × List (Str × V)) := [(Ax 0, [("given", v)]), (Ax 1, [("given", v)]), (Ax 2, [("given", v)]), (Ax 3, [("given", v)]), (Ax 4, [("given", v)]), (Ax 5, [("given", v)]), (Ax 6, [("given", v)]), (Ax 7, [("given", v)]), (Ax 8, [("given", v)]), (Ax 9, [("given", v)]), (Ax 10, [("given", v)]), (Ax 11, [("given", v)]), (Ax 12, [("given", v)]), (Ax 13, [("given", v)]), (Ax 14, [("part", v)]), (Ax 15, [("part", v)]), (Ax 16, [("paper", v)]), (Ax 17, [("paper", v)]), (Ax 18, [("path", v)]), (Ax 19, [("path", v)]), (Ax 20, [("word", v), ("line", v)]), (Ax 21, [("most", v)]), (Ax 22, [("many", v)]), (Ax 23, [("given", v)])]
def spGiven (Ax : Nat → Addr) : Sp := fun vs H Q _ => ∃ v, vs = [v] ∧ ∀ p H' as, Same H H' → H p = none → H' p = some (.lst (as.map V.ref)) → ExL H' as (givenPs Ax v) → Q (.ref p) H'
abbrev nsLawGivenOnes : List Str := ["thing", "some"]
theorem scLawGivenOnes : FnScope nsLawGivenOnes ["thing"] (defScope sLawGivenOnes) := ⟨rfl, rfl, rfl, by decide +kernel, rfl, by decide +kernel, by decide +kernel⟩
theorem ok_law_given_ones {f : Addr} {fd : FuncData} (F : Df K mg "_law_given_ones" sLawGivenOnes ["thing"] f fd)
    {Ax : Nat → Addr} (EO : ErrOk K mg Ax) : FnOk P w K mg base CX0 3 f fd ["thing"] (spGiven Ax) := by
  refine F.F.ok scLawGivenOnes (fun vs H Q E h => ?_) (fun cdv A outer s H vs Q E hr h => ?_)
  · obtain ⟨v, rfl, _⟩ := h
    rfl
  · obtain ⟨v, rfl, k⟩ := h
    refine ⟨_, (pss_cons (ps_set (i := 1) scLawGivenOnes.nd rfl (Or.inl rfl) (pe_lst (pa_cons (pe_e0 EO (hr.mono (by decide)) (by rfl) (pv 0)) (pa_cons (pe_e1 EO (hr.mono (by decide)) (by rfl) (pv 0)) (pa_cons (pe_e2 EO (hr.mono (by decide)) (by rfl) (pv 0)) (pa_cons (pe_e3 EO (hr.mono (by decide)) (by rfl) (pv 0)) (pa_cons (pe_e4 EO (hr.mono (by decide)) (by rfl) (pv 0)) pa_nil)))))))
      (pss_cons (ps_set (i := 1) scLawGivenOnes.nd rfl (Or.inl rfl) (pe_op op_cat (pv 1) (pe_lst (pa_cons (pe_e5 EO (hr.mono (by decide)) (by rfl) (pv 0)) (pa_cons (pe_e6 EO (hr.mono (by decide)) (by rfl) (pv 0)) (pa_cons (pe_e7 EO (hr.mono (by decide)) (by rfl) (pv 0)) (pa_cons (pe_e8 EO (hr.mono (by decide)) (by rfl) (pv 0)) (pa_cons (pe_e9 EO (hr.mono (by decide)) (by rfl) (pv 0)) pa_nil))))))))
      (pss_cons (ps_expr (pe_bm PySem.F.plainAttrs_list PySem.F.slot_list_append PySem.F.type_list_append mt_append (pv 1) (pa_cons (pe_e10 EO (hr.mono (by decide)) (by rfl) (pv 0)) pa_nil)))
      (pss_cons (ps_set (i := 1) scLawGivenOnes.nd rfl (Or.inl rfl) (pe_op op_cat (pv 1) (pe_lst (pa_cons (pe_e11 EO (hr.mono (by decide)) (by rfl) (pv 0)) (pa_cons (pe_e12 EO (hr.mono (by decide)) (by rfl) (pv 0)) (pa_cons (pe_e13 EO (hr.mono (by decide)) (by rfl) (pv 0)) (pa_cons (pe_e14 EO (hr.mono (by decide)) (by rfl) (pv 0)) (pa_cons (pe_e15 EO (hr.mono (by decide)) (by rfl) (pv 0)) pa_nil))))))))
      (pss_one (ps_ret (pe_op op_cat (pv 1) (pe_lst (pa_cons (pe_e16 EO (hr.mono (by decide)) (by rfl) (pv 0)) (pa_cons (pe_e17 EO (hr.mono (by decide)) (by rfl) (pv 0)) (pa_cons (pe_e18 EO (hr.mono (by decide)) (by rfl) (pv 0)) (pa_cons (pe_e19 EO (hr.mono (by decide)) (by rfl) (pv 0)) (pa_cons (pe_e20 EO (hr.mono (by decide)) (by rfl) (pv 0) (pv 0)) pa_nil))))))))))))), ?_⟩
    have S : Same H H := Same.refl H
    have Ex : ExL H [] [] := .nil
    refine ⟨_, rfl, _, rfl, fun a0 J0 s0 x0 => ?_⟩
    replace S := S.trans s0
    replace Ex := ExL.snoc (Ex.same s0) x0
    clear s0 x0
    refine ⟨_, rfl, _, rfl, fun a1 J1 s1 x1 => ?_⟩
    replace S := S.trans s1
    replace Ex := ExL.snoc (Ex.same s1) x1
    clear s1 x1
    refine ⟨_, rfl, _, rfl, fun a2 J2 s2 x2 => ?_⟩
    replace S := S.trans s2
    replace Ex := ExL.snoc (Ex.same s2) x2
    clear s2 x2
    refine ⟨_, rfl, _, rfl, fun a3 J3 s3 x3 => ?_⟩
    replace S := S.trans s3
    replace Ex := ExL.snoc (Ex.same s3) x3
    clear s3 x3
    refine ⟨_, rfl, _, rfl, fun a4 J4 s4 x4 => ?_⟩
    replace S := S.trans s4
    replace Ex := ExL.snoc (Ex.same s4) x4
    clear s4 x4
    refine ⟨(by show 5 ≤ sizeLine; decide), fun p1 n1 => ?_⟩
    have z1 := Same.none S n1
    replace S := S.trans (Same.new (o := .lst [V.ref a0, V.ref a1, V.ref a2, V.ref a3, V.ref a4]) n1)
    replace Ex := Ex.same (Same.new (o := .lst [V.ref a0, V.ref a1, V.ref a2, V.ref a3, V.ref a4]) n1)
    have l1 : L2.upd J4 p1 (.lst [V.ref a0, V.ref a1, V.ref a2, V.ref a3, V.ref a4]) p1 = some (.lst [V.ref a0, V.ref a1, V.ref a2, V.ref a3, V.ref a4]) := upd_same
    generalize L2.upd J4 p1 (.lst [V.ref a0, V.ref a1, V.ref a2, V.ref a3, V.ref a4]) = H1 at *
    have q := l1
    refine ⟨_, rfl, _, rfl, _, rfl, fun a5 J5 s5 x5 => ?_⟩
    replace S := S.trans s5
    replace Ex := ExL.snoc (Ex.same s5) x5
    replace q := s5 _ _ q
    clear s5 x5
    refine ⟨_, rfl, _, rfl, fun a6 J6 s6 x6 => ?_⟩
    replace S := S.trans s6
    replace Ex := ExL.snoc (Ex.same s6) x6
    replace q := s6 _ _ q
    clear s6 x6
    refine ⟨_, rfl, _, rfl, fun a7 J7 s7 x7 => ?_⟩
    replace S := S.trans s7
    replace Ex := ExL.snoc (Ex.same s7) x7
    replace q := s7 _ _ q
    clear s7 x7
    refine ⟨_, rfl, _, rfl, fun a8 J8 s8 x8 => ?_⟩
    replace S := S.trans s8
    replace Ex := ExL.snoc (Ex.same s8) x8
    replace q := s8 _ _ q
    clear s8 x8
    refine ⟨_, rfl, _, rfl, fun a9 J9 s9 x9 => ?_⟩
    replace S := S.trans s9
    replace Ex := ExL.snoc (Ex.same s9) x9
    replace q := s9 _ _ q
    clear s9 x9
    refine ⟨(by show 5 ≤ sizeLine; decide), fun p2 n2 => ?_⟩
    have z2 := Same.none S n2
    replace S := S.trans (Same.new (o := .lst [V.ref a5, V.ref a6, V.ref a7, V.ref a8, V.ref a9]) n2)
    replace Ex := Ex.same (Same.new (o := .lst [V.ref a5, V.ref a6, V.ref a7, V.ref a8, V.ref a9]) n2)
    have l2 : L2.upd J9 p2 (.lst [V.ref a5, V.ref a6, V.ref a7, V.ref a8, V.ref a9]) p2 = some (.lst [V.ref a5, V.ref a6, V.ref a7, V.ref a8, V.ref a9]) := upd_same
    replace q := Same.new (o := .lst [V.ref a5, V.ref a6, V.ref a7, V.ref a8, V.ref a9]) n2 _ _ q
    generalize L2.upd J9 p2 (.lst [V.ref a5, V.ref a6, V.ref a7, V.ref a8, V.ref a9]) = H2 at *
    refine ⟨p1, p2, [V.ref a0, V.ref a1, V.ref a2, V.ref a3, V.ref a4], [V.ref a5, V.ref a6, V.ref a7, V.ref a8, V.ref a9], rfl, rfl, q, l2, (by show 10 ≤ sizeLine; decide), fun p3 n3 => ?_⟩
    have z3 := Same.none S n3
    replace S := S.trans (Same.new (o := .lst ([V.ref a0, V.ref a1, V.ref a2, V.ref a3, V.ref a4] ++ [V.ref a5, V.ref a6, V.ref a7, V.ref a8, V.ref a9])) n3)
    replace Ex := Ex.same (Same.new (o := .lst ([V.ref a0, V.ref a1, V.ref a2, V.ref a3, V.ref a4] ++ [V.ref a5, V.ref a6, V.ref a7, V.ref a8, V.ref a9])) n3)
    replace q : L2.upd H2 p3 (.lst ([V.ref a0, V.ref a1, V.ref a2, V.ref a3, V.ref a4] ++ [V.ref a5, V.ref a6, V.ref a7, V.ref a8, V.ref a9])) p3 = some (.lst [V.ref a0, V.ref a1, V.ref a2, V.ref a3, V.ref a4, V.ref a5, V.ref a6, V.ref a7, V.ref a8, V.ref a9]) := upd_same
    clear n3 n2 l2
    generalize L2.upd H2 p3 (.lst ([V.ref a0, V.ref a1, V.ref a2, V.ref a3, V.ref a4] ++ [V.ref a5, V.ref a6, V.ref a7, V.ref a8, V.ref a9])) = H3 at *
    refine ⟨_, rfl, .inl ⟨rfl, _, SqL.of q⟩, _, rfl, _, rfl, fun a10 J10 s10 x10 => ?_⟩
    replace S := S.trans s10
    replace Ex := ExL.snoc (Ex.same s10) x10
    replace q := s10 _ _ q
    clear s10 x10
    refine ⟨p3, [V.ref a0, V.ref a1, V.ref a2, V.ref a3, V.ref a4, V.ref a5, V.ref a6, V.ref a7, V.ref a8, V.ref a9], V.ref a10, rfl, rfl, q, (by show 10 < sizeLine; decide), ?_⟩
    replace S := same_upd (o := .lst ([V.ref a0, V.ref a1, V.ref a2, V.ref a3, V.ref a4, V.ref a5, V.ref a6, V.ref a7, V.ref a8, V.ref a9] ++ [V.ref a10])) z3 S
    replace Ex := ExL.upd (ys := [V.ref a0, V.ref a1, V.ref a2, V.ref a3, V.ref a4, V.ref a5, V.ref a6, V.ref a7, V.ref a8, V.ref a9] ++ [V.ref a10]) Ex q
    replace q : L2.upd J10 p3 (.lst ([V.ref a0, V.ref a1, V.ref a2, V.ref a3, V.ref a4, V.ref a5, V.ref a6, V.ref a7, V.ref a8, V.ref a9] ++ [V.ref a10])) p3 = some (.lst [V.ref a0, V.ref a1, V.ref a2, V.ref a3, V.ref a4, V.ref a5, V.ref a6, V.ref a7, V.ref a8, V.ref a9, V.ref a10]) := upd_same
    generalize L2.upd J10 p3 (.lst ([V.ref a0, V.ref a1, V.ref a2, V.ref a3, V.ref a4, V.ref a5, V.ref a6, V.ref a7, V.ref a8, V.ref a9] ++ [V.ref a10])) = H4 at *
    refine ⟨_, rfl, _, rfl, _, rfl, fun a11 J11 s11 x11 => ?_⟩
    replace S := S.trans s11
    replace Ex := ExL.snoc (Ex.same s11) x11
    replace q := s11 _ _ q
    clear s11 x11
    refine ⟨_, rfl, _, rfl, fun a12 J12 s12 x12 => ?_⟩
    replace S := S.trans s12
    replace Ex := ExL.snoc (Ex.same s12) x12
    replace q := s12 _ _ q
    clear s12 x12
    refine ⟨_, rfl, _, rfl, fun a13 J13 s13 x13 => ?_⟩
    replace S := S.trans s13
    replace Ex := ExL.snoc (Ex.same s13) x13
    replace q := s13 _ _ q
    clear s13 x13
    refine ⟨_, rfl, _, rfl, fun a14 J14 s14 x14 => ?_⟩
    replace S := S.trans s14
    replace Ex := ExL.snoc (Ex.same s14) x14
    replace q := s14 _ _ q
    clear s14 x14
    refine ⟨_, rfl, _, rfl, fun a15 J15 s15 x15 => ?_⟩
    replace S := S.trans s15
    replace Ex := ExL.snoc (Ex.same s15) x15
    replace q := s15 _ _ q
    clear s15 x15
    refine ⟨(by show 5 ≤ sizeLine; decide), fun p5 n5 => ?_⟩
    have z5 := Same.none S n5
    replace S := S.trans (Same.new (o := .lst [V.ref a11, V.ref a12, V.ref a13, V.ref a14, V.ref a15]) n5)
    replace Ex := Ex.same (Same.new (o := .lst [V.ref a11, V.ref a12, V.ref a13, V.ref a14, V.ref a15]) n5)
    have l5 : L2.upd J15 p5 (.lst [V.ref a11, V.ref a12, V.ref a13, V.ref a14, V.ref a15]) p5 = some (.lst [V.ref a11, V.ref a12, V.ref a13, V.ref a14, V.ref a15]) := upd_same
    replace q := Same.new (o := .lst [V.ref a11, V.ref a12, V.ref a13, V.ref a14, V.ref a15]) n5 _ _ q
    generalize L2.upd J15 p5 (.lst [V.ref a11, V.ref a12, V.ref a13, V.ref a14, V.ref a15]) = H5 at *
    refine ⟨p3, p5, [V.ref a0, V.ref a1, V.ref a2, V.ref a3, V.ref a4, V.ref a5, V.ref a6, V.ref a7, V.ref a8, V.ref a9, V.ref a10], [V.ref a11, V.ref a12, V.ref a13, V.ref a14, V.ref a15], rfl, rfl, q, l5, (by show 16 ≤ sizeLine; decide), fun p6 n6 => ?_⟩
    have z6 := Same.none S n6
    replace S := S.trans (Same.new (o := .lst ([V.ref a0, V.ref a1, V.ref a2, V.ref a3, V.ref a4, V.ref a5, V.ref a6, V.ref a7, V.ref a8, V.ref a9, V.ref a10] ++ [V.ref a11, V.ref a12, V.ref a13, V.ref a14, V.ref a15])) n6)
    replace Ex := Ex.same (Same.new (o := .lst ([V.ref a0, V.ref a1, V.ref a2, V.ref a3, V.ref a4, V.ref a5, V.ref a6, V.ref a7, V.ref a8, V.ref a9, V.ref a10] ++ [V.ref a11, V.ref a12, V.ref a13, V.ref a14, V.ref a15])) n6)
    replace q : L2.upd H5 p6 (.lst ([V.ref a0, V.ref a1, V.ref a2, V.ref a3, V.ref a4, V.ref a5, V.ref a6, V.ref a7, V.ref a8, V.ref a9, V.ref a10] ++ [V.ref a11, V.ref a12, V.ref a13, V.ref a14, V.ref a15])) p6 = some (.lst [V.ref a0, V.ref a1, V.ref a2, V.ref a3, V.ref a4, V.ref a5, V.ref a6, V.ref a7, V.ref a8, V.ref a9, V.ref a10, V.ref a11, V.ref a12, V.ref a13, V.ref a14, V.ref a15]) := upd_same
    clear n6 n5 l5
    generalize L2.upd H5 p6 (.lst ([V.ref a0, V.ref a1, V.ref a2, V.ref a3, V.ref a4, V.ref a5, V.ref a6, V.ref a7, V.ref a8, V.ref a9, V.ref a10] ++ [V.ref a11, V.ref a12, V.ref a13, V.ref a14, V.ref a15])) = H6 at *
    refine ⟨_, rfl, _, rfl, _, rfl, fun a16 J16 s16 x16 => ?_⟩
    replace S := S.trans s16
    replace Ex := ExL.snoc (Ex.same s16) x16
    replace q := s16 _ _ q
    clear s16 x16
    refine ⟨_, rfl, _, rfl, fun a17 J17 s17 x17 => ?_⟩
    replace S := S.trans s17
    replace Ex := ExL.snoc (Ex.same s17) x17
    replace q := s17 _ _ q
    clear s17 x17
    refine ⟨_, rfl, _, rfl, fun a18 J18 s18 x18 => ?_⟩
    replace S := S.trans s18
    replace Ex := ExL.snoc (Ex.same s18) x18
    replace q := s18 _ _ q
    clear s18 x18
    refine ⟨_, rfl, _, rfl, fun a19 J19 s19 x19 => ?_⟩
    replace S := S.trans s19
    replace Ex := ExL.snoc (Ex.same s19) x19
    replace q := s19 _ _ q
    clear s19 x19
    refine ⟨_, rfl, _, rfl, _, _, rfl, fun a20 J20 s20 x20 => ?_⟩
    replace S := S.trans s20
    replace Ex := ExL.snoc (Ex.same s20) x20
    replace q := s20 _ _ q
    clear s20 x20
    refine ⟨(by show 5 ≤ sizeLine; decide), fun p7 n7 => ?_⟩
    have z7 := Same.none S n7
    replace S := S.trans (Same.new (o := .lst [V.ref a16, V.ref a17, V.ref a18, V.ref a19, V.ref a20]) n7)
    replace Ex := Ex.same (Same.new (o := .lst [V.ref a16, V.ref a17, V.ref a18, V.ref a19, V.ref a20]) n7)
    have l7 : L2.upd J20 p7 (.lst [V.ref a16, V.ref a17, V.ref a18, V.ref a19, V.ref a20]) p7 = some (.lst [V.ref a16, V.ref a17, V.ref a18, V.ref a19, V.ref a20]) := upd_same
    replace q := Same.new (o := .lst [V.ref a16, V.ref a17, V.ref a18, V.ref a19, V.ref a20]) n7 _ _ q
    generalize L2.upd J20 p7 (.lst [V.ref a16, V.ref a17, V.ref a18, V.ref a19, V.ref a20]) = H7 at *
    refine ⟨p6, p7, [V.ref a0, V.ref a1, V.ref a2, V.ref a3, V.ref a4, V.ref a5, V.ref a6, V.ref a7, V.ref a8, V.ref a9, V.ref a10, V.ref a11, V.ref a12, V.ref a13, V.ref a14, V.ref a15], [V.ref a16, V.ref a17, V.ref a18, V.ref a19, V.ref a20], rfl, rfl, q, l7, (by show 21 ≤ sizeLine; decide), fun p8 n8 => ?_⟩
    have z8 := Same.none S n8
    replace S := S.trans (Same.new (o := .lst ([V.ref a0, V.ref a1, V.ref a2, V.ref a3, V.ref a4, V.ref a5, V.ref a6, V.ref a7, V.ref a8, V.ref a9, V.ref a10, V.ref a11, V.ref a12, V.ref a13, V.ref a14, V.ref a15] ++ [V.ref a16, V.ref a17, V.ref a18, V.ref a19, V.ref a20])) n8)
    replace Ex := Ex.same (Same.new (o := .lst ([V.ref a0, V.ref a1, V.ref a2, V.ref a3, V.ref a4, V.ref a5, V.ref a6, V.ref a7, V.ref a8, V.ref a9, V.ref a10, V.ref a11, V.ref a12, V.ref a13, V.ref a14, V.ref a15] ++ [V.ref a16, V.ref a17, V.ref a18, V.ref a19, V.ref a20])) n8)
    replace q : L2.upd H7 p8 (.lst ([V.ref a0, V.ref a1, V.ref a2, V.ref a3, V.ref a4, V.ref a5, V.ref a6, V.ref a7, V.ref a8, V.ref a9, V.ref a10, V.ref a11, V.ref a12, V.ref a13, V.ref a14, V.ref a15] ++ [V.ref a16, V.ref a17, V.ref a18, V.ref a19, V.ref a20])) p8 = some (.lst [V.ref a0, V.ref a1, V.ref a2, V.ref a3, V.ref a4, V.ref a5, V.ref a6, V.ref a7, V.ref a8, V.ref a9, V.ref a10, V.ref a11, V.ref a12, V.ref a13, V.ref a14, V.ref a15, V.ref a16, V.ref a17, V.ref a18, V.ref a19, V.ref a20]) := upd_same
    clear n8 n7 l7
    generalize L2.upd H7 p8 (.lst ([V.ref a0, V.ref a1, V.ref a2, V.ref a3, V.ref a4, V.ref a5, V.ref a6, V.ref a7, V.ref a8, V.ref a9, V.ref a10, V.ref a11, V.ref a12, V.ref a13, V.ref a14, V.ref a15] ++ [V.ref a16, V.ref a17, V.ref a18, V.ref a19, V.ref a20])) = H8 at *
    simp only [List.nil_append, List.cons_append] at Ex
    exact k p8 _ [a0, a1, a2, a3, a4, a5, a6, a7, a8, a9, a10, a11, a12, a13, a14, a15, a16, a17, a18, a19, a20] S z8 q Ex
end
end CS
set_option Elab.async false
set_option maxRecDepth 100000
set_option maxHeartbeats 8000000
set_option linter.unusedVariables false
set_option pp.maxSteps 9000
/-! the fields of the errors -/
namespace CS
open PySem PySem.Spec PyProof.Rows L2
/-- the exception at a has the field n, which is v -/
def FldAt (K : PySem.W.Frag) (H : Hp) (a : Addr) (n : Str) (v : V) : Prop := ∃ C dd fs, ExIs [] H a C (some dd) ∧ XfC K C ∧ PySem.W.findIn K (.ref C) n = some none ∧ H dd = some (exd dd fs) ∧ fs.lookup n = some v
theorem FldAt.same {K : PySem.W.Frag} {H H' : Hp} {a : Addr} {n : Str} {v : V} (x : FldAt K H a n v) (e : Same H H') : FldAt K H' a n v := let ⟨C, dd, fs, h1, h2, h3, h4, h5⟩ := x; ⟨C, dd, fs, h1.same e, h2, h3, e _ _ h4, h5⟩
def FA (K : PySem.W.Frag) (H : Hp) (cs : List Addr) (n : Str) (v : V) : Prop := ∀ c ∈ cs, FldAt K H c n v
theorem FA.same {K : PySem.W.Frag} {H H' : Hp} {cs : List Addr} {n : Str} {v : V} (x : FA K H cs n v) (e : Same H H') : FA K H' cs n v := fun c hc => (x c hc).same e
theorem fld_of {K : PySem.W.Frag} {mg : Str → Option Value} {H : Hp} {a C g : Addr} {fs : List (Str × V)} {x f qual : Str} {newId : String} {bmB : List Value} {st : Stmt} {fd : FuncData} {v : V} (Z : Xc K mg x f C g bmB newId st qual fd) (e : ExVal H a C fs) (l : fs.lookup f = some v) : FldAt K H a f v :=
  let ⟨dx, h1, h2⟩ := e.is []; ⟨C, dx, fs, h1, Z.T.xf, Z.T.noF, h2, l⟩
section
variable {P : Program} {w : World} {K : PySem.W.Frag} {mg : Str → Option Value} {base : Heap}
theorem all24 {H : Hp} {as : List Addr} {Ax : Nat → Addr} {v : V} (EO : ErrOk K mg Ax) (h : ExL H as (allPs Ax v)) : ∃ a0 a1 a2 a3 a4 a5 a6 a7 a8 a9 a10 a11 a12 a13 a14 a15 a16 a17 a18 a19 a20 a21 a22 a23, as = [a0, a1, a2, a3, a4, a5, a6, a7, a8, a9, a10, a11, a12, a13, a14, a15, a16, a17, a18, a19, a20, a21, a22, a23] ∧ FA K H [a0, a1, a2, a3, a4, a5, a6, a7, a8, a9, a10, a11, a12, a13] "given" v ∧ FA K H [a14, a15] "part" v ∧ FA K H [a16, a17] "paper" v ∧ FA K H [a18, a19] "path" v ∧ FldAt K H a20 "line" v ∧ FldAt K H a20 "word" v ∧ FldAt K H a21 "most" v ∧ FldAt K H a22 "many" v ∧ FldAt K H a23 "given" v := by
  obtain ⟨a0, r0, rfl, x0, h0⟩ : ∃ a r, as = a :: r ∧ ExVal H a (Ax 0) _ ∧ ExL H r _ := by
    cases h with
    | cons u t => exact ⟨_, _, rfl, u, t⟩
  obtain ⟨a1, r1, rfl, x1, h1⟩ : ∃ a r, r0 = a :: r ∧ ExVal H a (Ax 1) _ ∧ ExL H r _ := by
    cases h0 with
    | cons u t => exact ⟨_, _, rfl, u, t⟩
  obtain ⟨a2, r2, rfl, x2, h2⟩ : ∃ a r, r1 = a :: r ∧ ExVal H a (Ax 2) _ ∧ ExL H r _ := by
    cases h1 with
    | cons u t => exact ⟨_, _, rfl, u, t⟩
  obtain ⟨a3, r3, rfl, x3, h3⟩ : ∃ a r, r2 = a :: r ∧ ExVal H a (Ax 3) _ ∧ ExL H r _ := by
    cases h2 with
    | cons u t => exact ⟨_, _, rfl, u, t⟩
  obtain ⟨a4, r4, rfl, x4, h4⟩ : ∃ a r, r3 = a :: r ∧ ExVal H a (Ax 4) _ ∧ ExL H r _ := by
    cases h3 with
    | cons u t => exact ⟨_, _, rfl, u, t⟩
  obtain ⟨a5, r5, rfl, x5, h5⟩ : ∃ a r, r4 = a :: r ∧ ExVal H a (Ax 5) _ ∧ ExL H r _ := by
    cases h4 with
    | cons u t => exact ⟨_, _, rfl, u, t⟩
  obtain ⟨a6, r6, rfl, x6, h6⟩ : ∃ a r, r5 = a :: r ∧ ExVal H a (Ax 6) _ ∧ ExL H r _ := by
    cases h5 with
    | cons u t => exact ⟨_, _, rfl, u, t⟩
  obtain ⟨a7, r7, rfl, x7, h7⟩ : ∃ a r, r6 = a :: r ∧ ExVal H a (Ax 7) _ ∧ ExL H r _ := by
    cases h6 with
    | cons u t => exact ⟨_, _, rfl, u, t⟩
  obtain ⟨a8, r8, rfl, x8, h8⟩ : ∃ a r, r7 = a :: r ∧ ExVal H a (Ax 8) _ ∧ ExL H r _ := by
    cases h7 with
    | cons u t => exact ⟨_, _, rfl, u, t⟩
  obtain ⟨a9, r9, rfl, x9, h9⟩ : ∃ a r, r8 = a :: r ∧ ExVal H a (Ax 9) _ ∧ ExL H r _ := by
    cases h8 with
    | cons u t => exact ⟨_, _, rfl, u, t⟩
  obtain ⟨a10, r10, rfl, x10, h10⟩ : ∃ a r, r9 = a :: r ∧ ExVal H a (Ax 10) _ ∧ ExL H r _ := by
    cases h9 with
    | cons u t => exact ⟨_, _, rfl, u, t⟩
  obtain ⟨a11, r11, rfl, x11, h11⟩ : ∃ a r, r10 = a :: r ∧ ExVal H a (Ax 11) _ ∧ ExL H r _ := by
    cases h10 with
    | cons u t => exact ⟨_, _, rfl, u, t⟩
  obtain ⟨a12, r12, rfl, x12, h12⟩ : ∃ a r, r11 = a :: r ∧ ExVal H a (Ax 12) _ ∧ ExL H r _ := by
    cases h11 with
    | cons u t => exact ⟨_, _, rfl, u, t⟩
  obtain ⟨a13, r13, rfl, x13, h13⟩ : ∃ a r, r12 = a :: r ∧ ExVal H a (Ax 13) _ ∧ ExL H r _ := by
    cases h12 with
    | cons u t => exact ⟨_, _, rfl, u, t⟩
  obtain ⟨a14, r14, rfl, x14, h14⟩ : ∃ a r, r13 = a :: r ∧ ExVal H a (Ax 14) _ ∧ ExL H r _ := by
    cases h13 with
    | cons u t => exact ⟨_, _, rfl, u, t⟩
  obtain ⟨a15, r15, rfl, x15, h15⟩ : ∃ a r, r14 = a :: r ∧ ExVal H a (Ax 15) _ ∧ ExL H r _ := by
    cases h14 with
    | cons u t => exact ⟨_, _, rfl, u, t⟩
  obtain ⟨a16, r16, rfl, x16, h16⟩ : ∃ a r, r15 = a :: r ∧ ExVal H a (Ax 16) _ ∧ ExL H r _ := by
    cases h15 with
    | cons u t => exact ⟨_, _, rfl, u, t⟩
  obtain ⟨a17, r17, rfl, x17, h17⟩ : ∃ a r, r16 = a :: r ∧ ExVal H a (Ax 17) _ ∧ ExL H r _ := by
    cases h16 with
    | cons u t => exact ⟨_, _, rfl, u, t⟩
  obtain ⟨a18, r18, rfl, x18, h18⟩ : ∃ a r, r17 = a :: r ∧ ExVal H a (Ax 18) _ ∧ ExL H r _ := by
    cases h17 with
    | cons u t => exact ⟨_, _, rfl, u, t⟩
  obtain ⟨a19, r19, rfl, x19, h19⟩ : ∃ a r, r18 = a :: r ∧ ExVal H a (Ax 19) _ ∧ ExL H r _ := by
    cases h18 with
    | cons u t => exact ⟨_, _, rfl, u, t⟩
  obtain ⟨a20, r20, rfl, x20, h20⟩ : ∃ a r, r19 = a :: r ∧ ExVal H a (Ax 20) _ ∧ ExL H r _ := by
    cases h19 with
    | cons u t => exact ⟨_, _, rfl, u, t⟩
  obtain ⟨a21, r21, rfl, x21, h21⟩ : ∃ a r, r20 = a :: r ∧ ExVal H a (Ax 21) _ ∧ ExL H r _ := by
    cases h20 with
    | cons u t => exact ⟨_, _, rfl, u, t⟩
  obtain ⟨a22, r22, rfl, x22, h22⟩ : ∃ a r, r21 = a :: r ∧ ExVal H a (Ax 22) _ ∧ ExL H r _ := by
    cases h21 with
    | cons u t => exact ⟨_, _, rfl, u, t⟩
  obtain ⟨a23, r23, rfl, x23, h23⟩ : ∃ a r, r22 = a :: r ∧ ExVal H a (Ax 23) _ ∧ ExL H r _ := by
    cases h22 with
    | cons u t => exact ⟨_, _, rfl, u, t⟩
  cases h23
  obtain ⟨g0, d0, Z0⟩ := EO.z0
  obtain ⟨g1, d1, Z1⟩ := EO.z1
  obtain ⟨g2, d2, Z2⟩ := EO.z2
  obtain ⟨g3, d3, Z3⟩ := EO.z3
  obtain ⟨g4, d4, Z4⟩ := EO.z4
  obtain ⟨g5, d5, Z5⟩ := EO.z5
  obtain ⟨g6, d6, Z6⟩ := EO.z6
  obtain ⟨g7, d7, Z7⟩ := EO.z7
  obtain ⟨g8, d8, Z8⟩ := EO.z8
  obtain ⟨g9, d9, Z9⟩ := EO.z9
  obtain ⟨g10, d10, Z10⟩ := EO.z10
  obtain ⟨g11, d11, Z11⟩ := EO.z11
  obtain ⟨g12, d12, Z12⟩ := EO.z12
  obtain ⟨g13, d13, Z13⟩ := EO.z13
  obtain ⟨g14, d14, Z14⟩ := EO.z14
  obtain ⟨g15, d15, Z15⟩ := EO.z15
  obtain ⟨g16, d16, Z16⟩ := EO.z16
  obtain ⟨g17, d17, Z17⟩ := EO.z17
  obtain ⟨g18, d18, Z18⟩ := EO.z18
  obtain ⟨g19, d19, Z19⟩ := EO.z19
  obtain ⟨g20, d20, Z20⟩ := EO.z20
  obtain ⟨g21, d21, Z21⟩ := EO.z21
  obtain ⟨g22, d22, Z22⟩ := EO.z22
  obtain ⟨g23, d23, Z23⟩ := EO.z23
  have nilF : ∀ n, FA K H [] n v := fun n c hc => nomatch hc
  have consF : ∀ {n : Str} {c : Addr} {cs : List Addr}, FldAt K H c n v → FA K H cs n v → FA K H (c :: cs) n v := fun h g c hc => by
    rcases List.mem_cons.mp hc with rfl | hc
    · exact h
    · exact g c hc
  obtain ⟨dx, q1, q2⟩ := x20.is []
  exact ⟨a0, a1, a2, a3, a4, a5, a6, a7, a8, a9, a10, a11, a12, a13, a14, a15, a16, a17, a18, a19, a20, a21, a22, a23, rfl, (consF (fld_of Z0 x0 rfl) (consF (fld_of Z1 x1 rfl) (consF (fld_of Z2 x2 rfl) (consF (fld_of Z3 x3 rfl) (consF (fld_of Z4 x4 rfl) (consF (fld_of Z5 x5 rfl) (consF (fld_of Z6 x6 rfl) (consF (fld_of Z7 x7 rfl) (consF (fld_of Z8 x8 rfl) (consF (fld_of Z9 x9 rfl) (consF (fld_of Z10 x10 rfl) (consF (fld_of Z11 x11 rfl) (consF (fld_of Z12 x12 rfl) (consF (fld_of Z13 x13 rfl) (nilF _))))))))))))))), (consF (fld_of Z14 x14 rfl) (consF (fld_of Z15 x15 rfl) (nilF _))), (consF (fld_of Z16 x16 rfl) (consF (fld_of Z17 x17 rfl) (nilF _))), (consF (fld_of Z18 x18 rfl) (consF (fld_of Z19 x19 rfl) (nilF _))), ⟨_, dx, _, q1, Z20.T.xf, Z20.T.noF, q2, rfl⟩, ⟨_, dx, _, q1, Z20.T.xf, Z20.no2, q2, rfl⟩, fld_of Z21 x21 rfl, fld_of Z22 x22 rfl, fld_of Z23 x23 rfl⟩
def spVals (K : PySem.W.Frag) (Ax : Nat → Addr) : Sp := fun vs H Q _ => ∃ p as v, vs = [.ref p] ∧ H p = some (.lst (as.map V.ref)) ∧ ExL H as (allPs Ax v) ∧ ∀ q H', Same H H' → q ≠ sysModules → H' q = some (.lst (List.replicate 25 v)) → Q (.ref q) H'
end
section
variable {X : Cx}
/-- two lists as one, which is not the module table -/
def rCatN : R2 := fun x y H Q => ∃ l b xs zs, x = .ref l ∧ y = .ref b ∧ H l = some (.lst xs) ∧ H b = some (.lst zs) ∧ xs.length + zs.length ≤ sizeLine ∧ ∀ p, H p = none → p ≠ sysModules → Q (.ref p) (upd H p (.lst (xs ++ zs)))
theorem op_catN : OpR X (binaryOp .Add) rCatN := fun pins s σ H x y v u Q I rx ry ⟨l, b, xs, zs, ex, ey, hl, hb, hz, q⟩ => by
  subst ex ey
  cases (show v = Value.ref l from rx)
  cases (show u = Value.ref b from ry)
  obtain ⟨_, as, n, ra, la, ea⟩ := I.lstM hl
  obtain ⟨_, bs, m, rb, lb, eb⟩ := I.lstM hb
  have sz : as.toArray.size + bs.toArray.size ≤ sizeLine := by rw [List.size_toArray, List.size_toArray]; omega
  refine PySem.P.add_list ea eb ?_ sz
  rw [show as.toArray ++ bs.toArray = (as ++ bs).toArray by simp]
  exact ⟨.ref _, _, I.lnew (t' := s.toks) (ra.append rb) (by rw [List.length_append]; omega), rfl, q _ I.fresh (Nat.ne_of_gt I.big)⟩
end
section
variable {P : Program} {w : World} {K : PySem.W.Frag} {mg : Str → Option Value} {base : Heap}
abbrev nsLawValues : List Str := ["some", "found", "error"]
theorem scLawValues : FnScope nsLawValues ["some"] (defScope sLawValues) := ⟨rfl, rfl, rfl, by decide +kernel, rfl, by decide +kernel, by decide +kernel⟩
theorem ok_law_values {f : Addr} {fd : FuncData} (F : Df K mg "_law_values" sLawValues ["some"] f fd)
    {Ax : Nat → Addr} (EO : ErrOk K mg Ax) : FnOk P w K mg base CX0 1 f fd ["some"] (spVals K Ax) := by
  refine F.F.ok scLawValues (fun vs H Q E h => ?_) (fun cdv A outer s H vs Q E hr h => ?_)
  · obtain ⟨p, as, v, rfl, _⟩ := h
    rfl
  · obtain ⟨p, as, v, rfl, hp, hE, k⟩ := h
    refine ⟨_, (pss_cons (ps_set (i := 1) scLawValues.nd rfl (Or.inl rfl) (pe_op op_cat (pe_lc (own := [("error", 2)]) (g := gName 2) (tt := tYes) rfl scLawValues.nd (pi_list (pe_slice sl_list (pv 0) po_none (po_some pe_int))) (blkOk_by (N := nsLawValues) (sc := defScope sLawValues) (by decide +kernel)) (fun _ _ _ _ _ => pg_name (i := 2) scLawValues.nd rfl (Or.inl rfl)) (fun _ _ _ _ _ => pts_nil) (fun _ _ _ _ _ => (show PE _ _ (tFld K [] "given" (tVar 2)) from pe_fld (pv 2)))) (pe_lc (own := [("error", 2)]) (g := gName 2) (tt := tYes) rfl scLawValues.nd (pi_list (pe_slice sl_list (pv 0) (po_some pe_int) (po_some pe_int))) (blkOk_by (N := nsLawValues) (sc := defScope sLawValues) (by decide +kernel)) (fun _ _ _ _ _ => pg_name (i := 2) scLawValues.nd rfl (Or.inl rfl)) (fun _ _ _ _ _ => pts_nil) (fun _ _ _ _ _ => (show PE _ _ (tFld K [] "part" (tVar 2)) from pe_fld (pv 2))))))
      (pss_cons (ps_set (i := 1) scLawValues.nd rfl (Or.inl rfl) (pe_op op_cat (pe_op op_cat (pv 1) (pe_lc (own := [("error", 2)]) (g := gName 2) (tt := tYes) rfl scLawValues.nd (pi_list (pe_slice sl_list (pv 0) (po_some pe_int) (po_some pe_int))) (blkOk_by (N := nsLawValues) (sc := defScope sLawValues) (by decide +kernel)) (fun _ _ _ _ _ => pg_name (i := 2) scLawValues.nd rfl (Or.inl rfl)) (fun _ _ _ _ _ => pts_nil) (fun _ _ _ _ _ => (show PE _ _ (tFld K [] "paper" (tVar 2)) from pe_fld (pv 2))))) (pe_lc (own := [("error", 2)]) (g := gName 2) (tt := tYes) rfl scLawValues.nd (pi_list (pe_slice sl_list (pv 0) (po_some pe_int) (po_some pe_int))) (blkOk_by (N := nsLawValues) (sc := defScope sLawValues) (by decide +kernel)) (fun _ _ _ _ _ => pg_name (i := 2) scLawValues.nd rfl (Or.inl rfl)) (fun _ _ _ _ _ => pts_nil) (fun _ _ _ _ _ => (show PE _ _ (tFld K [] "path" (tVar 2)) from pe_fld (pv 2))))))
      (pss_one (ps_ret (pe_op op_catN (pv 1) (pe_lst (pa_cons (pe_fld (pe_ix ix_list (pv 0) pe_int (fun _ _ => rfl))) (pa_cons (pe_fld (pe_ix ix_list (pv 0) pe_int (fun _ _ => rfl))) (pa_cons (pe_fld (pe_ix ix_list (pv 0) pe_int (fun _ _ => rfl))) (pa_cons (pe_fld (pe_ix ix_list (pv 0) pe_int (fun _ _ => rfl))) (pa_cons (pe_fld (pe_ix ix_list (pv 0) pe_int (fun _ _ => rfl))) pa_nil))))))))))), ?_⟩
    obtain ⟨a0, a1, a2, a3, a4, a5, a6, a7, a8, a9, a10, a11, a12, a13, a14, a15, a16, a17, a18, a19, a20, a21, a22, a23, rfl, F0, F1, F2, F3, F4, F5, F6, F7, F8⟩ := all24 EO hE
    have S : Same H H := Same.refl H
    have hs : SqL K H p ([V.ref a0, V.ref a1, V.ref a2, V.ref a3, V.ref a4, V.ref a5, V.ref a6, V.ref a7, V.ref a8, V.ref a9, V.ref a10, V.ref a11, V.ref a12, V.ref a13, V.ref a14, V.ref a15, V.ref a16, V.ref a17, V.ref a18, V.ref a19, V.ref a20, V.ref a21, V.ref a22, V.ref a23]) := SqL.of hp
    refine ⟨_, rfl, _, rfl, p, _, rfl, hs, fun b1 m1 => ?_⟩
    have cu1 : cutV [V.ref a0, V.ref a1, V.ref a2, V.ref a3, V.ref a4, V.ref a5, V.ref a6, V.ref a7, V.ref a8, V.ref a9, V.ref a10, V.ref a11, V.ref a12, V.ref a13, V.ref a14, V.ref a15, V.ref a16, V.ref a17, V.ref a18, V.ref a19, V.ref a20, V.ref a21, V.ref a22, V.ref a23] none (some 14) = [a0, a1, a2, a3, a4, a5, a6, a7, a8, a9, a10, a11, a12, a13].map V.ref := by rfl
    rw [cu1]
    have e1 := Same.new (o := .lst ([a0, a1, a2, a3, a4, a5, a6, a7, a8, a9, a10, a11, a12, a13].map V.ref)) m1
    have sb1 : L2.upd H b1 (.lst ([a0, a1, a2, a3, a4, a5, a6, a7, a8, a9, a10, a11, a12, a13].map V.ref)) b1 = some (.lst ([a0, a1, a2, a3, a4, a5, a6, a7, a8, a9, a10, a11, a12, a13].map V.ref)) := upd_same
    replace S := S.trans e1
    replace hs := e1.seq hs
    replace F0 := F0.same e1
    replace F1 := F1.same e1
    replace F2 := F2.same e1
    replace F3 := F3.same e1
    replace F4 := F4.same e1
    replace F5 := F5.same e1
    replace F6 := F6.same e1
    replace F7 := F7.same e1
    replace F8 := F8.same e1
    generalize L2.upd H b1 (.lst ([a0, a1, a2, a3, a4, a5, a6, a7, a8, a9, a10, a11, a12, a13].map V.ref)) = G1 at *
    refine ⟨b1, rfl, ⟨_, SqL.of sb1⟩, fun D1 nD1 => lc_it (walk_list (K := K) (a := b1) (xs := [a0, a1, a2, a3, a4, a5, a6, a7, a8, a9, a10, a11, a12, a13].map V.ref)) (fun i H2 => H2 D1 = some (.lst (List.replicate i v)) ∧ Same G1 H2) ⟨upd_same, Same.new nD1⟩ (fun i H2 _ ⟨_, s1⟩ => s1.seq (SqL.of sb1)) ?_ ?_⟩
    · rintro i x H2 H3 hi ⟨h1, s1⟩ ⟨rfl, hx⟩
      rw [List.getElem?_map] at hx
      obtain ⟨c, hc, rfl⟩ := Option.map_eq_some_iff.mp hx
      obtain ⟨C, dd, fs, y1, y2, y3, y4, y5⟩ := (F0.same s1) c (List.mem_of_getElem? hc)
      refine ⟨rfl, ?_⟩
      dsimp only [tYes]
      rw [if_pos rfl]
      refine ⟨_, rfl, c, C, dd, fs, v, rfl, y1, y2, y3, .inr y4, y5, _, h1, small1000 (by rw [List.length_replicate]; simp at hi; omega), ?_, same_upd nD1 s1⟩
      rw [upd_same, List.replicate_succ']
    rintro K1 ⟨h1, s1⟩
    replace S := S.trans s1
    replace hs := s1.seq hs
    replace F0 := F0.same s1
    replace F1 := F1.same s1
    replace F2 := F2.same s1
    replace F3 := F3.same s1
    replace F4 := F4.same s1
    replace F5 := F5.same s1
    replace F6 := F6.same s1
    replace F7 := F7.same s1
    replace F8 := F8.same s1
    replace h1 : K1 D1 = some (.lst (List.replicate 14 v)) := h1
    refine ⟨_, rfl, _, rfl, _, rfl, p, _, rfl, hs, fun b2 m2 => ?_⟩
    have cu2 : cutV [V.ref a0, V.ref a1, V.ref a2, V.ref a3, V.ref a4, V.ref a5, V.ref a6, V.ref a7, V.ref a8, V.ref a9, V.ref a10, V.ref a11, V.ref a12, V.ref a13, V.ref a14, V.ref a15, V.ref a16, V.ref a17, V.ref a18, V.ref a19, V.ref a20, V.ref a21, V.ref a22, V.ref a23] (some 14) (some 16) = [a14, a15].map V.ref := by rfl
    rw [cu2]
    have e2 := Same.new (o := .lst ([a14, a15].map V.ref)) m2
    have sb2 : L2.upd K1 b2 (.lst ([a14, a15].map V.ref)) b2 = some (.lst ([a14, a15].map V.ref)) := upd_same
    replace S := S.trans e2
    replace hs := e2.seq hs
    replace F0 := F0.same e2
    replace F1 := F1.same e2
    replace F2 := F2.same e2
    replace F3 := F3.same e2
    replace F4 := F4.same e2
    replace F5 := F5.same e2
    replace F6 := F6.same e2
    replace F7 := F7.same e2
    replace F8 := F8.same e2
    replace h1 := e2 _ _ h1
    generalize L2.upd K1 b2 (.lst ([a14, a15].map V.ref)) = G2 at *
    refine ⟨b2, rfl, ⟨_, SqL.of sb2⟩, fun D2 nD2 => lc_it (walk_list (K := K) (a := b2) (xs := [a14, a15].map V.ref)) (fun i H2 => H2 D2 = some (.lst (List.replicate i v)) ∧ Same G2 H2) ⟨upd_same, Same.new nD2⟩ (fun i H2 _ ⟨_, s1⟩ => s1.seq (SqL.of sb2)) ?_ ?_⟩
    · rintro i x H2 H3 hi ⟨h1, s1⟩ ⟨rfl, hx⟩
      rw [List.getElem?_map] at hx
      obtain ⟨c, hc, rfl⟩ := Option.map_eq_some_iff.mp hx
      obtain ⟨C, dd, fs, y1, y2, y3, y4, y5⟩ := (F1.same s1) c (List.mem_of_getElem? hc)
      refine ⟨rfl, ?_⟩
      dsimp only [tYes]
      rw [if_pos rfl]
      refine ⟨_, rfl, c, C, dd, fs, v, rfl, y1, y2, y3, .inr y4, y5, _, h1, small1000 (by rw [List.length_replicate]; simp at hi; omega), ?_, same_upd nD2 s1⟩
      rw [upd_same, List.replicate_succ']
    rintro K2 ⟨h2, s2⟩
    replace S := S.trans s2
    replace hs := s2.seq hs
    replace F0 := F0.same s2
    replace F1 := F1.same s2
    replace F2 := F2.same s2
    replace F3 := F3.same s2
    replace F4 := F4.same s2
    replace F5 := F5.same s2
    replace F6 := F6.same s2
    replace F7 := F7.same s2
    replace F8 := F8.same s2
    replace h1 := s2 _ _ h1
    replace h2 : K2 D2 = some (.lst (List.replicate 2 v)) := h2
    refine ⟨D1, D2, _, _, rfl, rfl, h1, h2, (by rw [List.length_replicate, List.length_replicate]; show 16 ≤ sizeLine; decide), fun D3 m3 => ?_⟩
    have e3 := Same.new (o := .lst (List.replicate 14 v ++ List.replicate 2 v)) m3
    replace S := S.trans e3
    replace hs := e3.seq hs
    replace F0 := F0.same e3
    replace F1 := F1.same e3
    replace F2 := F2.same e3
    replace F3 := F3.same e3
    replace F4 := F4.same e3
    replace F5 := F5.same e3
    replace F6 := F6.same e3
    replace F7 := F7.same e3
    replace F8 := F8.same e3
    have h3 : L2.upd K2 D3 (.lst (List.replicate 14 v ++ List.replicate 2 v)) D3 = some (.lst (List.replicate 16 v)) := by rw [upd_same, List.replicate_append_replicate]
    generalize L2.upd K2 D3 (.lst (List.replicate 14 v ++ List.replicate 2 v)) = G3 at *
    refine ⟨_, rfl, _, rfl, _, rfl, _, rfl, p, _, rfl, hs, fun b4 m4 => ?_⟩
    have cu4 : cutV [V.ref a0, V.ref a1, V.ref a2, V.ref a3, V.ref a4, V.ref a5, V.ref a6, V.ref a7, V.ref a8, V.ref a9, V.ref a10, V.ref a11, V.ref a12, V.ref a13, V.ref a14, V.ref a15, V.ref a16, V.ref a17, V.ref a18, V.ref a19, V.ref a20, V.ref a21, V.ref a22, V.ref a23] (some 16) (some 18) = [a16, a17].map V.ref := by rfl
    rw [cu4]
    have e4 := Same.new (o := .lst ([a16, a17].map V.ref)) m4
    have sb4 : L2.upd G3 b4 (.lst ([a16, a17].map V.ref)) b4 = some (.lst ([a16, a17].map V.ref)) := upd_same
    replace S := S.trans e4
    replace hs := e4.seq hs
    replace F0 := F0.same e4
    replace F1 := F1.same e4
    replace F2 := F2.same e4
    replace F3 := F3.same e4
    replace F4 := F4.same e4
    replace F5 := F5.same e4
    replace F6 := F6.same e4
    replace F7 := F7.same e4
    replace F8 := F8.same e4
    replace h3 := e4 _ _ h3
    generalize L2.upd G3 b4 (.lst ([a16, a17].map V.ref)) = G4 at *
    refine ⟨b4, rfl, ⟨_, SqL.of sb4⟩, fun D4 nD4 => lc_it (walk_list (K := K) (a := b4) (xs := [a16, a17].map V.ref)) (fun i H2 => H2 D4 = some (.lst (List.replicate i v)) ∧ Same G4 H2) ⟨upd_same, Same.new nD4⟩ (fun i H2 _ ⟨_, s1⟩ => s1.seq (SqL.of sb4)) ?_ ?_⟩
    · rintro i x H2 H3 hi ⟨h1, s1⟩ ⟨rfl, hx⟩
      rw [List.getElem?_map] at hx
      obtain ⟨c, hc, rfl⟩ := Option.map_eq_some_iff.mp hx
      obtain ⟨C, dd, fs, y1, y2, y3, y4, y5⟩ := (F2.same s1) c (List.mem_of_getElem? hc)
      refine ⟨rfl, ?_⟩
      dsimp only [tYes]
      rw [if_pos rfl]
      refine ⟨_, rfl, c, C, dd, fs, v, rfl, y1, y2, y3, .inr y4, y5, _, h1, small1000 (by rw [List.length_replicate]; simp at hi; omega), ?_, same_upd nD4 s1⟩
      rw [upd_same, List.replicate_succ']
    rintro K4 ⟨h4, s4⟩
    replace S := S.trans s4
    replace hs := s4.seq hs
    replace F0 := F0.same s4
    replace F1 := F1.same s4
    replace F2 := F2.same s4
    replace F3 := F3.same s4
    replace F4 := F4.same s4
    replace F5 := F5.same s4
    replace F6 := F6.same s4
    replace F7 := F7.same s4
    replace F8 := F8.same s4
    replace h3 := s4 _ _ h3
    replace h4 : K4 D4 = some (.lst (List.replicate 2 v)) := h4
    refine ⟨D3, D4, _, _, rfl, rfl, h3, h4, (by rw [List.length_replicate, List.length_replicate]; show 18 ≤ sizeLine; decide), fun D5 m5 => ?_⟩
    have e5 := Same.new (o := .lst (List.replicate 16 v ++ List.replicate 2 v)) m5
    replace S := S.trans e5
    replace hs := e5.seq hs
    replace F0 := F0.same e5
    replace F1 := F1.same e5
    replace F2 := F2.same e5
    replace F3 := F3.same e5
    replace F4 := F4.same e5
    replace F5 := F5.same e5
    replace F6 := F6.same e5
    replace F7 := F7.same e5
    replace F8 := F8.same e5
    have h5 : L2.upd K4 D5 (.lst (List.replicate 16 v ++ List.replicate 2 v)) D5 = some (.lst (List.replicate 18 v)) := by rw [upd_same, List.replicate_append_replicate]
    generalize L2.upd K4 D5 (.lst (List.replicate 16 v ++ List.replicate 2 v)) = G5 at *
    refine ⟨_, rfl, _, rfl, _, rfl, p, _, rfl, hs, fun b6 m6 => ?_⟩
    have cu6 : cutV [V.ref a0, V.ref a1, V.ref a2, V.ref a3, V.ref a4, V.ref a5, V.ref a6, V.ref a7, V.ref a8, V.ref a9, V.ref a10, V.ref a11, V.ref a12, V.ref a13, V.ref a14, V.ref a15, V.ref a16, V.ref a17, V.ref a18, V.ref a19, V.ref a20, V.ref a21, V.ref a22, V.ref a23] (some 18) (some 20) = [a18, a19].map V.ref := by rfl
    rw [cu6]
    have e6 := Same.new (o := .lst ([a18, a19].map V.ref)) m6
    have sb6 : L2.upd G5 b6 (.lst ([a18, a19].map V.ref)) b6 = some (.lst ([a18, a19].map V.ref)) := upd_same
    replace S := S.trans e6
    replace hs := e6.seq hs
    replace F0 := F0.same e6
    replace F1 := F1.same e6
    replace F2 := F2.same e6
    replace F3 := F3.same e6
    replace F4 := F4.same e6
    replace F5 := F5.same e6
    replace F6 := F6.same e6
    replace F7 := F7.same e6
    replace F8 := F8.same e6
    replace h5 := e6 _ _ h5
    generalize L2.upd G5 b6 (.lst ([a18, a19].map V.ref)) = G6 at *
    refine ⟨b6, rfl, ⟨_, SqL.of sb6⟩, fun D6 nD6 => lc_it (walk_list (K := K) (a := b6) (xs := [a18, a19].map V.ref)) (fun i H2 => H2 D6 = some (.lst (List.replicate i v)) ∧ Same G6 H2) ⟨upd_same, Same.new nD6⟩ (fun i H2 _ ⟨_, s1⟩ => s1.seq (SqL.of sb6)) ?_ ?_⟩
    · rintro i x H2 H3 hi ⟨h1, s1⟩ ⟨rfl, hx⟩
      rw [List.getElem?_map] at hx
      obtain ⟨c, hc, rfl⟩ := Option.map_eq_some_iff.mp hx
      obtain ⟨C, dd, fs, y1, y2, y3, y4, y5⟩ := (F3.same s1) c (List.mem_of_getElem? hc)
      refine ⟨rfl, ?_⟩
      dsimp only [tYes]
      rw [if_pos rfl]
      refine ⟨_, rfl, c, C, dd, fs, v, rfl, y1, y2, y3, .inr y4, y5, _, h1, small1000 (by rw [List.length_replicate]; simp at hi; omega), ?_, same_upd nD6 s1⟩
      rw [upd_same, List.replicate_succ']
    rintro K6 ⟨h6, s6⟩
    replace S := S.trans s6
    replace hs := s6.seq hs
    replace F0 := F0.same s6
    replace F1 := F1.same s6
    replace F2 := F2.same s6
    replace F3 := F3.same s6
    replace F4 := F4.same s6
    replace F5 := F5.same s6
    replace F6 := F6.same s6
    replace F7 := F7.same s6
    replace F8 := F8.same s6
    replace h5 := s6 _ _ h5
    replace h6 : K6 D6 = some (.lst (List.replicate 2 v)) := h6
    refine ⟨D5, D6, _, _, rfl, rfl, h5, h6, (by rw [List.length_replicate, List.length_replicate]; show 20 ≤ sizeLine; decide), fun D7 m7 => ?_⟩
    have e7 := Same.new (o := .lst (List.replicate 18 v ++ List.replicate 2 v)) m7
    replace S := S.trans e7
    replace hs := e7.seq hs
    replace F0 := F0.same e7
    replace F1 := F1.same e7
    replace F2 := F2.same e7
    replace F3 := F3.same e7
    replace F4 := F4.same e7
    replace F5 := F5.same e7
    replace F6 := F6.same e7
    replace F7 := F7.same e7
    replace F8 := F8.same e7
    have h7 : L2.upd K6 D7 (.lst (List.replicate 18 v ++ List.replicate 2 v)) D7 = some (.lst (List.replicate 20 v)) := by rw [upd_same, List.replicate_append_replicate]
    generalize L2.upd K6 D7 (.lst (List.replicate 18 v ++ List.replicate 2 v)) = G7 at *
    obtain ⟨C4, d4, f4, x41, x42, x43, x44, x45⟩ := F4
    obtain ⟨C5, d5, f5, x51, x52, x53, x54, x55⟩ := F5
    obtain ⟨C6, d6, f6, x61, x62, x63, x64, x65⟩ := F6
    obtain ⟨C7, d7, f7, x71, x72, x73, x74, x75⟩ := F7
    obtain ⟨C8, d8, f8, x81, x82, x83, x84, x85⟩ := F8
    refine ⟨_, rfl, _, rfl, p, _, 20, .ref a20, rfl, rfl, hs, atI_nat (j := 20) rfl, a20, C4, d4, f4, v, rfl, x41, x42, x43, .inr x44, x45, _, rfl, p, _, 20, .ref a20, rfl, rfl, hs, atI_nat (j := 20) rfl, a20, C5, d5, f5, v, rfl, x51, x52, x53, .inr x54, x55, _, rfl, p, _, 21, .ref a21, rfl, rfl, hs, atI_nat (j := 21) rfl, a21, C6, d6, f6, v, rfl, x61, x62, x63, .inr x64, x65, _, rfl, p, _, 22, .ref a22, rfl, rfl, hs, atI_nat (j := 22) rfl, a22, C7, d7, f7, v, rfl, x71, x72, x73, .inr x74, x75, _, rfl, p, _, 23, .ref a23, rfl, rfl, hs, atI_nat (j := 23) rfl, a23, C8, d8, f8, v, rfl, x81, x82, x83, .inr x84, x85, (by show 5 ≤ sizeLine; decide), fun q1 m1 => ?_⟩
    refine ⟨D7, q1, _, _, rfl, rfl, Same.new m1 _ _ h7, upd_same, (by rw [List.length_replicate]; show 25 ≤ sizeLine; decide), fun q2 m2 ne => ?_⟩
    exact k q2 _ (S.trans ((Same.new m1).trans (Same.new m2))) ne (by rw [upd_same]; rfl)
end
end CS
set_option Elab.async false
set_option maxRecDepth 100000
set_option maxHeartbeats 4000000
set_option linter.unusedVariables false
/-! data of any kind: what keeps it, what it is an instance of, slices, sums, membership -/
namespace CS
open PySem L2
end CS
namespace L2
open PySem CS
section
variable {K : PySem.W.Frag} {H H' : Hp}
mutual
theorem Dp.same (e : Same H H') : ∀ {d : PyData} {v : V}, Dp K H v d → Dp K H' v d
  | .none, _, .non => .non
  | .bool _, _, .bl b => .bl b
  | .int _, _, .int i => .int i
  | .str _, _, .str x => .str x
  | .list _, _, .lst h a => .lst (e.seq h) (DpAll.same e a)
  | .tuple _, _, .tup h a => .tup (e.tup h) (DpAll.same e a)
theorem DpAll.same (e : Same H H') : ∀ {ds : List PyData} {vs : List V}, DpAll K H vs ds → DpAll K H' vs ds
  | [], _, .nil => .nil
  | _ :: _, _, .cons a b => .cons (Dp.same e a) (DpAll.same e b)
end

mutual
def flatD : PyData → Bool
  | .list _ => false
  | .dict _ => false
  | .tuple ds => flatDs ds
  | _ => true
def flatDs : List PyData → Bool
  | [] => true
  | d :: ds => flatD d && flatDs ds
end
mutual
theorem Dp.tk (e : TK K H H') : ∀ {d : PyData} {v : V}, flatD d = true → Dp K H v d → Dp K H' v d
  | .none, _, _, .non => .non
  | .bool _, _, _, .bl b => .bl b
  | .int _, _, _, .int i => .int i
  | .str _, _, _, .str x => .str x
  | .tuple ds, _, f, .tup h a => .tup (e _ _ h) (DpAll.tk e (by simpa [flatD] using f) a)
theorem DpAll.tk (e : TK K H H') : ∀ {ds : List PyData} {vs : List V}, flatDs ds = true → DpAll K H vs ds → DpAll K H' vs ds
  | [], _, _, .nil => .nil
  | d :: ds, _, f, .cons a b => by
    have f2 : (flatD d && flatDs ds) = true := by simpa [flatDs] using f
    rw [Bool.and_eq_true] at f2
    exact .cons (Dp.tk e f2.1 a) (DpAll.tk e f2.2 b)
end
theorem DpAll.len : ∀ {vs : List V} {ds : List PyData}, DpAll K H vs ds → vs.length = ds.length
  | _, _, .nil => rfl
  | _, _, .cons _ b => by simp [DpAll.len b]
theorem DpAll.app : ∀ {vs ws : List V} {ds es : List PyData}, DpAll K H vs ds → DpAll K H ws es → DpAll K H (vs ++ ws) (ds ++ es)
  | _, _, _, _, .nil, g => g
  | _, _, _, _, .cons a b, g => .cons a (DpAll.app b g)
theorem DpAll.drop : ∀ {vs : List V} {ds : List PyData} (n : Nat), DpAll K H vs ds → DpAll K H (vs.drop n) (ds.drop n)
  | _, _, 0, h => h
  | _, _, _ + 1, .nil => .nil
  | _, _, n + 1, .cons _ b => DpAll.drop n b
theorem DpAll.take : ∀ {vs : List V} {ds : List PyData} (n : Nat), DpAll K H vs ds → DpAll K H (vs.take n) (ds.take n)
  | _, _, 0, _ => .nil
  | _, _, _ + 1, .nil => .nil
  | _, _, n + 1, .cons a b => .cons a (DpAll.take n b)
theorem DpAll.get : ∀ {vs : List V} {ds : List PyData} {i : Nat} {v : V}, DpAll K H vs ds → vs[i]? = some v → ∃ d, ds[i]? = some d ∧ Dp K H v d
  | _, _, 0, _, .cons a _, e => by
    cases e
    exact ⟨_, rfl, a⟩
  | _, _, i + 1, _, .cons _ b, e => by
    obtain ⟨d, h1, h2⟩ := DpAll.get b (by simpa using e)
    exact ⟨d, by simpa using h1, h2⟩
theorem DpAll.at : ∀ {vs : List V} {ds : List PyData} {i : Nat} {d : PyData}, DpAll K H vs ds → ds[i]? = some d → ∃ v, vs[i]? = some v ∧ Dp K H v d
  | _, _, 0, _, .cons a _, e => by
    cases e
    exact ⟨_, rfl, a⟩
  | _, _, i + 1, _, .cons _ b, e => by
    obtain ⟨v, h1, h2⟩ := DpAll.at b (by simpa using e)
    exact ⟨v, by simpa using h1, h2⟩
theorem DpAll.ints : ∀ ns : List Int, DpAll K H (ns.map V.int) (ns.map PyData.int)
  | [] => .nil
  | n :: ns => .cons (.int n) (DpAll.ints ns)
theorem DpAll.of_ints : ∀ {ns : List Int} {vs : List V}, DpAll K H vs (ns.map PyData.int) → vs = ns.map V.int
  | [], _, .nil => rfl
  | _ :: _, _, .cons (.int _) b => by rw [DpAll.of_ints b]; rfl
theorem Dp.tup_inv {v : V} {ds : List PyData} (h : Dp K H v (.tuple ds)) : ∃ a xs, v = .ref a ∧ SqT K H a xs ∧ DpAll K H xs ds := by
  cases h with
  | tup h a => exact ⟨_, _, rfl, h, a⟩
theorem Dp.lst_inv {v : V} {ds : List PyData} (h : Dp K H v (.list ds)) : ∃ a xs, v = .ref a ∧ SqL K H a xs ∧ DpAll K H xs ds := by
  cases h with
  | lst h a => exact ⟨_, _, rfl, h, a⟩
theorem Dp.new_tup {p : Addr} {xs : List V} {ds : List PyData} (n : H p = none) (h : DpAll K H xs ds) : Dp K (upd H p (.tup xs)) (.ref p) (.tuple ds) := .tup (SqT.of upd_same) (h.same (Same.new n))
theorem Dp.new_lst {p : Addr} {xs : List V} {ds : List PyData} (n : H p = none) (h : DpAll K H xs ds) : Dp K (upd H p (.lst xs)) (.ref p) (.list ds) := .lst (SqL.of upd_same) (h.same (Same.new n))
mutual
theorem Dp.noDict : ∀ {d : PyData} {v : V}, Dp K H v d → d.hasDict = false
  | .none, _, .non => rfl
  | .bool _, _, .bl _ => rfl
  | .int _, _, .int _ => rfl
  | .str _, _, .str _ => rfl
  | .list ds, _, .lst _ a => by
    rw [PyData.hasDict]
    exact DpAll.noDict a
  | .tuple ds, _, .tup _ a => by
    rw [PyData.hasDict]
    exact DpAll.noDict a
theorem DpAll.noDict : ∀ {ds : List PyData} {vs : List V}, DpAll K H vs ds → PyData.hasDictAll ds = false
  | [], _, .nil => rfl
  | d :: ds, _, .cons a b => by
    rw [PyData.hasDictAll, Dp.noDict a, DpAll.noDict b]
    rfl
end
/-! isinstance -/
def tyD : PyData → String
  | .none => "NoneType"
  | .bool _ => "bool"
  | .int _ => "int"
  | .str _ => "str"
  | .list _ => "list"
  | .tuple _ => "tuple"
  | .dict _ => "dict"
theorem TyX.of_lst {p : Addr} {xs : List V} (h : SqL K H p xs) : TyX K H (.ref p) (.type "list") := by
  rcases h with (h | ⟨o, h⟩) | ⟨o, its, n, h, c, _⟩
  · exact .base (.lst h)
  · exact .base (.frz h)
  · exact .kList h c
theorem Dp.ty {v : V} {d : PyData} (h : Dp K H v d) : TyX K H v (.type (tyD d)) := by
  cases h with
  | non => exact .base .non
  | bl b => exact .base (.bl b)
  | int i => exact .base (.int i)
  | str x => exact .base (.str x)
  | lst h _ => exact TyX.of_lst h
  | tup h _ => exact TyX.of_tup h
def isIntD : PyData → Bool
  | .int _ => true
  | .bool _ => true
  | _ => false
theorem kit_int : ∀ d : PyData, d.hasDict = false → kitB (tyD d) "int" = some (isIntD d)
  | .none, _ => (by decide +kernel : kitB "NoneType" "int" = some false)
  | .bool _, _ => (by decide +kernel : kitB "bool" "int" = some true)
  | .int _, _ => (by decide +kernel : kitB "int" "int" = some true)
  | .str _, _ => (by decide +kernel : kitB "str" "int" = some false)
  | .list _, _ => (by decide +kernel : kitB "list" "int" = some false)
  | .tuple _, _ => (by decide +kernel : kitB "tuple" "int" = some false)
  | .dict _, h => by simp [PyData.hasDict] at h
def isBoolD : PyData → Bool
  | .bool _ => true
  | _ => false
theorem kit_bool : ∀ d : PyData, d.hasDict = false → kitB (tyD d) "bool" = some (isBoolD d)
  | .none, _ => (by decide +kernel : kitB "NoneType" "bool" = some false)
  | .bool _, _ => (by decide +kernel : kitB "bool" "bool" = some true)
  | .int _, _ => (by decide +kernel : kitB "int" "bool" = some false)
  | .str _, _ => (by decide +kernel : kitB "str" "bool" = some false)
  | .list _, _ => (by decide +kernel : kitB "list" "bool" = some false)
  | .tuple _, _ => (by decide +kernel : kitB "tuple" "bool" = some false)
  | .dict _, h => by simp [PyData.hasDict] at h
def isStrD : PyData → Bool
  | .str _ => true
  | _ => false
theorem kit_str : ∀ d : PyData, d.hasDict = false → kitB (tyD d) "str" = some (isStrD d)
  | .none, _ => (by decide +kernel : kitB "NoneType" "str" = some false)
  | .bool _, _ => (by decide +kernel : kitB "bool" "str" = some false)
  | .int _, _ => (by decide +kernel : kitB "int" "str" = some false)
  | .str _, _ => (by decide +kernel : kitB "str" "str" = some true)
  | .list _, _ => (by decide +kernel : kitB "list" "str" = some false)
  | .tuple _, _ => (by decide +kernel : kitB "tuple" "str" = some false)
  | .dict _, h => by simp [PyData.hasDict] at h
def isTupleD : PyData → Bool
  | .tuple _ => true
  | _ => false
theorem kit_tuple : ∀ d : PyData, d.hasDict = false → kitB (tyD d) "tuple" = some (isTupleD d)
  | .none, _ => (by decide +kernel : kitB "NoneType" "tuple" = some false)
  | .bool _, _ => (by decide +kernel : kitB "bool" "tuple" = some false)
  | .int _, _ => (by decide +kernel : kitB "int" "tuple" = some false)
  | .str _, _ => (by decide +kernel : kitB "str" "tuple" = some false)
  | .list _, _ => (by decide +kernel : kitB "list" "tuple" = some false)
  | .tuple _, _ => (by decide +kernel : kitB "tuple" "tuple" = some true)
  | .dict _, h => by simp [PyData.hasDict] at h
end
end L2
namespace CS
open PySem L2
section
variable {K : PySem.W.Frag} {H H' : Hp}
/-! class names -/
theorem cn_int {v : V} {i : Int} (h : Dp K H v (.int i)) : CN K H v "int" := by
  cases h
  exact .int i
theorem cn_bool {v : V} {b : Bool} (h : Dp K H v (.bool b)) : CN K H v "bool" := by
  cases h
  exact .bl b
theorem cn_str {v : V} {x : Str} (h : Dp K H v (.str x)) : CN K H v "str" := by
  cases h
  exact .str x
theorem cn_tup {v : V} {ds : List PyData} (h : Dp K H v (.tuple ds)) : CN K H v "tuple" := by
  cases h with
  | tup h a => exact .tup h
end
/-! slices and sums of tuples as data -/
def cutD {α : Type} (xs : List α) (lo hi : Option Int) : List α := (xs.drop (HT.sIx xs.length 0 lo)).take (HT.sIx xs.length xs.length hi - HT.sIx xs.length 0 lo)
def rCutD (K : PySem.W.Frag) : V → Option Int → Option Int → Hp → VK → Prop := fun x lo hi H Q => ∃ ds, Dp K H x (.tuple ds) ∧ ∀ H' v, Same H H' → Dp K H' v (.tuple (cutD ds lo hi)) → Q v H'
section
variable {X : Cx}
theorem sl_data : L2.SlR X (rCutD X.K) := by
  intro pins s σ H x v vl vu lo hi sl Q I rx hs pl pu ⟨ds, hd, q⟩
  obtain ⟨a, xs, rfl, hx, ha⟩ := hd.tup_inv
  have l := ha.len
  refine sl_tupA pins s σ H _ v vl vu lo hi sl Q I rx hs pl pu ⟨a, xs, rfl, hx, fun w => ?_, fun _ p np => ?_⟩
  · refine q H _ (Same.refl H) ?_
    have e : cutD ds lo hi = ds := by
      unfold cutD
      rw [← l, w.1, w.2, List.drop_zero, Nat.sub_zero, l, List.take_length]
    rw [e]
    exact hd
  · refine q _ _ (Same.new np) (.tup (SqT.of upd_same) ?_)
    unfold cutV cutD
    rw [l]
    exact (((ha.drop _).take _).same (Same.new np))
def rSumD (K : PySem.W.Frag) : R2 := fun x y H Q => ∃ ds es, Dp K H x (.tuple ds) ∧ Dp K H y (.tuple es) ∧ ds.length + es.length ≤ 1000 ∧ ∀ H' v, Same H H' → Dp K H' v (.tuple (ds ++ es)) → Q v H'
theorem op_sumD : OpR X (binaryOp .Add) (rSumD X.K) := by
  intro pins s σ H x y v u Q I rx ry ⟨ds, es, hd, he, sz, q⟩
  obtain ⟨a, xs, rfl, hx, ha⟩ := hd.tup_inv
  obtain ⟨b, ys, rfl, hy, hb⟩ := he.tup_inv
  have l1 := ha.len
  have l2 := hb.len
  refine op_catA pins s σ H _ _ v u Q I rx ry ⟨a, b, xs, ys, rfl, rfl, hx, hy, Nat.le_of_lt (small1000 (by omega)), fun e => ?_, fun _ e => ?_, fun _ _ p np => ?_⟩
  · subst e
    have : ds = [] := List.eq_nil_of_length_eq_zero (by rw [← l1]; rfl)
    subst this
    exact q H _ (Same.refl H) he
  · subst e
    have : es = [] := List.eq_nil_of_length_eq_zero (by rw [← l2]; rfl)
    subst this
    rw [List.append_nil] at q
    exact q H _ (Same.refl H) hd
  · exact q _ _ (Same.new np) (Dp.new_tup np (ha.app hb))
/-- x in t, x not in t -/
def rMemD (K : PySem.W.Frag) (neg : Bool) : R2 := fun x y H Q => ∃ d ds, Dp K H x d ∧ Dp K H y (.tuple ds) ∧ SeqAt.shaped d = true ∧ SeqAt.shaped (.tuple ds) = true ∧ Q (.bl (if neg then !ds.any fun z => PyData.eqv z d else ds.any fun z => PyData.eqv z d)) H
theorem op_memT (hu : X.A.units + 64 < cLine) : OpR X (compareOp .In) (rMemD X.K false) := by
  intro pins s σ H x y v u Q I rx ry ⟨d, ds, hd, he, sd, se, q⟩
  obtain ⟨as, r1⟩ := Dp.reads I d x v hd rx
  obtain ⟨bs, r2⟩ := Dp.reads I (.tuple ds) y u he ry
  refine SeqAt.in_tuple_reads r2 r1 (by simpa [PyData.canLay0] using SeqAt.canLay_of_shaped se) (SeqAt.canLay_of_shaped sd) ?_ ⟨.bl _, H, I, rfl, q⟩
  have z := SeqAt.depth_of_shaped se
  have : 1 + PyData.depthAll ds = (PyData.tuple ds).depth := by simp [PyData.depth]; omega
  have := Nat.min_le_left (PyData.depthAll ds) d.depth
  omega
theorem op_notT (hu : X.A.units + 64 < cLine) : OpR X (compareOp .NotIn) (rMemD X.K true) := by
  intro pins s σ H x y v u Q I rx ry ⟨d, ds, hd, he, sd, se, q⟩
  obtain ⟨as, r1⟩ := Dp.reads I d x v hd rx
  obtain ⟨bs, r2⟩ := Dp.reads I (.tuple ds) y u he ry
  refine SeqAt.notIn_tuple_reads r2 r1 (by simpa [PyData.canLay0] using SeqAt.canLay_of_shaped se) (SeqAt.canLay_of_shaped sd) ?_ ⟨.bl _, H, I, rfl, q⟩
  have z := SeqAt.depth_of_shaped se
  have : 1 + PyData.depthAll ds = (PyData.tuple ds).depth := by simp [PyData.depth]; omega
  have := Nat.min_le_left (PyData.depthAll ds) d.depth
  omega
def rMemL (K : PySem.W.Frag) : R2 := fun x y H Q => ∃ d ds, Dp K H x d ∧ Dp K H y (.list ds) ∧ SeqAt.shaped d = true ∧ SeqAt.shaped (.list ds) = true ∧ Q (.bl (ds.any fun z => PyData.eqv z d)) H
theorem op_memL (hu : X.A.units + 65 < cLine) : OpR X (compareOp .In) (rMemL X.K) := fun pins s σ H x y v u Q I rx ry h => op_inD hu pins s σ H x y v u Q I rx ry h
end
end CS
set_option Elab.async false
set_option maxRecDepth 100000
set_option maxHeartbeats 8000000
set_option linter.unusedVariables false
set_option pp.maxSteps 9000
/-! all errors of one thing: their classes, what stands above them, their fields -/
namespace CS
open PySem PySem.Spec PyProof.Rows L2
/-! lists of bools as data -/
abbrev bD (bs : List Bool) : PyData := .list (bs.map PyData.bool)
theorem bD_eqv : ∀ bs : List Bool, PyData.eqvAll (bs.map PyData.bool) (bs.map PyData.bool) = true
  | [] => rfl
  | b :: bs => by
    rw [List.map_cons, PyData.eqvAll, bD_eqv bs]
    cases b <;> rfl
theorem bD_refl (bs : List Bool) : PyData.eqv (bD bs) (bD bs) = true := by rw [PyData.eqv]; exact bD_eqv bs
theorem bD_lay : ∀ bs : List Bool, PyData.canLayAll0 (bs.map PyData.bool) = true ∧ PyData.depthAll (bs.map PyData.bool) = 0
  | [] => ⟨rfl, rfl⟩
  | b :: bs => ⟨by simp only [List.map_cons, PyData.canLayAll0, PyData.canLay0, (bD_lay bs).1, Bool.and_true], by simp only [List.map_cons, PyData.depthAll, PyData.depth, (bD_lay bs).2, Nat.max_self]⟩
theorem bD_shaped (bs : List Bool) : SeqAt.shaped (bD bs) = true := by
  unfold SeqAt.shaped
  rw [Bool.and_eq_true, decide_eq_true_eq]
  refine ⟨?_, ?_⟩
  · rw [PyData.canLay0]
    exact (bD_lay bs).1
  · rw [PyData.depth, (bD_lay bs).2]
    decide
theorem DpAll.bools {K : PySem.W.Frag} {H : Hp} : ∀ bs : List Bool, DpAll K H (bs.map V.bl) (bs.map PyData.bool)
  | [] => .nil
  | b :: bs => .cons (.bl b) (DpAll.bools bs)
theorem dp_bools {K : PySem.W.Frag} {H : Hp} {p : Addr} {bs : List Bool} (h : H p = some (.lst (bs.map V.bl))) : Dp K H (.ref p) (bD bs) := .lst (SqL.of h) (DpAll.bools bs)
abbrev bsS (j : Nat) : List Bool := (List.range 24).map fun i => decide (i = j)
theorem sortsL_eq (j : Nat) : sortsL j = (bsS j).map V.bl := by
  unfold sortsL bsS
  rw [List.map_map]
  rfl
abbrev bsA (j : Nat) : List Bool := [decide (j < 21 ∨ j = 24), decide (j < 21 ∨ j = 24), decide (j = 21), decide (j = 22), decide (j = 23)]
theorem all_at {Ax : Nat → Addr} {v : V} : ∀ j, j < 24 → ∃ fs, (allPs Ax v)[j]? = some (Ax j, fs)
  | 0, _ => ⟨_, rfl⟩ | 1, _ => ⟨_, rfl⟩ | 2, _ => ⟨_, rfl⟩ | 3, _ => ⟨_, rfl⟩ | 4, _ => ⟨_, rfl⟩ | 5, _ => ⟨_, rfl⟩ | 6, _ => ⟨_, rfl⟩ | 7, _ => ⟨_, rfl⟩
  | 8, _ => ⟨_, rfl⟩ | 9, _ => ⟨_, rfl⟩ | 10, _ => ⟨_, rfl⟩ | 11, _ => ⟨_, rfl⟩ | 12, _ => ⟨_, rfl⟩ | 13, _ => ⟨_, rfl⟩ | 14, _ => ⟨_, rfl⟩ | 15, _ => ⟨_, rfl⟩
  | 16, _ => ⟨_, rfl⟩ | 17, _ => ⟨_, rfl⟩ | 18, _ => ⟨_, rfl⟩ | 19, _ => ⟨_, rfl⟩ | 20, _ => ⟨_, rfl⟩ | 21, _ => ⟨_, rfl⟩ | 22, _ => ⟨_, rfl⟩ | 23, _ => ⟨_, rfl⟩
  | n + 24, h => absurd h (by omega)
/-! a thing that may be shown: data, or an empty dict -/
def ShowV (K : PySem.W.Frag) (H : Hp) (v : V) (d : PyData) : Prop := (Dp K H v d ∧ d.hasDict = false) ∨ (∃ b, v = .ref b ∧ H b = some (.dK []) ∧ d = .dict [])
theorem ShowV.same {K : PySem.W.Frag} {H H' : Hp} {v : V} {d : PyData} (x : ShowV K H v d) (e : Same H H') : ShowV K H' v d := x.imp (fun ⟨h, n⟩ => ⟨Dp.same e h, n⟩) fun ⟨b, h1, h2, h3⟩ => ⟨b, h1, e _ _ h2, h3⟩
section
variable {X : Cx} {pins : List (Addr × Obj)} {σ : L2.St} {H : Hp} {s : Shared}
theorem reads_rep {h : Heap} {u : Value} {d : PyData} {as : List Addr} (r : Reads h u d as) : ∀ n : Nat, ∃ bs, ReadsAll h (List.replicate n u) (List.replicate n d) bs ∧ ∀ a ∈ bs, a ∈ as
  | 0 => ⟨[], .nil, fun _ h => nomatch h⟩
  | n + 1 => by
    obtain ⟨bs, r2, k⟩ := reads_rep r n
    refine ⟨as ++ bs, .cons r r2, fun a ha => ?_⟩
    rcases List.mem_append.mp ha with h | h
    · exact h
    · exact k a h
theorem vals_rep {v : V} : ∀ {n : Nat} {us : List Value}, Vals (List.replicate n v) us → ∀ u ∈ us, RelV v u
  | 0, _, .nil, _, h => nomatch h
  | n + 1, _, .cons r t, u, h => by
    rcases List.mem_cons.mp h with rfl | h
    · exact r
    · exact vals_rep (n := n) t u h
theorem readsAll_rep {h : Heap} {v : V} {d : PyData} (P : List Addr → Prop) (hP : ∀ as bs, P as → P bs → P (as ++ bs)) (h0 : P []) (r : ∀ u, RelV v u → ∃ as, Reads h u d as ∧ P as) : ∀ {n : Nat} {us : List Value}, Vals (List.replicate n v) us → ∃ bs, ReadsAll h us (List.replicate n d) bs ∧ P bs
  | 0, _, .nil => ⟨[], .nil, h0⟩
  | n + 1, _, .cons q t => by
    obtain ⟨as, r1, p1⟩ := r _ q
    obtain ⟨bs, r2, p2⟩ := readsAll_rep P hP h0 r (n := n) t
    exact ⟨as ++ bs, .cons r1 r2, hP _ _ p1 p2⟩
/-- repr of a list of like things -/
def rShowN (K : PySem.W.Frag) : List V → Hp → VK → Prop := fun xs H Q => ∃ p v d n, xs = [.ref p] ∧ p ≠ sysModules ∧ H p = some (.lst (List.replicate n v)) ∧ ShowV K H v d ∧ (PyData.list (List.replicate n d)).showable = true ∧ d.depth ≤ 50 ∧ (PyData.list (List.replicate n d)).depth ≤ 60 ∧ (PyData.list (List.replicate n d)).shown.length + 64 ≤ sizeLine ∧ Q (.str (PyData.list (List.replicate n d)).shown) H
theorem call_showN (hq : X.A.guards = some []) (hu : X.A.units + 64 < cLine) : CallR X (.builtin "repr") (rShowN X.K) := by
  intro pins s σ H xs us Q I r ⟨p, v, d, n, ex, np, hp, hv, h1, h2, h3, h4, q⟩
  subst ex
  obtain ⟨u, rfl, rv⟩ := vals1 r
  cases (show u = Value.ref p from rv)
  obtain ⟨z, its, m, ri, li, e⟩ := I.lstM hp
  rcases hv with ⟨hd, nd⟩ | ⟨b, rfl, hb, rfl⟩
  · obtain ⟨bs, r2, _⟩ := readsAll_rep (h := s.heap) (d := d) (fun _ => True) (fun _ _ _ _ => trivial) trivial (fun u ru => let ⟨as, r⟩ := Dp.reads I d v u hd ru; ⟨as, r, trivial⟩) ri
    have nl : (PyData.list (List.replicate n d)).hasDict = false := by
      rw [PyData.hasDict]
      clear h1 h3 h4 q ri hp r2 z li
      induction n with
      | zero => rfl
      | succ n ih => rw [List.replicate_succ, PyData.hasDictAll, nd, ih]; rfl
    exact repr_of_reads' (Reads.list e rfl rfl r2) h1 (PyData.noDict_hsm nl) hq (by omega) (fun _ _ e => e) (fun h' t tk kp => ⟨.str _, H, I.kept (t' := tk) kp, ⟨_, rfl⟩, q⟩) (by omega)
  · obtain ⟨_, nb, vs, kv, o, es, ep, eo, ed, ee, rest⟩ := (show ObjOk X.prog X.w H s.heap b (.dK []) from I.hok b _ hb)
    cases kv
    obtain ⟨bs, r2, k⟩ := readsAll_rep (h := s.heap) (d := .dict []) (fun as => sysModules ∉ as) (fun as bs h g z => (List.mem_append.mp z).elim h g) (fun h => nomatch h) (fun u ru => by
      cases (show u = Value.ref b from ru)
      have e0 : es.toList = [] := by
        obtain ⟨_, pr, _⟩ := rest
        cases hq3 : es.toList with
        | nil => rfl
        | cons a r => rw [hq3] at pr; cases pr
      refine ⟨[b], Reads.dict (kvs := []) (as := []) (bs := []) eo ed.1 ee (by rw [e0]; exact .nil) (by rw [e0]; exact .nil), fun z => ?_⟩
      have e2 : sysModules = b := by simpa using z
      rw [e2, beq_self_eq_true] at nb
      cases nb) ri
    refine repr_of_reads' (Reads.list e rfl rfl r2) h1 (fun _ z => ?_) hq (by omega) (fun _ _ e => e) (fun h' t tk kp => ⟨.str _, H, I.kept (t' := tk) kp, ⟨_, rfl⟩, q⟩) (by omega)
    rcases List.mem_cons.mp z with z | z
    · exact np z.symm
    · exact k z
/-- [v] * k: a new list, which is not the module table -/
def rRepN : R2 := fun x y H Q => ∃ (l : Addr) (k : Int) (v : V), x = .ref l ∧ y = .int k ∧ H l = some (.lst [v]) ∧ 0 ≤ k ∧ k ≤ 1000 ∧ ∀ p, H p = none → p ≠ sysModules → Q (.ref p) (upd H p (.lst (List.replicate k.toNat v)))
theorem op_repN : OpR X (binaryOp .Mult) rRepN := fun pins s σ H x y v u Q I rx ry ⟨l, k, w, ex, ey, hl, hk0, hk, q⟩ => by
  subst ex ey
  cases (show v = Value.ref l from rx)
  obtain ⟨t, rfl⟩ := ry
  obtain ⟨_, as, n, ra, la, ea⟩ := I.lstM hl
  obtain ⟨b, eb⟩ : ∃ b, as = [b] := match as, la with | [b], _ => ⟨b, rfl⟩
  have sz : as.toArray.size = 1 := by rw [List.size_toArray, eb]; rfl
  have one : as.toArray.size * k.toNat ≤ sizeLine := by rw [sz, sizeLine_eq]; omega
  have a1 : ¬ (!Builtin.List.listFitsIndex k) = true := fun z => by
    rw [fitsIndex_both (by omega) (by omega)] at z
    cases z
  have a2 : ¬ as.toArray.size * k.toNat > (2 ^ 63 - 1) / 8 := by
    rw [sz]
    omega
  have a3 : ¬ Builtin.List.listTooLong (as.toArray.size * k.toNat) = true := fun z => by
    rw [notLongL one] at z
    cases z
  have grow : ∀ (m j : Nat), List.foldl (fun x1 x2 => x1 ++ x2) (List.replicate j b).toArray (List.replicate m as.toArray) = (List.replicate (j + m) b).toArray := fun m => by
    induction m with
    | zero => intro j; rfl
    | succ m ih =>
      intro j
      rw [List.replicate_succ, List.foldl_cons]
      have e : (List.replicate j b).toArray ++ as.toArray = (List.replicate (j + 1) b).toArray := by
        rw [List.replicate_succ', eb]
        apply Array.ext'
        simp
      have e2 := ih (j + 1)
      rw [Nat.add_assoc, Nat.add_comm 1 m] at e2
      exact (congrArg (fun z => List.foldl (fun x1 x2 => x1 ++ x2) z (List.replicate m as.toArray)) e).trans e2
  have made : List.foldl (fun x1 x2 => x1 ++ x2) #[] (List.replicate (if as.toArray.isEmpty = true then 0 else k.toNat) as.toArray) = (List.replicate k.toNat b).toArray := by
    rw [if_neg (by rw [eb]; simp)]
    have g0 := grow k.toNat 0
    rw [Nat.zero_add] at g0
    exact g0
  have rr : ∀ m : Nat, Vals (List.replicate m w) (List.replicate m b) := fun m => by
    rw [eb] at ra
    induction m with
    | zero => exact .nil
    | succ m ih => cases ra with | cons r _ => exact .cons r ih
  refine wpAny_binaryOp_repeat_ref (T := "list") (U := "int") (by decide) ⟨_, ea, rfl⟩ (fun s2 => typeIs_int s2 k t) noFill_list_mul F.fills_int_mul F.slot_int_rmul repeat_list F.slot_int_index.lookup ?_
  refine call_meets F.slot_int_rmul (typeIs_int s k t) F.entry_int_rmul (F.args_int_rmul_2 _ _) (int___rmul___int_list k t l as.toArray n) ⟨ea, rfl, ⟨_, ea, rfl⟩, ?_⟩
  refine call_meets F.slot_list_mul ⟨_, ea, rfl⟩ F.entry_list_mul (F.args_list_mul_2 _ _) (AutoListH.list___mul___list_int_3 l as.toArray n k t a1 a2 a3) ⟨ea, ?_⟩
  rw [made]
  exact ⟨.ref _, _, I.lnew (t' := s.toks) (rr k.toNat) (by rw [List.length_replicate, sizeLine_eq]; omega), rfl, q _ I.fresh (Nat.ne_of_gt I.big)⟩
end
end CS
set_option Elab.async false
set_option maxRecDepth 100000
set_option maxHeartbeats 8000000
set_option linter.unusedVariables false
set_option pp.maxSteps 9000
/-! _law_right -/
namespace CS
open PySem PySem.Spec PyProof.Rows L2
section
variable {P : Program} {w : World} {K : PySem.W.Frag} {mg : Str → Option Value} {base : Heap} {Ax : Nat → Addr}
structure ShOk (d : PyData) : Prop where
  sh : (PyData.list (List.replicate 25 d)).showable = true
  dp : d.depth ≤ 50
  dl : (PyData.list (List.replicate 25 d)).depth ≤ 60
  ln : (PyData.list (List.replicate 25 d)).shown.length + 64 ≤ sizeLine
def spRightE (K : PySem.W.Frag) : Sp := fun vs H Q _ => ∃ v d, vs = [v] ∧ ShowV K H v d ∧ ShOk d ∧ ∀ H', Same H H' → Q (.bl true) H'
theorem bsA_eq {j : Nat} (h : j < 24) : [V.bl (decide ((j : Int) < 21)), V.bl (decide ((j : Int) < 21)), V.bl (decide (V.int (j : Int) = V.int 21)), V.bl (decide (V.int (j : Int) = V.int 22)), V.bl (decide (V.int (j : Int) = V.int 23))] = (bsA j).map V.bl := by
  have e1 : decide ((j : Int) < 21) = decide (j < 21 ∨ j = 24) := by
    by_cases c : j < 21
    · rw [decide_eq_true (by omega), decide_eq_true (.inl c)]
    · rw [decide_eq_false (by omega), decide_eq_false (by omega)]
  have e2 : ∀ (z : Int) (n : Nat), z = n → decide (V.int (j : Int) = V.int z) = decide (j = n) := fun z n e => by
    subst e
    by_cases c : j = n
    · rw [decide_eq_true (by rw [c]), decide_eq_true c]
    · rw [decide_eq_false (fun y => c (by have := V.int.inj y; omega)), decide_eq_false c]
  rw [e1, e2 21 21 rfl, e2 22 22 rfl, e2 23 23 rfl]
  rfl
abbrev nsLawRight : List Str := ["thing", "some", "at", "error", "spot"]
theorem scLawRight : FnScope nsLawRight ["thing"] (defScope sLawRight) := ⟨rfl, rfl, rfl, by decide +kernel, rfl, by decide +kernel, by decide +kernel⟩
theorem ok_law_right {f : Addr} {fd : FuncData} (F : Df K mg "_law_right" sLawRight ["thing"] f fd)
    {f1 : Addr} {fd1 : FuncData} (D1 : Df K mg "_law_values" sLawValues ["some"] f1 fd1) (G1 : FnOk P w K mg base CX0 1 f1 fd1 ["some"] (spVals K Ax))
    {f2 : Addr} {fd2 : FuncData} (D2 : Df K mg "_law_above" sLawAbove ["error"] f2 fd2) (G2 : FnOk P w K mg base CX0 1 f2 fd2 ["error"] (spAbove Ax))
    {f3 : Addr} {fd3 : FuncData} (D3 : Df K mg "_law_sorts" sLawSorts ["error"] f3 fd3) (G3 : FnOk P w K mg base CX0 1 f3 fd3 ["error"] (spSorts Ax []))
    {f4 : Addr} {fd4 : FuncData} (D4 : Df K mg "_law_given_ones" sLawGivenOnes ["thing"] f4 fd4) (G4 : FnOk P w K mg base CX0 3 f4 fd4 ["thing"] (spGiven Ax))
    (EO : ErrOk K mg Ax) (T : Bt mg) (mrepr : mg "repr" = none) (menumerate : mg "enumerate" = none) : FnG P w K mg base CX0 4 f fd ["thing"] (spRightE K) := by
  refine FnG.of_body F.F scLawRight (fun vs H Q E h => ?_) (fun cdv A outer s H vs Q E hq hr h => ?_)
  · obtain ⟨v, d, rfl, _⟩ := h
    rfl
  · obtain ⟨v, d, rfl, hv, ok, k⟩ := h
    have hq2 : (A.deeper (PyProof.Rows.envOfC "_law_right" (defScope sLawRight) s.heap.objs.size f cdv)).guards = some [] := hq
    refine ⟨_, PSs.nox (pss_cons (ps_set (i := 1) scLawRight.nd rfl (Or.inl rfl) (pe_op op_cat (pe_call G4 (hr.mono (by decide)) (by rfl) D4.g D4.F.kp D4.b .nil pass0 (pa_cons (pv 0) pa_nil)) (pe_lst (pa_cons (pe_e21 EO (hr.mono (by decide)) (by rfl) (pv 0)) (pa_cons (pe_e22 EO (hr.mono (by decide)) (by rfl) (pv 0)) (pa_cons (pe_e23 EO (hr.mono (by decide)) (by rfl) (pv 0)) pa_nil))))))
      (pss_cons (ps_for PassesOwn.never rfl (pi_enum (by rfl) menumerate (pa_cons (pv 1) pa_nil)) (pg_tup rfl (pgs_cons (pg_name (i := 2) scLawRight.nd rfl (Or.inr rfl)) (pgs_cons (pg_name (i := 3) scLawRight.nd rfl (Or.inl rfl)) pgs_nil))) (pss_cons (ps_if (pt_cmpR (op_neD hr.units) (pe_call G3 (hr.mono (by decide)) (by rfl) D3.g D3.F.kp D3.b .nil pass0 (pa_cons (pv 3) pa_nil)) (pe_lc (own := [("spot", 4)]) (g := gName 4) (tt := tYes) rfl scLawRight.nd (pi_range1 (by rfl) T.range (pa_cons pe_int pa_nil)) (blkOk_by (N := nsLawRight) (sc := defScope sLawRight) (by decide +kernel)) (fun _ _ _ _ _ => pg_name (i := 4) scLawRight.nd rfl (Or.inl rfl)) (fun _ _ _ _ _ => pts_nil) (fun _ _ _ _ _ => (pe_cmpR op_eq (pv 4) (pv 2) (nomark _)))) (nomark _)) (pss_one (ps_ret pe_bl)) pss_nil)
      (pss_one (ps_if (pt_cmpR (op_neD hr.units) (pe_call G2 (hr.mono (by decide)) (by rfl) D2.g D2.F.kp D2.b .nil pass0 (pa_cons (pv 3) pa_nil)) (pe_lst (pa_cons (pe_cmpR op_lt (pv 2) pe_int (nomark _)) (pa_cons (pe_cmpR op_lt (pv 2) pe_int (nomark _)) (pa_cons (pe_cmpR op_eq (pv 2) pe_int (nomark _)) (pa_cons (pe_cmpR op_eq (pv 2) pe_int (nomark _)) (pa_cons (pe_cmpR op_eq (pv 2) pe_int (nomark _)) pa_nil)))))) (nomark _)) (pss_one (ps_ret pe_bl)) pss_nil))))
      (pss_one (ps_ret (pe_cmpR op_eq (pe_callB (call_showN hq2 hr.units) (by rfl) mrepr (by decide +kernel) (pa_cons (pe_call G1 (hr.mono (by decide)) (by rfl) D1.g D1.F.kp D1.b .nil pass0 (pa_cons (pv 1) pa_nil)) pa_nil)) (pe_callB (call_showN hq2 hr.units) (by rfl) mrepr (by decide +kernel) (pa_cons (pe_op op_repN (pe_lst (pa_cons (pv 0) pa_nil)) pe_int) pa_nil)) (nomark _)))))), ?_⟩
    refine ⟨_, rfl, _, rfl, fun p1 H1 as S z1 q1 Ex => ?_⟩
    have len : as.length = 21 := Paired.length Ex
    refine ⟨_, rfl, _, rfl, fun a21 J21 s21 x21 => ?_⟩
    replace S := S.trans s21
    replace Ex := ExL.snoc (Ex.same s21) x21
    replace q1 := s21 _ _ q1
    refine ⟨_, rfl, _, rfl, fun a22 J22 s22 x22 => ?_⟩
    replace S := S.trans s22
    replace Ex := ExL.snoc (Ex.same s22) x22
    replace q1 := s22 _ _ q1
    refine ⟨_, rfl, _, rfl, fun a23 J23 s23 x23 => ?_⟩
    replace S := S.trans s23
    replace Ex := ExL.snoc (Ex.same s23) x23
    replace q1 := s23 _ _ q1
    refine ⟨(by show 3 ≤ sizeLine; decide), fun p2 n2 => ?_⟩
    have e2 := Same.new (o := .lst [V.ref a21, V.ref a22, V.ref a23]) n2
    have l2 : L2.upd J23 p2 (.lst [V.ref a21, V.ref a22, V.ref a23]) p2 = some (.lst [V.ref a21, V.ref a22, V.ref a23]) := upd_same
    replace S := S.trans e2
    replace Ex := Ex.same e2
    replace q1 := e2 _ _ q1
    generalize L2.upd J23 p2 (.lst [V.ref a21, V.ref a22, V.ref a23]) = H2 at *
    refine ⟨p1, p2, _, _, rfl, rfl, q1, l2, (by rw [List.length_map, len]; show 24 ≤ sizeLine; decide), fun p3 n3 => ?_⟩
    have e3 := Same.new (o := .lst (as.map V.ref ++ [V.ref a21, V.ref a22, V.ref a23])) n3
    obtain ⟨bs, eb⟩ : ∃ bs, bs = as ++ [a21] ++ [a22] ++ [a23] := ⟨_, rfl⟩
    have mb : as.map V.ref ++ [V.ref a21, V.ref a22, V.ref a23] = bs.map V.ref := by rw [eb]; simp
    rw [mb] at e3
    have l3 : L2.upd H2 p3 (.lst (bs.map V.ref)) p3 = some (.lst (bs.map V.ref)) := upd_same
    replace S := S.trans e3
    replace Ex := Ex.same e3
    rw [← eb] at Ex
    have Ey : ExL (L2.upd H2 p3 (.lst (bs.map V.ref))) bs (allPs Ax v) := Ex
    clear Ex q1 l2 z1 s21 s22 s23 x21 x22 x23 e2 e3 n2 n3
    rw [mb]
    generalize L2.upd H2 p3 (.lst (bs.map V.ref)) = H3 at *
    have l24 : bs.length = 24 := Paired.length Ey
    refine ⟨_, rfl, p3, _, rfl, SqL.of l3, for_it (walk_enum (K := K) (a := p3) (xs := bs.map V.ref)) (fun i σ H' => ∃ v2 v3 v4, σ = [some v, some (.ref p3), v2, v3, v4] ∧ Same H3 H') ⟨none, none, none, rfl, Same.refl H3⟩ (fun i σ H' _ ⟨_, _, _, _, s⟩ => s.seq (SqL.of l3)) ?_ ?_⟩
    · rintro i x σ H4 H5 hi ⟨v2, v3, v4, rfl, S4⟩ ⟨TT, x1, x2, rfl, nT, rfl, g1, g2⟩
      dsimp only at g1 g2
      cases g1
      rw [List.getElem?_map] at g2
      obtain ⟨a, ha, rfl⟩ := Option.map_eq_some_iff.mp g2
      have hj : i < 24 := by rw [List.length_map, l24] at hi; exact hi
      obtain ⟨fs, hf⟩ := all_at (Ax := Ax) (v := v) i hj
      obtain ⟨pr, hp2, hx⟩ := Paired.at Ey ha
      rw [hf] at hp2
      cases hp2
      replace hx : ExVal H3 a (Ax i) fs := hx
      have s5 := S4.trans (Same.new (o := .tup [V.int (i : Nat), V.ref a]) nT)
      have hT : SqT K (L2.upd H4 TT (.tup [V.int (i : Nat), V.ref a])) TT [V.int (i : Nat), V.ref a] := SqT.of upd_same
      generalize L2.upd H4 TT (.tup [V.int (i : Nat), V.ref a]) = H6 at *
      refine ⟨TT, _, rfl, hT, rfl, _, _, rfl, _, _, rfl, rfl, ?_⟩
      obtain ⟨dx, hi6, _⟩ := (hx.same s5).is []
      refine ⟨_, rfl, a, some dx, i, rfl, by omega, hi6, fun p7 H7 s7 q7 => ?_⟩
      rw [sortsL_eq] at q7
      refine ⟨_, rfl, by decide, by decide, fun D nD => lc_it (walk_range (lo := 0) (n := 24)) (fun j H' => H' D = some (.lst (((List.range j).map fun z => decide (z = i)).map V.bl)) ∧ Same H7 H') ⟨upd_same, Same.new nD⟩ (fun _ _ _ _ => trivial) ?_ ?_⟩
      · rintro j x H8 H9 hj2 ⟨h8, s8⟩ ⟨rfl, rfl⟩
        refine ⟨rfl, ?_⟩
        dsimp only [tYes]
        rw [if_pos rfl]
        refine ⟨_, rfl, _, rfl, rfl, _, h8, small1000 (by rw [List.length_map, List.length_map, List.length_range]; omega), ?_, same_upd nD s8⟩
        rw [upd_same, List.range_succ, List.map_append, List.map_append]
        have e9 : decide (V.int (0 + (j : Int)) = V.int (i : Nat)) = decide (j = i) := by
          by_cases c : j = i
          · rw [decide_eq_true (by rw [c, Int.zero_add]), decide_eq_true c]
          · rw [decide_eq_false (fun z => c (by have := V.int.inj z; omega)), decide_eq_false c]
        rw [e9]
        rfl
      · rintro H8 ⟨h8, s8⟩
        refine ⟨bD (bsS i), bD (bsS i), dp_bools (s8 _ _ q7), dp_bools h8, bD_shaped _, bD_shaped _, ?_⟩
        rw [bD_refl]
        refine ⟨_, rfl, iteF ?_⟩
        have s9 := s5.trans (s7.trans s8)
        obtain ⟨dy, hi9, _⟩ := (hx.same s9).is []
        refine ⟨_, rfl, a, some dy, i, rfl, by omega, hi9, fun p10 H10 s10 q10 => ?_⟩
        refine ⟨_, rfl, _, _, rfl, rfl, _, rfl, _, _, rfl, rfl, _, rfl, rfl, _, rfl, rfl, _, rfl, rfl, (by show 5 ≤ sizeLine; decide), fun pB nB => ?_⟩
        have e11 := Same.new (o := .lst [V.bl (decide ((i : Int) < 21)), V.bl (decide ((i : Int) < 21)), V.bl (decide (V.int (i : Int) = V.int 21)), V.bl (decide (V.int (i : Int) = V.int 22)), V.bl (decide (V.int (i : Int) = V.int 23))]) nB
        have l11 : L2.upd H10 pB (.lst [V.bl (decide ((i : Int) < 21)), V.bl (decide ((i : Int) < 21)), V.bl (decide (V.int (i : Int) = V.int 21)), V.bl (decide (V.int (i : Int) = V.int 22)), V.bl (decide (V.int (i : Int) = V.int 23))]) pB = some (.lst ((bsA i).map V.bl)) := by rw [upd_same, bsA_eq hj]
        have q11 : L2.upd H10 pB (.lst [V.bl (decide ((i : Int) < 21)), V.bl (decide ((i : Int) < 21)), V.bl (decide (V.int (i : Int) = V.int 21)), V.bl (decide (V.int (i : Int) = V.int 22)), V.bl (decide (V.int (i : Int) = V.int 23))]) p10 = some (.lst ((bsA i).map V.bl)) := e11 _ _ q10
        generalize L2.upd H10 pB (.lst [V.bl (decide ((i : Int) < 21)), V.bl (decide ((i : Int) < 21)), V.bl (decide (V.int (i : Int) = V.int 21)), V.bl (decide (V.int (i : Int) = V.int 22)), V.bl (decide (V.int (i : Int) = V.int 23))]) = H11 at *
        refine ⟨bD (bsA i), bD (bsA i), dp_bools q11, dp_bools l11, bD_shaped _, bD_shaped _, ?_⟩
        rw [bD_refl]
        exact ⟨_, rfl, iteF ⟨_, _, _, rfl, s9.trans (s10.trans e11)⟩⟩
    · rintro σ H4 ⟨v2, v3, v4, rfl, S4⟩
      refine ⟨_, rfl, p3, bs, v, rfl, S4 _ _ l3, Ey.same S4, fun q H5 s5 nq hq5 => ?_⟩
      have sA := S.trans (S4.trans s5)
      refine ⟨q, v, d, 25, rfl, nq, hq5, hv.same sA, ok.sh, ok.dp, ok.dl, ok.ln, ?_⟩
      refine ⟨_, rfl, (by show 1 ≤ sizeLine; decide), fun l nl => ⟨l, 25, v, rfl, rfl, upd_same, by decide, by decide, fun r nr ner => ?_⟩⟩
      have sB := sA.trans ((Same.new (o := .lst [v]) nl).trans (Same.new (o := .lst (List.replicate (Int.toNat 25) v)) nr))
      refine ⟨r, v, d, 25, rfl, ner, upd_same, hv.same sB, ok.sh, ok.dp, ok.dl, ok.ln, rfl, ?_⟩
      rw [decide_eq_true rfl]
      exact k _ sB
end
end CS
set_option Elab.async false
set_option maxRecDepth 100000
set_option maxHeartbeats 8000000
set_option linter.unusedVariables false
set_option pp.maxSteps 9000
/-! what the law's two calls raise -/
namespace CS
open PySem PySem.Spec PyProof.Rows L2
section
variable {X : Cx} {Ax : Nat → Addr} {e : Expr} {ta : TA} {p pos : PySem.Pos}
theorem pmk_e2 (EO : ErrOk X.K X.mg Ax) (hr : Room 2 X.A) (hg : Gl X "BadNumber") (ha : PA X [e] ta) (he : starEach [e] X.env = (false, eval e X.env) :: starEach [] X.env := by rfl) (hpl : (backTo pos (starEach [] X.env)).any (·.1) = false := by rfl) : PMk X (.Call (.Name "BadNumber" p) [e] [] pos) (tMkX (Ax 2) "given" ta) := by
  obtain ⟨g, fd, Z⟩ := EO.z2
  exact pmk_own1 PySem.F.excBase_ValueError Z.T (ini_2 Z) Z.b hr hg ha (by decide) he hpl
theorem pmk_e16 (EO : ErrOk X.K X.mg Ax) (hr : Room 2 X.A) (hg : Gl X "NotWider") (ha : PA X [e] ta) (he : starEach [e] X.env = (false, eval e X.env) :: starEach [] X.env := by rfl) (hpl : (backTo pos (starEach [] X.env)).any (·.1) = false := by rfl) : PMk X (.Call (.Name "NotWider" p) [e] [] pos) (tMkX (Ax 16) "paper" ta) := by
  obtain ⟨g, fd, Z⟩ := EO.z16
  exact pmk_own1 PySem.F.excBase_ValueError Z.T (ini_16 Z) Z.b hr hg ha (by decide) he hpl
end
def spNo : Sp := fun _ _ _ _ => False
section
variable {P : Program} {w : World} {K : PySem.W.Frag} {mg : Str → Option Value} {base : Heap} {Ax : Nat → Addr}
theorem ok_no_rest {f : Addr} {fd : FuncData} (F : Df K mg "has_lesser_rest" sHasLesserRest ["one", "other", "mark"] f fd) : FnOk P w K mg base CX0 1 f fd ["one", "other", "mark"] (spNo) := ⟨fun _ _ _ _ h => h.elim, fun _ _ _ _ _ _ _ _ _ _ _ _ _ h => h.elim⟩
theorem ok_no_built {f : Addr} {fd : FuncData} (F : Df K mg "built_from_left" sBuiltFromLeft ["one", "other"] f fd) : FnOk P w K mg base CX0 1 f fd ["one", "other"] (spNo) := ⟨fun _ _ _ _ h => h.elim, fun _ _ _ _ _ _ _ _ _ _ _ _ _ h => h.elim⟩
def spRatioX (Ax : Nat → Addr) : Sp := fun vs H Q E => ∃ i : Int, vs = [.int i, .int 0] ∧ ∀ d, H d = none → E (.ref (Ax 2)) (some d) (upd H d (.xd [("given", .int 0)]))
abbrev nsRatio : List Str := ["top", "bottom"]
theorem scRatio : FnScope nsRatio ["top", "bottom"] (defScope sRatio) := ⟨rfl, rfl, rfl, by decide +kernel, rfl, by decide +kernel, by decide +kernel⟩
theorem ok_ratio {f : Addr} {fd : FuncData} (F : Df K mg "ratio" sRatio ["top", "bottom"] f fd)
    {f1 : Addr} {fd1 : FuncData} (D1 : Df K mg "lowered" sLowered ["top", "bottom"] f1 fd1) (G1 : FnOk P w K mg base CX0 1 f1 fd1 ["top", "bottom"] (spLow))
    {f2 : Addr} {fd2 : FuncData} (D2 : Df K mg "is_whole" sIsWhole ["thing"] f2 fd2) (G2 : FnOk P w K mg base CX0 1 f2 fd2 ["thing"] (spWhole K))
    (EO : ErrOk K mg Ax) : FnOk P w K mg base (L2.CX P w) 3 f fd ["top", "bottom"] (spRatioX Ax) := by
  refine F.F.okX scRatio (fun vs H Q E h => ?_) (fun cdv A outer s H vs Q E hr h => ?_)
  · obtain ⟨i, rfl, _⟩ := h
    rfl
  · obtain ⟨i, rfl, k⟩ := h
    refine ⟨_, (pss_cons (ps_if (pt_not (pt_val (pe_call G2 (hr.mono (by decide)) (by rfl) D2.g D2.F.kp D2.b .nil pass0 (pa_cons (pv 0) pa_nil)))) (pss_one (ps_raise rfl (takes_of rfl rfl rfl rfl) (pmk_e2 EO (hr.mono (by decide)) (by rfl) (pa_cons (pv 0) pa_nil)))) pss_nil)
      (pss_cons (ps_if (PW.pt (pw_or (pt_not (pt_val (pe_call G2 (hr.mono (by decide)) (by rfl) D2.g D2.F.kp D2.b .nil pass0 (pa_cons (pv 1) pa_nil)))) (pw_or1 (pt_cmpR op_eq (pv 1) pe_int (nomark _))))) (pss_one (ps_raise rfl (takes_of rfl rfl rfl rfl) (pmk_e2 EO (hr.mono (by decide)) (by rfl) (pa_cons (pv 1) pa_nil)))) pss_nil)
      (pss_one (ps_ret (pe_call G1 (hr.mono (by decide)) (by rfl) D1.g D1.F.kp D1.b .nil pass0 (pa_cons (pv 0) (pa_cons (pv 1) pa_nil))))))), ?_⟩
    refine ⟨_, rfl, i, rfl, _, rfl, iteF ?_⟩
    refine ⟨_, rfl, 0, rfl, _, rfl, iteF ?_⟩
    refine ⟨_, rfl, rfl, _, rfl, iteT ?_⟩
    exact ⟨_, rfl, _, rfl, fun d nd => k d nd⟩
/-- two shares of one total whose moments differ -/
structure TwoM (K : PySem.W.Frag) (H : Hp) (p q : Addr) (xs ys : List (Int × Fx)) : Prop where
  hp : ShAt K H p xs
  hq : ShAt K H q ys
  sx : Shr xs
  sy : Shr ys
  ax : AllF 90 xs
  ay : AllF 90 ys
  t : ftot xs = ftot ys
  m : fmom xs ≠ fmom ys
theorem TwoM.same {H H' : Hp} {p q : Addr} {xs ys : List (Int × Fx)} (x : TwoM K H p q xs ys) (e : Same H H') : TwoM K H' p q xs ys := ⟨x.hp.tk (tk_same e), x.hq.tk (tk_same e), x.sx, x.sy, x.ax, x.ay, x.t, x.m⟩
def spRefM (K : PySem.W.Frag) : Sp := fun vs H Q _ => ∃ p q xs ys, vs = [.ref p, .ref q] ∧ TwoM K H p q xs ys ∧ ∀ r H', Same H H' → SqT K H' r [.str "moment"] → Q (.ref r) H'
theorem ft_dp {H : Hp} {p : Addr} {x : Fx} (h : FT K H p x) : Dp K H (.ref p) (.tuple [.int x.1, .int x.2]) := .tup h (.cons (.int _) (.cons (.int _) .nil))
theorem ft_shaped (x : Fx) : SeqAt.shaped (.tuple [.int x.1, .int x.2]) = true := by
  unfold SeqAt.shaped
  rw [Bool.and_eq_true, decide_eq_true_eq]
  exact ⟨by simp only [PyData.canLay0, PyData.canLayAll0, Bool.and_self], by simp only [PyData.depth, PyData.depthAll]; decide⟩
theorem ft_eqv (x y : Fx) : PyData.eqv (.tuple [.int x.1, .int x.2]) (.tuple [.int y.1, .int y.2]) = decide (x = y) := by
  obtain ⟨a, b⟩ := x
  obtain ⟨c, d⟩ := y
  rw [Bool.eq_iff_iff, decide_eq_true_eq]
  simp [PyData.eqv, PyData.eqvAll]
abbrev nsRefusal : List Str := ["one", "other", "mark", "_"]
theorem scRefusal : FnScope nsRefusal ["one", "other"] (defScope sRefusal) := ⟨rfl, rfl, rfl, by decide +kernel, rfl, by decide +kernel, by decide +kernel⟩
theorem ok_refusal {f : Addr} {fd : FuncData} (F : Df K mg "refusal" sRefusal ["one", "other"] f fd)
    {f1 : Addr} {fd1 : FuncData} (D1 : Df K mg "has_lesser_rest" sHasLesserRest ["one", "other", "mark"] f1 fd1) (G1 : FnOk P w K mg base CX0 1 f1 fd1 ["one", "other", "mark"] (spNo))
    {f2 : Addr} {fd2 : FuncData} (D2 : Df K mg "moment_of" sMomentOf ["share"] f2 fd2) (G2 : FnOk P w K mg base CX0 4 f2 fd2 ["share"] (spShF K fmom))
    {f3 : Addr} {fd3 : FuncData} (D3 : Df K mg "total_of" sTotalOf ["share"] f3 fd3) (G3 : FnOk P w K mg base CX0 4 f3 fd3 ["share"] (spShF K ftot)) : FnOk P w K mg base CX0 5 f fd ["one", "other"] (spRefM K) := by
  refine F.F.ok scRefusal (fun vs H Q E h => ?_) (fun cdv A outer s H vs Q E hr h => ?_)
  · obtain ⟨p, q, xs, ys, rfl, _⟩ := h
    rfl
  · obtain ⟨p, q, xs, ys, rfl, tm, k⟩ := h
    refine ⟨_, (pss_cons (ps_if (pt_cmpR (op_neD hr.units) (pe_call G3 (hr.mono (by decide)) (by rfl) D3.g D3.F.kp D3.b .nil pass0 (pa_cons (pv 0) pa_nil)) (pe_call G3 (hr.mono (by decide)) (by rfl) D3.g D3.F.kp D3.b .nil pass0 (pa_cons (pv 1) pa_nil)) (nomark _)) (pss_one (ps_ret (pe_tup (pa_cons pe_str pa_nil)))) pss_nil)
      (pss_cons (ps_if (pt_cmpR (op_neD hr.units) (pe_call G2 (hr.mono (by decide)) (by rfl) D2.g D2.F.kp D2.b .nil pass0 (pa_cons (pv 0) pa_nil)) (pe_call G2 (hr.mono (by decide)) (by rfl) D2.g D2.F.kp D2.b .nil pass0 (pa_cons (pv 1) pa_nil)) (nomark _)) (pss_one (ps_ret (pe_tup (pa_cons pe_str pa_nil)))) pss_nil)
      (pss_cons (ps_for PassesOwn.never rfl (pi_tup (pe_op op_catA (pv 0) (pv 1))) (pg_tup rfl (pgs_cons (pg_name (i := 2) scRefusal.nd rfl (Or.inl rfl)) (pgs_cons (pg_name (i := 3) scRefusal.nd rfl (Or.inl rfl)) pgs_nil))) (pss_one (ps_if (pt_val (pe_call G1 (hr.mono (by decide)) (by rfl) D1.g D1.F.kp D1.b .nil pass0 (pa_cons (pv 0) (pa_cons (pv 1) (pa_cons (pv 2) pa_nil))))) (pss_one (ps_ret (pe_tup (pa_cons pe_str (pa_cons (pv 2) pa_nil))))) pss_nil)))
      (pss_one (ps_ret pe_non))))), ?_⟩
    have lx := tm.sx.len
    have ly := tm.sy.len
    refine ⟨_, rfl, p, xs, rfl, tm.hp, tm.ax, tm.sx.abs, lx, fun H1 r1 s1 h1 => ⟨_, rfl, q, ys, rfl, (tm.same s1).hq, tm.ay, tm.sy.abs, ly, fun H2 r2 s2 h2 => ⟨_, _, ft_dp (s2.tup h1), ft_dp h2, ft_shaped _, ft_shaped _, _, rfl, ?_⟩⟩⟩
    rw [ft_eqv, decide_eq_true tm.t]
    refine iteF ?_
    have S2 := s1.trans s2
    refine ⟨_, rfl, p, xs, rfl, (tm.same S2).hp, tm.ax, tm.sx.abs, lx, fun H3 r3 s3 h3 => ⟨_, rfl, q, ys, rfl, (tm.same (S2.trans s3)).hq, tm.ay, tm.sy.abs, ly, fun H4 r4 s4 h4 => ⟨_, _, ft_dp (s4.tup h3), ft_dp h4, ft_shaped _, ft_shaped _, _, rfl, ?_⟩⟩⟩
    rw [ft_eqv, decide_eq_false tm.m]
    refine iteT ⟨(by show 1 ≤ sizeLine; decide), fun t nt => ?_⟩
    exact k t _ (S2.trans (s3.trans (s4.trans (Same.new nt)))) (SqT.of upd_same)
def spWiderM (K : PySem.W.Frag) (Ax : Nat → Addr) : Sp := fun vs H Q E => ∃ p q xs ys, vs = [.ref p, .ref q] ∧ TwoM K H p q xs ys ∧ ∀ r d H', Same H H' → SqT K H' r [.str "moment"] → H' d = none → E (.ref (Ax 16)) (some d) (upd H' d (.xd [("paper", .ref r)]))
abbrev nsNeedWider : List Str := ["one", "other", "paper"]
theorem scNeedWider : FnScope nsNeedWider ["one", "other"] (defScope sNeedWider) := ⟨rfl, rfl, rfl, by decide +kernel, rfl, by decide +kernel, by decide +kernel⟩
theorem ok_need_wider {f : Addr} {fd : FuncData} (F : Df K mg "need_wider" sNeedWider ["one", "other"] f fd)
    {f1 : Addr} {fd1 : FuncData} (D1 : Df K mg "refusal" sRefusal ["one", "other"] f1 fd1) (G1 : FnOk P w K mg base CX0 5 f1 fd1 ["one", "other"] (spRefM K))
    (EO : ErrOk K mg Ax) : FnOk P w K mg base (L2.CX P w) 6 f fd ["one", "other"] (spWiderM K Ax) := by
  refine F.F.okX scNeedWider (fun vs H Q E h => ?_) (fun cdv A outer s H vs Q E hr h => ?_)
  · obtain ⟨p, q, xs, ys, rfl, _⟩ := h
    rfl
  · obtain ⟨p, q, xs, ys, rfl, tm, k⟩ := h
    refine ⟨_, (pss_cons (ps_set (i := 2) scNeedWider.nd rfl (Or.inl rfl) (pe_call G1 (hr.mono (by decide)) (by rfl) D1.g D1.F.kp D1.b .nil pass0 (pa_cons (pv 0) (pa_cons (pv 1) pa_nil))))
      (pss_one (ps_if (pt_cmpR op_notN (pv 2) pe_non (nomark _)) (pss_one (ps_raise rfl (takes_of rfl rfl rfl rfl) (pmk_e16 EO (hr.mono (by decide)) (by rfl) (pa_cons (pv 2) pa_nil)))) pss_nil))), ?_⟩
    refine ⟨_, rfl, _, rfl, p, q, xs, ys, rfl, tm, fun r H1 s1 h1 => ?_⟩
    refine ⟨_, rfl, rfl, _, rfl, iteT ?_⟩
    exact ⟨_, rfl, _, rfl, fun d nd => k r d H1 s1 h1 nd⟩
abbrev nsLeftTable : List Str := ["one", "other"]
theorem scLeftTable : FnScope nsLeftTable ["one", "other"] (defScope sLeftTable) := ⟨rfl, rfl, rfl, by decide +kernel, rfl, by decide +kernel, by decide +kernel⟩
theorem ok_left_table {f : Addr} {fd : FuncData} (F : Df K mg "left_table" sLeftTable ["one", "other"] f fd)
    {f1 : Addr} {fd1 : FuncData} (D1 : Df K mg "built_from_left" sBuiltFromLeft ["one", "other"] f1 fd1) (G1 : FnOk P w K mg base CX0 1 f1 fd1 ["one", "other"] (spNo))
    {f2 : Addr} {fd2 : FuncData} (D2 : Df K mg "need_wider" sNeedWider ["one", "other"] f2 fd2) (G2 : FnOk P w K mg base (L2.CX P w) 6 f2 fd2 ["one", "other"] (spWiderM K Ax))
    {f3 : Addr} {fd3 : FuncData} (D3 : Df K mg "need_share" sNeedShare ["thing"] f3 fd3) (G3 : FnOk P w K mg base CX0 7 f3 fd3 ["thing"] (spNeedSh K)) : FnOk P w K mg base (L2.CX P w) 8 f fd ["one", "other"] (spWiderM K Ax) := by
  refine F.F.okX scLeftTable (fun vs H Q E h => ?_) (fun cdv A outer s H vs Q E hr h => ?_)
  · obtain ⟨p, q, xs, ys, rfl, _⟩ := h
    rfl
  · obtain ⟨p, q, xs, ys, rfl, tm, k⟩ := h
    refine ⟨_, (pss_cons (ps_expr (pe_call G2 (hr.mono (by decide)) (by rfl) D2.g D2.F.kp D2.b .nil (passes_call (takes_of rfl rfl rfl rfl) (fun _ _ _ _ h => h)) (pa_cons (pe_call G3 (hr.mono (by decide)) (by rfl) D3.g D3.F.kp D3.b .nil pass0 (pa_cons (pv 0) pa_nil)) (pa_cons (pe_call G3 (hr.mono (by decide)) (by rfl) D3.g D3.F.kp D3.b .nil pass0 (pa_cons (pv 1) pa_nil)) pa_nil))))
      (pss_one (ps_ret (pe_call G1 (hr.mono (by decide)) (by rfl) D1.g D1.F.kp D1.b .nil pass0 (pa_cons (pv 0) (pa_cons (pv 1) pa_nil)))))), ?_⟩
    refine ⟨_, rfl, p, xs, rfl, tm.hp, tm.sx, fun H1 s1 => ⟨_, rfl, q, ys, rfl, (tm.same s1).hq, tm.sy, fun H2 s2 => ?_⟩⟩
    exact ⟨p, q, xs, ys, rfl, tm.same (s1.trans s2), fun r d H3 s3 h3 nd => k r d H3 (s1.trans (s2.trans s3)) h3 nd⟩
end
end CS
set_option Elab.async false
set_option maxRecDepth 100000
set_option maxHeartbeats 8000000
set_option linter.unusedVariables false
set_option pp.maxSteps 9000
/-! the law -/
namespace CS
open PySem PySem.Spec PyProof.Rows L2
section
variable {X : Cx}
/-- is not, of bools -/
def rNotBl : R2 := fun x y H Q => ∃ a b, x = .bl a ∧ y = .bl b ∧ Q (.bl (a != b)) H
theorem op_notBl : OpR X (compareOp .IsNot) rNotBl := fun pins s σ H x y v u Q I rx ry ⟨a, b, ex, ey, q⟩ => by
  subst ex ey
  cases (show v = Value.bool a from rx)
  cases (show u = Value.bool b from ry)
  exact isnot_bool ⟨.bl _, H, I, rfl, q⟩
end
/-- _law_sorts, asked of what a suite holds -/
def wSortsS (Ax : Nat → Addr) (a : Addr) (cls : Value) (d : Option Addr) : List V → Hp → VK → Prop := fun vs H Q => ∃ j, vs = [.ref a] ∧ cls = .ref (Ax j) ∧ j < 25 ∧ (∀ dd, d = some dd → ∃ o, H dd = some o) ∧ ∀ p H', Same H H' → H' p = some (.lst (sortsL j)) → Q (.ref p) H'
theorem sortsS_of {Ax : Nat → Addr} {a : Addr} {oe : Obj} {cls : Value} {d : Option Addr} (hz : Zc cls d oe) (hf : ∃ vs, oe.data = .fields vs) : ∀ vs H Q, wSortsS Ax a cls d vs H Q → spSorts Ax [(a, oe)] vs H Q E0 := fun vs H Q ⟨j, e1, e2, hj, hd, k⟩ => by
  subst e2
  exact ⟨a, d, j, e1, hj, ⟨.inr ⟨oe, List.mem_cons_self, hz, hf⟩, hd⟩, k⟩
section
variable {P : Program} {w : World} {K : PySem.W.Frag} {mg : Str → Option Value} {base : Heap} {Ax : Nat → Addr}
theorem ErrOk.fx2 (EO : ErrOk K mg Ax) : XfC K (Ax 2) ∧ PySem.W.findIn K (.ref (Ax 2)) "given" = some none := by
  obtain ⟨g, fd, Z⟩ := EO.z2
  exact ⟨Z.T.xf, Z.T.noF⟩
theorem ErrOk.fx16 (EO : ErrOk K mg Ax) : XfC K (Ax 16) ∧ PySem.W.findIn K (.ref (Ax 16)) "paper" = some none := by
  obtain ⟨g, fd, Z⟩ := EO.z16
  exact ⟨Z.T.xf, Z.T.noF⟩
theorem ErrOk.fx20 (EO : ErrOk K mg Ax) : XfC K (Ax 20) ∧ PySem.W.findIn K (.ref (Ax 20)) "line" = some none ∧ PySem.W.findIn K (.ref (Ax 20)) "word" = some none := by
  obtain ⟨g, fd, Z⟩ := EO.z20
  exact ⟨Z.T.xf, Z.T.noF, Z.no2⟩
theorem rep_all {d : PyData} (h1 : d.showable = true) (h2 : d.leavesShort 100 = true) (h3 : d.weight ≤ 100) (h4 : d.depth ≤ 50) : ∀ n : Nat, PyData.showableAll (List.replicate n d) = true ∧ PyData.leavesShortAll 100 (List.replicate n d) = true ∧ PyData.weightAll (List.replicate n d) ≤ 101 * n ∧ PyData.depthAll (List.replicate n d) ≤ 50
  | 0 => ⟨rfl, rfl, Nat.le_refl _, Nat.zero_le _⟩
  | n + 1 => by
    obtain ⟨a, b, c, e⟩ := rep_all h1 h2 h3 h4 n
    rw [List.replicate_succ]
    refine ⟨by simp only [PyData.showableAll, h1, a, Bool.and_self], by simp only [PyData.leavesShortAll, h2, b, Bool.and_self], ?_, ?_⟩
    · simp only [PyData.weightAll]
      omega
    · simp only [PyData.depthAll]
      exact Nat.max_le.mpr ⟨h4, e⟩
theorem shOk_of {d : PyData} (h1 : d.showable = true) (h2 : d.leavesShort 100 = true) (h3 : d.weight ≤ 100) (h4 : d.depth ≤ 50) : ShOk d := by
  obtain ⟨a, b, c, e⟩ := rep_all h1 h2 h3 h4 25
  have lv : (PyData.list (List.replicate 25 d)).leavesShort 100 = true := by simp only [PyData.leavesShort, b]
  have wt : (PyData.list (List.replicate 25 d)).weight ≤ 3000 := by simp only [PyData.weight]; omega
  refine ⟨by simp only [PyData.showable, a], h4, by simp only [PyData.depth]; omega, ?_⟩
  have q1 := PyData.shown_le 100 (by decide) _ lv
  have q2 : (100 + 2) * (PyData.list (List.replicate 25 d)).weight + 100 ≤ 102 * 3000 + 100 := Nat.add_le_add_right (Nat.mul_le_mul_left 102 wt) 100
  have q3 : 102 * 3000 + 100 + 64 ≤ sizeLine := by decide
  omega
theorem room1 {A B : Around} (hr : Room 10 A) (h1 : B.depth = A.depth) (h2 : B.units = A.units) : L2H.RoomH 1 B := by
  have a := hr.dp
  have b := hr.un
  exact ⟨by rw [h1]; omega, by rw [h2]; omega⟩
def ThOk (K : PySem.W.Frag) (H : Hp) (v : V) : Prop := ∃ d, ShowV K H v d ∧ ShOk d
theorem ThOk.same {H H' : Hp} {v : V} (x : ThOk K H v) (e : Same H H') : ThOk K H' v := let ⟨d, h, o⟩ := x; ⟨d, h.same e, o⟩
theorem th_dp {H : Hp} {v : V} {d : PyData} (h : Dp K H v d) (h1 : d.showable = true) (h2 : d.leavesShort 100 = true) (h3 : d.weight ≤ 100) (h4 : d.depth ≤ 50) : ThOk K H v := ⟨d, .inl ⟨h, Dp.noDict h⟩, shOk_of h1 h2 h3 h4⟩
theorem th_int {H : Hp} {i : Int} (h : i.natAbs ≤ 1000000) : ThOk K H (.int i) := by
  have h1 : i.natAbs.log2 < 20 := PySem.Flt.log2_lt_of (by decide) (by omega)
  have h2 := PyData.shown_int_le (i := i) (by omega)
  refine th_dp (.int i) ?_ ?_ ?_ (by simp [PyData.depth])
  · simp only [PyData.showable]
    exact decide_eq_true (by omega)
  · simp only [PyData.leavesShort]
    exact decide_eq_true (by omega)
  · simp only [PyData.weight]
    split <;> omega
def spLaw38 (K : PySem.W.Frag) : Sp := fun vs H Q _ => ∃ (a : Addr) (ns : List Int), vs = [.ref a] ∧ SqL K H a (ns.map V.int) ∧ ns.length ≤ 63 ∧ ∀ H', Q (.bl true) H'
abbrev nsLaw : List Str := ["script", "state", "things", "thing", "text", "plain", "error"]
theorem scLaw : FnScope nsLaw ["script"] (defScope sLaw) := ⟨rfl, rfl, rfl, by decide +kernel, rfl, by decide +kernel, by decide +kernel⟩
theorem ok_law {f : Addr} {fd : FuncData} (F : Df K mg "law" sLaw ["script"] f fd)
    {f1 : Addr} {fd1 : FuncData} (D1 : Df K mg "_law_above" sLawAbove ["error"] f1 fd1) (G1 : FnOk P w K mg base CX0 1 f1 fd1 ["error"] (spAbove Ax))
    {f2 : Addr} {fd2 : FuncData} (D2 : Df K mg "_law_sorts" sLawSorts ["error"] f2 fd2) (G2 : FnOk P w K mg base CX0 1 f2 fd2 ["error"] (spSorts Ax []))
    {f3 : Addr} {fd3 : FuncData} (D3 : Df K mg "_law_right" sLawRight ["thing"] f3 fd3) (G3 : FnG P w K mg base CX0 4 f3 fd3 ["thing"] (spRightE K))
    {f4 : Addr} {fd4 : FuncData} (D4 : Df K mg "_law_draw" sDraw ["state", "many"] f4 fd4) (G4 : FnOk P w K mg base CX0 2 f4 fd4 ["state", "many"] (spDraw))
    {f5 : Addr} {fd5 : FuncData} (D5 : Df K mg "_law_begin" sBegin ["script"] f5 fd5) (G5 : FnOk P w K mg base CX0 1 f5 fd5 ["script"] (spBegin K))
    (EO : ErrOk K mg Ax) (T : Bt mg) (mrepr : mg "repr" = none) {fR fL fS : Addr} {gR gL gS : FuncData} (DR : Df K mg "ratio" sRatio ["top", "bottom"] fR gR) (GR : FnOk P w K mg base (L2.CX P w) 3 fR gR ["top", "bottom"] (spRatioX Ax)) (DL : Df K mg "left_table" sLeftTable ["one", "other"] fL gL) (GL : FnOk P w K mg base (L2.CX P w) 8 fL gL ["one", "other"] (spWiderM K Ax)) (DS : Df K mg "_law_sorts" sLawSorts ["error"] fS gS) : FnG P w K mg base CX0 11 f fd ["script"] (spLaw38 K) := by
  refine FnG.of_body F.F scLaw (fun vs H Q E h => ?_) (fun cdv A outer s H vs Q E hq hr h => ?_)
  · obtain ⟨a, ns, rfl, _⟩ := h
    rfl
  · obtain ⟨a, ns, rfl, hS, hlen, k⟩ := h
    have hq2 : (A.deeper (PyProof.Rows.envOfC "law" (defScope sLaw) s.heap.objs.size f cdv)).guards = some [] := hq
    refine ⟨_, PSs.nox (pss_cons (ps_set (i := 1) scLaw.nd rfl (Or.inl rfl) (pe_call G5 (hr.mono (by decide)) (by rfl) D5.g D5.F.kp D5.b .nil pass0 (pa_cons (pv 0) pa_nil)))
      (pss_cons (ps_set (i := 2) scLaw.nd rfl (Or.inl rfl) (pe_lst (pa_cons pe_non (pa_cons pe_int (pa_cons (pe_un un_neg pe_int) (pa_cons pe_bl (pa_cons pe_str (pa_cons pe_str (pa_cons (pe_tup pa_nil) (pa_cons (pe_tup (pa_cons pe_int (pa_cons pe_int pa_nil))) (pa_cons (pe_lst (pa_cons pe_int pa_nil)) (pa_cons pe_dnewK (pa_cons (pe_op op_pow pe_int pe_int) (pa_cons (pe_tup (pa_cons (pe_tup pa_nil) pa_nil)) (pa_cons (pe_call G4 (hr.mono (by decide)) (by rfl) D4.g D4.F.kp D4.b .nil pass0 (pa_cons (pv 1) (pa_cons pe_int pa_nil))) pa_nil)))))))))))))))
      (pss_cons (ps_for PassesOwn.never rfl (pi_list (pv 2)) (pg_name (i := 3) scLaw.nd rfl (Or.inl rfl)) (pss_one (ps_if (pt_not (pt_val (pe_callG G3 hq2 (hr.mono (by decide)) (by rfl) D3.g D3.F.kp D3.b pass0 (pa_cons (pv 3) pa_nil)))) (pss_one (ps_ret pe_bl)) pss_nil)))
      (pss_cons (ps_par (i := 4) (j := 5) (by rfl) scLaw.nd rfl rfl (by decide) rfl rfl (pa_cons (pe_e20 EO (hr.mono (by decide)) (by rfl) pe_int pe_non) (pa_cons (pe_step EO (by rfl) pe_str) pa_nil)) (by rfl))
      (pss_cons (ps_if (PW.pt (pw_or (pt_cmpR (op_neD hr.units) (pe_lst (pa_cons (pe_fld (pv 4)) (pa_cons (pe_fld (pv 4)) pa_nil))) (pe_lst (pa_cons pe_int (pa_cons pe_non pa_nil))) (nomark _)) (pw_or1 (pt_cmpR (op_neD hr.units) (pe_call G2 (hr.mono (by decide)) (by rfl) D2.g D2.F.kp D2.b .nil pass0 (pa_cons (pv 5) pa_nil)) (pe_op op_repN (pe_lst (pa_cons pe_bl pa_nil)) pe_int) (nomark _))))) (pss_one (ps_ret pe_bl)) pss_nil)
      (pss_cons (ps_if (pt_cmpR (op_neD hr.units) (pe_call G1 (hr.mono (by decide)) (by rfl) D1.g D1.F.kp D1.b .nil pass0 (pa_cons (pv 5) pa_nil)) (pe_lst (pa_cons pe_bl (pa_cons pe_bl (pa_cons pe_bl (pa_cons pe_bl (pa_cons pe_bl pa_nil)))))) (nomark _)) (pss_one (ps_ret pe_bl)) pss_nil)
      (pss_cons (ps_tryx rfl rfl scLaw.nd takes0 (.named (i := 6) ⟨rfl, by decide, .inl EO.step.1⟩ rfl rfl (fun a oe cls d pn hz hf => pss_one (ps_if (PW.pt (pw_or (pt_cmpR op_notBl (pe_ix (r := rIxL K) ix_list (CS.pe_callS (W := wSortsS Ax a cls d) (oks_law_sorts DS EO T) List.mem_cons_self (room1 hr rfl rfl) (by rfl) DS.g DS.F.kp DS.b (pa_cons (pv 6) pa_nil) (sortsS_of hz hf)) pe_int (fun _ _ => rfl)) pe_bl (nomark _)) (pw_or1 (pt_cmpR op_ne (pe_callB (r := rShow K) (call_show hq2 hr.units) (by rfl) mrepr (by decide +kernel) (pa_cons (pe_xf EO.fx2.1 EO.fx2.2 hz hf (pv 6)) pa_nil)) pe_str (nomark _))))) (pss_one (ps_ret pe_bl)) pss_nil)) .nil) (fun W pn xe tk _ => pss_one (ps_expr (L2.pe_callS GR (hr.mono (by decide)) (by rfl) DR.g DR.F.kp DR.b (fun σ => passAt tk σ) (pa_cons pe_int (pa_cons pe_int pa_nil))))))
      (pss_cons (ps_tryx rfl rfl scLaw.nd takes0 (.named (i := 6) ⟨rfl, by decide, .inl EO.step.1⟩ rfl rfl (fun a oe cls d pn hz hf => pss_one (ps_ret (pe_and (pe_cmpR op_is_bl (pe_ix (r := rIxL K) ix_list (CS.pe_callS (W := wSortsS Ax a cls d) (oks_law_sorts DS EO T) List.mem_cons_self (room1 hr rfl rfl) (by rfl) DS.g DS.F.kp DS.b (pa_cons (pv 6) pa_nil) (sortsS_of hz hf)) pe_int (fun _ _ => rfl)) pe_bl (nomark _)) (pe_one (pe_cmpR (r := rEqD K) (op_eqD hr.units) (pe_xf EO.fx16.1 EO.fx16.2 hz hf (pv 6)) (pe_tup (pa_cons pe_str pa_nil)) (nomark _)))))) .nil) (fun W pn xe tk _ => pss_one (ps_expr (L2.pe_callS GL (hr.mono (by decide)) (by rfl) DL.g DL.F.kp DL.b (fun σ => passAt tk σ) (pa_cons (pe_tup (pa_cons (pe_tup (pa_cons pe_int (pa_cons (pe_tup (pa_cons pe_int (pa_cons pe_int pa_nil))) pa_nil))) pa_nil)) (pa_cons (pe_tup (pa_cons (pe_tup (pa_cons pe_int (pa_cons (pe_tup (pa_cons pe_int (pa_cons pe_int pa_nil))) pa_nil))) pa_nil)) pa_nil))))))
      (pss_one (ps_ret pe_bl)))))))))), ?_⟩
    refine ⟨_, rfl, a, ns, rfl, hS, hlen, fun d c l H1 nd s1 S1 => ?_⟩
    refine ⟨7, rfl, ?_⟩
    refine ⟨(by show 0 ≤ sizeLine; decide), fun p0 n0 => ?_⟩
    have T1 := S1.same (Same.new (o := .tup []) n0)
    have q0 : SqT K (L2.upd H1 p0 (.tup [])) p0 [] := SqT.of upd_same
    generalize L2.upd H1 p0 (.tup []) = H2 at *
    refine ⟨(by show 2 ≤ sizeLine; decide), fun p1 n1 => ?_⟩
    have T2 := T1.same (Same.new (o := .tup [V.int 1, V.int 2]) n1)
    replace q0 := (Same.new (o := .tup [V.int 1, V.int 2]) n1).tup q0
    have q1 : SqT K (L2.upd H2 p1 (.tup [V.int 1, V.int 2])) p1 [V.int 1, V.int 2] := SqT.of upd_same
    generalize L2.upd H2 p1 (.tup [V.int 1, V.int 2]) = H3 at *
    refine ⟨(by show 1 ≤ sizeLine; decide), fun p2 n2 => ?_⟩
    have T3 := T2.same (Same.new (o := .lst [V.int 3]) n2)
    have ne2 : p2 ≠ d ∧ p2 ≠ l := ⟨fun z => (ne_of_none T2.hd n2) z.symm, fun z => by
      obtain ⟨_, _, cs, ls, _, h2, _⟩ := T2
      exact (ne_of_none h2 n2) z.symm⟩
    have s3 := Same.new (o := .lst [V.int 3]) n2
    replace q0 := s3.tup q0
    replace q1 := s3.tup q1
    have q2 : L2.upd H3 p2 (.lst [V.int 3]) p2 = some (.lst [V.int 3]) := upd_same
    generalize L2.upd H3 p2 (.lst [V.int 3]) = H4 at *
    intro p3 n3
    have T4 := T3.same (Same.new (o := .dK []) n3)
    have ne3 : p3 ≠ d ∧ p3 ≠ l := ⟨fun z => (ne_of_none T3.hd n3) z.symm, fun z => by
      obtain ⟨_, _, cs, ls, _, h2, _⟩ := T3
      exact (ne_of_none h2 n3) z.symm⟩
    have s4 := Same.new (o := .dK []) n3
    replace q0 := s4.tup q0
    replace q1 := s4.tup q1
    replace q2 := s4 _ _ q2
    have q3 : L2.upd H4 p3 (.dK []) p3 = some (.dK []) := upd_same
    generalize L2.upd H4 p3 (.dK []) = H5 at *
    refine ⟨10, 30, rfl, rfl, ⟨by decide, by decide, by decide⟩, ?_⟩
    refine ⟨(by show 0 ≤ sizeLine; decide), fun p4 n4 => ⟨(by show 1 ≤ sizeLine; decide), fun p5 n5 => ?_⟩⟩
    have s5 := (Same.new (o := .tup []) n4).trans (Same.new (o := .tup [V.ref p4]) n5)
    have T6 := T4.same s5
    replace q0 := s5.tup q0
    replace q1 := s5.tup q1
    replace q2 := s5 _ _ q2
    replace q3 := s5 _ _ q3
    have q4 : SqT K (L2.upd (L2.upd H5 p4 (.tup [])) p5 (.tup [V.ref p4])) p4 [] := (Same.new (o := .tup [V.ref p4]) n5).tup (SqT.of upd_same)
    have q5 : SqT K (L2.upd (L2.upd H5 p4 (.tup [])) p5 (.tup [V.ref p4])) p5 [V.ref p4] := SqT.of upd_same
    generalize L2.upd (L2.upd H5 p4 (.tup [])) p5 (.tup [V.ref p4]) = H6 at *
    refine ⟨_, rfl, d, c, l, 0, 1000, rfl, T6, by decide, by decide, by decide, fun r H7 r0 r1 T7 fm => ?_⟩
    replace q0 := fm.tup T6 q0
    replace q1 := fm.tup T6 q1
    replace q2 := fm _ _ q2 ne2.1 ne2.2
    replace q3 := fm _ _ q3 ne3.1 ne3.2
    replace q4 := fm.tup T6 q4
    replace q5 := fm.tup T6 q5
    refine ⟨(by show 13 ≤ sizeLine; decide), fun pL nL => ?_⟩
    obtain ⟨vals, ev⟩ : ∃ vals, vals = [V.non, V.int 0, V.int (-7), V.bl true, V.str "", V.str "x", V.ref p0, V.ref p1, V.ref p2, V.ref p3, V.int (10 ^ Int.toNat 30), V.ref p5, V.int r] := ⟨_, rfl⟩
    have all : ∀ v ∈ vals, ThOk K H7 v := by
      rw [ev]
      intro v hv
      simp only [List.mem_cons, List.not_mem_nil, or_false] at hv
      rcases hv with rfl | rfl | rfl | rfl | rfl | rfl | rfl | rfl | rfl | rfl | rfl | rfl | rfl
      · exact th_dp .non (by decide +kernel) (by decide +kernel) (by decide +kernel) (by decide +kernel)
      · exact th_int (by decide)
      · exact th_int (by decide)
      · exact th_dp (.bl _) (by decide +kernel) (by decide +kernel) (by decide +kernel) (by decide +kernel)
      · exact th_dp (.str _) (by decide +kernel) (by decide +kernel) (by decide +kernel) (by decide +kernel)
      · exact th_dp (.str _) (by decide +kernel) (by decide +kernel) (by decide +kernel) (by decide +kernel)
      · exact th_dp (.tup q0 .nil) (by decide +kernel) (by decide +kernel) (by decide +kernel) (by decide +kernel)
      · exact th_dp (.tup q1 (.cons (.int 1) (.cons (.int 2) .nil))) (by decide +kernel) (by decide +kernel) (by decide +kernel) (by decide +kernel)
      · exact th_dp (.lst (SqL.of q2) (.cons (.int 3) .nil)) (by decide +kernel) (by decide +kernel) (by decide +kernel) (by decide +kernel)
      · exact ⟨.dict [], .inr ⟨p3, rfl, q3, rfl⟩, shOk_of (by decide +kernel) (by decide +kernel) (by decide +kernel) (by decide +kernel)⟩
      · exact th_dp (.int _) (by decide +kernel) (by decide +kernel) (by decide +kernel) (by decide +kernel)
      · exact th_dp (.tup q5 (.cons (.tup q4 .nil) .nil)) (by decide +kernel) (by decide +kernel) (by decide +kernel) (by decide +kernel)
      · exact th_int (by omega)
    rw [show ([V.non, V.int 0, V.int (-7), V.bl true, V.str "", V.str "x", V.ref p0, V.ref p1, V.ref p2, V.ref p3, V.int (10 ^ Int.toNat 30), V.ref p5, V.int r] : List V) = vals from ev.symm]
    have lL : L2.upd H7 pL (.lst vals) pL = some (.lst vals) := upd_same
    have allL : ∀ v ∈ vals, ThOk K (L2.upd H7 pL (.lst vals)) v := fun v hv => (all v hv).same (Same.new nL)
    generalize L2.upd H7 pL (.lst vals) = H8 at *
    clear q0 q1 q2 q3 q4 q5 all ne2 ne3 s3 s4 s5
    refine ⟨_, rfl, pL, rfl, ⟨_, SqL.of lL⟩, for_it (walk_list (K := K) (a := pL) (xs := vals)) (fun i σ H' => ∃ v3, σ = [some (.ref a), some (.ref d), some (.ref pL), v3, none, none, none] ∧ Same H8 H') ⟨none, rfl, Same.refl H8⟩ (fun i σ H' _ ⟨_, _, s⟩ => s.seq (SqL.of lL)) ?_ ?_⟩
    · rintro i x σ H9 H10 hi ⟨v3, rfl, S9⟩ ⟨rfl, hx⟩
      obtain ⟨dx, sv, so⟩ := (allL x (List.mem_of_getElem? hx)).same S9
      exact ⟨_, rfl, x, dx, rfl, sv, so, fun H11 s11 => ⟨_, rfl, iteF ⟨_, rfl, S9.trans s11⟩⟩⟩
    · rintro σ H9 ⟨v3, rfl, S9⟩
      clear allL lL
      refine ⟨_, _, rfl, fun aT H10 sT xT aP nP => ⟨_, _, rfl, ?_⟩⟩
      replace xT := xT.same (Same.new (o := ExO (.ref (Ax 24)) aP) nP)
      have hP : L2.upd H10 aP (ExO (.ref (Ax 24)) aP) aP = some (ExO (.ref (Ax 24)) aP) := upd_same
      generalize L2.upd H10 aP (ExO (.ref (Ax 24)) aP) = H11 at *
      obtain ⟨dx, y1, y2⟩ := xT.is []
      refine ⟨_, rfl, aT, Ax 20, dx, _, _, rfl, y1, EO.fx20.1, EO.fx20.2.1, .inr y2, rfl, _, rfl, aT, Ax 20, dx, _, _, rfl, y1, EO.fx20.1, EO.fx20.2.2, .inr y2, rfl, (by show 2 ≤ sizeLine; decide), fun q1 m1 => ⟨(by show 2 ≤ sizeLine; decide), fun q2 m2 => ⟨.list [.int 3, .none], .list [.int 3, .none], .lst (SqL.of (Same.new m2 _ _ upd_same)) (.cons (.int 3) (.cons .non .nil)), .lst (SqL.of upd_same) (.cons (.int 3) (.cons .non .nil)), by decide +kernel, by decide +kernel, ?_⟩⟩⟩
      rw [show PyData.eqv (.list [.int 3, .none]) (.list [.int 3, .none]) = true by decide +kernel]
      refine ⟨_, rfl, iteF ?_⟩
      have hP2 := Same.new (o := .lst [V.int 3, V.non]) m2 _ _ (Same.new (o := .lst [V.int 3, V.non]) m1 _ _ hP)
      generalize L2.upd (L2.upd H11 q1 (.lst [V.int 3, V.non])) q2 (.lst [V.int 3, V.non]) = H12 at *
      refine ⟨_, rfl, aP, none, 24, rfl, by decide, ⟨.inl ⟨_, hP2, exAt_O⟩, fun _ z => nomatch z⟩, fun p3 H13 s13 q3 => ?_⟩
      have hP3 := s13 _ _ hP2
      rw [sortsL_eq] at q3
      refine ⟨(by show 1 ≤ sizeLine; decide), fun q4 m4 => ⟨q4, 24, .bl false, rfl, rfl, upd_same, by decide, by decide, fun q5 m5 ne5 => ?_⟩⟩
      have e24 : List.replicate (Int.toNat 24) (V.bl false) = (bsS 24).map V.bl := by decide
      rw [e24]
      have s15 := (Same.new (o := .lst [V.bl false]) m4).trans (Same.new (o := .lst ((bsS 24).map V.bl)) m5)
      refine ⟨bD (bsS 24), bD (bsS 24), dp_bools (s15 _ _ q3), dp_bools upd_same, bD_shaped _, bD_shaped _, ?_⟩
      rw [bD_refl]
      refine ⟨_, rfl, iteF ?_⟩
      have hP4 := s15 _ _ hP3
      generalize L2.upd (L2.upd H13 q4 (.lst [V.bl false])) q5 (.lst ((bsS 24).map V.bl)) = H15 at *
      refine ⟨_, rfl, aP, none, 24, rfl, by decide, ⟨.inl ⟨_, hP4, exAt_O⟩, fun _ z => nomatch z⟩, fun p6 H16 s16 q6 => ?_⟩
      refine ⟨(by show 5 ≤ sizeLine; decide), fun q7 m7 => ?_⟩
      refine ⟨bD (bsA 24), bD (bsA 24), dp_bools (Same.new m7 _ _ q6), dp_bools upd_same, bD_shaped _, bD_shaped _, ?_⟩
      rw [bD_refl]
      refine ⟨_, rfl, iteF ?_⟩
      clear q6 hP hP2 hP3 hP4 y1 y2 q3 xT s13 s15 s16
      generalize L2.upd H16 q7 _ = H17 at *
      refine ⟨1, rfl, fun dd nd2 => ⟨true, EO.exm 2 (by decide), fun _ a1 na1 => ?_, fun z => Bool.noConfusion z⟩⟩
      refine ⟨_, rfl, 2, rfl, rfl, by decide, fun dd2 z => by cases z; exact ⟨_, upd_same⟩, fun p8 H18 s18 q8 => ⟨p8, _, 2, .bl true, rfl, rfl, SqL.of q8, atI_nat (j := 2) (by decide), true, true, rfl, rfl, _, rfl, iteF ?_⟩⟩
      have h18 := s18 _ _ (upd_same (H := H17) (a := dd) (o := .xd [("given", V.int 0)]))
      refine ⟨_, rfl, rfl, rfl, dd, _, _, rfl, h18, rfl, _, .int 0, rfl, .int 0, by decide +kernel, rfl, by decide, (by rw [sizeLine_eq]; decide +kernel), ?_⟩
      rw [show PyData.shown (.int 0) = ("0" : Str) by decide +kernel]
      refine ⟨rfl, _, rfl, iteF ?_⟩
      clear h18 q8
      refine ⟨(by show 2 ≤ sizeLine; decide), fun t1 n1 => ⟨(by show 2 ≤ sizeLine; decide), fun t2 n2 => ⟨(by show 1 ≤ sizeLine; decide), fun t3 n3 => ?_⟩⟩⟩
      have k1 : FT K (L2.upd H18 t1 (.tup [V.int 1, V.int 1])) t1 (1, 1) := SqT.of upd_same
      have sA := (Same.new (o := .tup [V.int 0, V.ref t1]) n2).trans (Same.new (o := .tup [V.ref t2]) n3)
      have hA : ShAt K (L2.upd (L2.upd (L2.upd H18 t1 (.tup [V.int 1, V.int 1])) t2 (.tup [V.int 0, V.ref t1])) t3 (.tup [V.ref t2])) t3 [(0, (1, 1))] := ⟨_, SqT.of upd_same, .cons ((Same.new (o := .tup [V.ref t2]) n3).tup (SqT.of upd_same)) (sA.tup k1) .nil⟩
      generalize L2.upd (L2.upd (L2.upd H18 t1 (.tup [V.int 1, V.int 1])) t2 (.tup [V.int 0, V.ref t1])) t3 (.tup [V.ref t2]) = H19 at *
      refine ⟨(by show 2 ≤ sizeLine; decide), fun t4 n4 => ⟨(by show 2 ≤ sizeLine; decide), fun t5 n5 => ⟨(by show 1 ≤ sizeLine; decide), fun t6 n6 => ?_⟩⟩⟩
      have k4 : FT K (L2.upd H19 t4 (.tup [V.int 1, V.int 1])) t4 (1, 1) := SqT.of upd_same
      have sB := (Same.new (o := .tup [V.int 1, V.ref t4]) n5).trans (Same.new (o := .tup [V.ref t5]) n6)
      have hB : ShAt K (L2.upd (L2.upd (L2.upd H19 t4 (.tup [V.int 1, V.int 1])) t5 (.tup [V.int 1, V.ref t4])) t6 (.tup [V.ref t5])) t6 [(1, (1, 1))] := ⟨_, SqT.of upd_same, .cons ((Same.new (o := .tup [V.ref t5]) n6).tup (SqT.of upd_same)) (sB.tup k4) .nil⟩
      replace hA := hA.tk (tk_same ((Same.new (o := .tup [V.int 1, V.int 1]) n4).trans sB))
      generalize L2.upd (L2.upd (L2.upd H19 t4 (.tup [V.int 1, V.int 1])) t5 (.tup [V.int 1, V.ref t4])) t6 (.tup [V.ref t5]) = H20 at *
      have one : ∀ m : Int, AllF 90 [(m, (1, 1))] := fun m x hx => by
        rw [List.mem_singleton] at hx
        subst hx
        exact ⟨(by decide : Fr (1, 1)), (by decide : (1 : Int).natAbs < 2 ^ 90 ∧ (1 : Int).natAbs < 2 ^ 90)⟩
      refine ⟨t3, t6, _, _, rfl, ⟨hA, hB, by decide, by decide, one _, one _, by decide +kernel, by decide +kernel⟩, fun r2 d3 H21 s21 h21 n21 => ⟨true, EO.exm 16 (by decide), fun _ a2 na2 => ?_, fun z => Bool.noConfusion z⟩⟩
      refine ⟨_, rfl, 16, rfl, rfl, by decide, fun dd2 z => by cases z; exact ⟨_, upd_same⟩, fun p8 H22 s22 q8 => ⟨p8, _, 16, .bl true, rfl, rfl, SqL.of q8, atI_nat (j := 16) (by decide), true, true, rfl, rfl, _, rfl, iteT ?_⟩⟩
      have h22 := s22 _ _ (upd_same (H := H21) (a := d3) (o := .xd [("paper", V.ref r2)]))
      have g22 := s22.tup ((Same.new (o := .xd [("paper", V.ref r2)]) n21).tup h21)
      refine ⟨_, rfl, rfl, rfl, d3, _, _, rfl, h22, rfl, (by show 1 ≤ sizeLine; decide), fun t7 n7 => ⟨.tuple [.str "moment"], .tuple [.str "moment"], .tup ((Same.new n7).tup g22) (.cons (.str _) .nil), .tup (SqT.of upd_same) (.cons (.str _) .nil), by decide +kernel, by decide +kernel, ?_⟩⟩
      rw [show PyData.eqv (.tuple [.str "moment"]) (.tuple [.str "moment"]) = true by decide +kernel]
      exact k _
end
end CS
set_option Elab.async false
set_option maxRecDepth 100000
set_option maxHeartbeats 8000000
set_option linter.unusedVariables false
/-! the program's errors, told by one test of its written part -/
namespace CS
open PySem L2
def axL (L : List Addr) : Nat → Addr := fun i => L.getD i 0
def excCB (K : PySem.W.Frag) (C : Addr) : Bool :=
  decide (PySem.W.findIn K (.ref C) "__getattribute__" = some (some (.builtin "BaseException.__getattribute__"))) && (decide (PySem.W.findIn K (.ref C) "__getattr__" = some none) && (decide (PySem.W.subIn K (.ref C) (.type "BaseException") = some true) && (PySem.W.hasDictIn K C &&
    (decide (PySem.W.findIn K (.ref C) "__class__" = some (some (.builtin "object.__class__"))) && (decide (PySem.W.specialIn K (.builtin "object.__class__") "__get__" = some (some (.builtin "getset_descriptor.__get__"))) && (decide (PySem.W.takesIn K (.builtin "object.__class__") = some true) && decide (PySem.W.mroIn K C (.type "object") = some true)))))))
theorem excC_of {K : PySem.W.Frag} {C : Addr} (h : excCB K C = true) : ExcC K C := by
  unfold excCB at h
  simp only [Bool.and_eq_true, decide_eq_true_eq] at h
  obtain ⟨h1, h2, h3, h4, h5, h6, h7, h8⟩ := h
  exact ⟨h1, h2, h3, h4, h5, h6, h7, h8⟩
def errB (K : PySem.W.Frag) (L : List Addr) : Bool :=
  (List.range 25).all (fun j => excCB K (axL L j) && ((List.range 24).all (fun i => decide (PySem.W.kitOne K (.ref (axL L j)) (.ref (axL L i)) = some (decide (i = j)))) && (decide (PySem.W.kitOne K (.ref (axL L j)) (.ref (axL L 24)) = some (decide (j < 21 ∨ j = 24))) && (decide (PySem.W.kitOne K (.ref (axL L j)) (.type "ValueError") = some (decide (j < 21 ∨ j = 24))) &&
    (decide (PySem.W.kitOne K (.ref (axL L j)) (.type "OverflowError") = some (decide (j = 21))) && (decide (PySem.W.kitOne K (.ref (axL L j)) (.type "RuntimeError") = some (decide (j = 22))) && (decide (PySem.W.kitOne K (.ref (axL L j)) (.type "KeyError") = some (decide (j = 23))) && (!decide (j < 21) || decide (PySem.W.exmOne K (.ref (axL L j)) (.ref (axL L 24)) = some true)))))))))
theorem errB_at {K : PySem.W.Frag} {L : List Addr} (h : errB K L = true) {j : Nat} (hj : j < 25) : ExcC K (axL L j) ∧ (∀ i, i < 24 → PySem.W.kitOne K (.ref (axL L j)) (.ref (axL L i)) = some (decide (i = j))) ∧ PySem.W.kitOne K (.ref (axL L j)) (.ref (axL L 24)) = some (decide (j < 21 ∨ j = 24)) ∧ PySem.W.kitOne K (.ref (axL L j)) (.type "ValueError") = some (decide (j < 21 ∨ j = 24)) ∧
    PySem.W.kitOne K (.ref (axL L j)) (.type "OverflowError") = some (decide (j = 21)) ∧ PySem.W.kitOne K (.ref (axL L j)) (.type "RuntimeError") = some (decide (j = 22)) ∧ PySem.W.kitOne K (.ref (axL L j)) (.type "KeyError") = some (decide (j = 23)) ∧ (j < 21 → PySem.W.exmOne K (.ref (axL L j)) (.ref (axL L 24)) = some true) := by
  have q := List.all_eq_true.mp h j (List.mem_range.mpr hj)
  simp only [Bool.and_eq_true, Bool.or_eq_true, Bool.not_eq_true', decide_eq_true_eq, decide_eq_false_iff_not] at q
  obtain ⟨q1, q2, q3, q4, q5, q6, q7, q8⟩ := q
  exact ⟨excC_of q1, fun i hi => of_decide_eq_true (List.all_eq_true.mp q2 i (List.mem_range.mpr hi)), q3, q4, q5, q6, q7, fun c => q8.resolve_left fun z => z c⟩
theorem errOk_of {K : PySem.W.Frag} {mg : Str → Option Value} {L : List Addr} (h : errB K L = true)
    (z0 : ∃ g fd, Xc K mg "BadFraction" "given" (axL L 0) g bmV "ValueError.__new__" (inClass sBadFraction 0) "BadFraction.__init__" fd)
    (z1 : ∃ g fd, Xc K mg "BadShare" "given" (axL L 1) g bmV "ValueError.__new__" (inClass sBadshare 0) "BadShare.__init__" fd)
    (z2 : ∃ g fd, Xc K mg "BadNumber" "given" (axL L 2) g bmV "ValueError.__new__" (inClass sBadnumber 0) "BadNumber.__init__" fd)
    (z3 : ∃ g fd, Xc K mg "BadWeight" "given" (axL L 3) g bmV "ValueError.__new__" (inClass sBadweight 0) "BadWeight.__init__" fd)
    (z4 : ∃ g fd, Xc K mg "BadOrder" "given" (axL L 4) g bmV "ValueError.__new__" (inClass sBadOrder 0) "BadOrder.__init__" fd)
    (z5 : ∃ g fd, Xc K mg "BadTable" "given" (axL L 5) g bmV "ValueError.__new__" (inClass sBadTable 0) "BadTable.__init__" fd)
    (z6 : ∃ g fd, Xc K mg "BadCrossing" "given" (axL L 6) g bmV "ValueError.__new__" (inClass sBadCrossing 0) "BadCrossing.__init__" fd)
    (z7 : ∃ g fd, Xc K mg "BadCosts" "given" (axL L 7) g bmV "ValueError.__new__" (inClass sBadCosts 0) "BadCosts.__init__" fd)
    (z8 : ∃ g fd, Xc K mg "BadDays" "given" (axL L 8) g bmV "ValueError.__new__" (inClass sBadDays 0) "BadDays.__init__" fd)
    (z9 : ∃ g fd, Xc K mg "BadClaim" "given" (axL L 9) g bmV "ValueError.__new__" (inClass sBadClaim 0) "BadClaim.__init__" fd)
    (z10 : ∃ g fd, Xc K mg "BadFair" "given" (axL L 10) g bmV "ValueError.__new__" (inClass sBadFair 0) "BadFair.__init__" fd)
    (z11 : ∃ g fd, Xc K mg "BadHedge" "given" (axL L 11) g bmV "ValueError.__new__" (inClass sBadHedge 0) "BadHedge.__init__" fd)
    (z12 : ∃ g fd, Xc K mg "BadLabel" "given" (axL L 12) g bmV "ValueError.__new__" (inClass sBadLabel 0) "BadLabel.__init__" fd)
    (z13 : ∃ g fd, Xc K mg "BadQuote" "given" (axL L 13) g bmV "ValueError.__new__" (inClass sBadQuote 0) "BadQuote.__init__" fd)
    (z14 : ∃ g fd, Xc K mg "BadPaper" "part" (axL L 14) g bmV "ValueError.__new__" (inClass sBadPaper 0) "BadPaper.__init__" fd)
    (z15 : ∃ g fd, Xc K mg "BadBook" "part" (axL L 15) g bmV "ValueError.__new__" (inClass sBadBook 0) "BadBook.__init__" fd)
    (z16 : ∃ g fd, Xc K mg "NotWider" "paper" (axL L 16) g bmV "ValueError.__new__" (inClass sNotWider 0) "NotWider.__init__" fd)
    (z17 : ∃ g fd, Xc K mg "SureGain" "paper" (axL L 17) g bmV "ValueError.__new__" (inClass sSureGain 0) "SureGain.__init__" fd)
    (z18 : ∃ g fd, Xc K mg "BadTerm" "path" (axL L 18) g bmV "ValueError.__new__" (inClass sBadTerm 0) "BadTerm.__init__" fd)
    (z19 : ∃ g fd, Xc K mg "BadMix" "path" (axL L 19) g bmV "ValueError.__new__" (inClass sBadMix 0) "BadMix.__init__" fd)
    (z20 : ∃ g fd, Xc2 K mg "BadText" "line" "word" (axL L 20) g bmV "ValueError.__new__" (inClass sBadText 0) "BadText.__init__" fd)
    (z21 : ∃ g fd, Xc K mg "TooMany" "most" (axL L 21) g bmO "OverflowError.__new__" (inClass sToomany 0) "TooMany.__init__" fd)
    (z22 : ∃ g fd, Xc K mg "NothingLeft" "many" (axL L 22) g bmR "RuntimeError.__new__" (inClass sNothingLeft 0) "NothingLeft.__init__" fd)
    (z23 : ∃ g fd, Xc K mg "Missing" "given" (axL L 23) g bmK "LookupError.__new__" (inClass sMissing 0) "Missing.__init__" fd)
    (st : mg "StepError" = some (.ref (axL L 24)) ∧ PySem.W.excIn K (axL L 24) bmV "ValueError.__new__" = true ∧ PySem.W.keepIn K (.ref (axL L 24)) = true) (mV : mg "ValueError" = none) (mO : mg "OverflowError" = none) (mR : mg "RuntimeError" = none) (mK : mg "KeyError" = none) : ErrOk K mg (axL L) :=
  { z0 := z0, z1 := z1, z2 := z2, z3 := z3, z4 := z4, z5 := z5, z6 := z6, z7 := z7, z8 := z8, z9 := z9, z10 := z10, z11 := z11, z12 := z12, z13 := z13, z14 := z14, z15 := z15, z16 := z16, z17 := z17, z18 := z18, z19 := z19, z20 := z20, z21 := z21, z22 := z22, z23 := z23, step := st, mV := mV, mO := mO, mR := mR, mK := mK,
    exc := fun j hj => (errB_at h hj).1
    kit := fun j i hj hi => (errB_at h hj).2.1 i hi
    kS := fun j hj => (errB_at h hj).2.2.1
    kV := fun j hj => (errB_at h hj).2.2.2.1
    kO := fun j hj => (errB_at h hj).2.2.2.2.1
    kR := fun j hj => (errB_at h hj).2.2.2.2.2.1
    kK := fun j hj => (errB_at h hj).2.2.2.2.2.2.1
    exm := fun j hj => (errB_at h (Nat.lt_of_lt_of_le hj (by decide))).2.2.2.2.2.2.2 hj }
end CS
set_option Elab.async false
set_option maxRecDepth 100000
set_option linter.unusedVariables false
namespace CS
open PySem L2
set_option maxHeartbeats 16000000 in
theorem all_mk {l : PySem.W.OpenLaw} {w : World} {K : PySem.W.Frag} {h : Heap} {mg : Str → Option Value} {fa fLawAbove fLawSorts fLawValues fLawGivenOnes fLawRight fDraw fMixed fBegin fLowered fIsWhole fRatio fBuiltFromLeft fHasLesserRest fAdded fSumOf fScaled fMomentOf fTotalOf fRefusal fNeedWider fIsRow fIsRowOf fIsWholeWithin fIsNumber fIsFraction fIsWeight fIsSharePair fAscends fIsShare fNeedShare fLeftTable fLaw fN : Addr} (X : K.In h) (G : h.Ns mainGlobals mg) (hfa : mg "law" = some (.ref fa))
    {odLawAbove anLawAbove : Option Addr} {slLawAbove : Array (Option Value)} {ocLawAbove kVLawAbove dcLawAbove pmLawAbove cdLawAbove ctLawAbove : Value} (aLawAbove : PySem.W.nsIn K mainGlobals "_law_above" = some (some (.ref fLawAbove))) (lLawAbove : K.lookup fLawAbove = some ⟨ocLawAbove, odLawAbove, .func (PySem.W.fnOf "_law_above" "_law_above" (defArgs sLawAbove) (defBody sLawAbove) (defScope sLawAbove) .none kVLawAbove dcLawAbove pmLawAbove anLawAbove cdLawAbove ctLawAbove), slLawAbove⟩) (cLawAbove : PySem.W.codeIn K cdLawAbove "_law_above" = true) (kLawAbove : PySem.W.keepIn K (.ref fLawAbove) = true)
    {odLawSorts anLawSorts : Option Addr} {slLawSorts : Array (Option Value)} {ocLawSorts kVLawSorts dcLawSorts pmLawSorts cdLawSorts ctLawSorts : Value} (aLawSorts : PySem.W.nsIn K mainGlobals "_law_sorts" = some (some (.ref fLawSorts))) (lLawSorts : K.lookup fLawSorts = some ⟨ocLawSorts, odLawSorts, .func (PySem.W.fnOf "_law_sorts" "_law_sorts" (defArgs sLawSorts) (defBody sLawSorts) (defScope sLawSorts) .none kVLawSorts dcLawSorts pmLawSorts anLawSorts cdLawSorts ctLawSorts), slLawSorts⟩) (cLawSorts : PySem.W.codeIn K cdLawSorts "_law_sorts" = true) (kLawSorts : PySem.W.keepIn K (.ref fLawSorts) = true)
    {odLawValues anLawValues : Option Addr} {slLawValues : Array (Option Value)} {ocLawValues kVLawValues dcLawValues pmLawValues cdLawValues ctLawValues : Value} (aLawValues : PySem.W.nsIn K mainGlobals "_law_values" = some (some (.ref fLawValues))) (lLawValues : K.lookup fLawValues = some ⟨ocLawValues, odLawValues, .func (PySem.W.fnOf "_law_values" "_law_values" (defArgs sLawValues) (defBody sLawValues) (defScope sLawValues) .none kVLawValues dcLawValues pmLawValues anLawValues cdLawValues ctLawValues), slLawValues⟩) (cLawValues : PySem.W.codeIn K cdLawValues "_law_values" = true) (kLawValues : PySem.W.keepIn K (.ref fLawValues) = true)
    {odLawGivenOnes anLawGivenOnes : Option Addr} {slLawGivenOnes : Array (Option Value)} {ocLawGivenOnes kVLawGivenOnes dcLawGivenOnes pmLawGivenOnes cdLawGivenOnes ctLawGivenOnes : Value} (aLawGivenOnes : PySem.W.nsIn K mainGlobals "_law_given_ones" = some (some (.ref fLawGivenOnes))) (lLawGivenOnes : K.lookup fLawGivenOnes = some ⟨ocLawGivenOnes, odLawGivenOnes, .func (PySem.W.fnOf "_law_given_ones" "_law_given_ones" (defArgs sLawGivenOnes) (defBody sLawGivenOnes) (defScope sLawGivenOnes) .none kVLawGivenOnes dcLawGivenOnes pmLawGivenOnes anLawGivenOnes cdLawGivenOnes ctLawGivenOnes), slLawGivenOnes⟩) (cLawGivenOnes : PySem.W.codeIn K cdLawGivenOnes "_law_given_ones" = true) (kLawGivenOnes : PySem.W.keepIn K (.ref fLawGivenOnes) = true)
    {odLawRight anLawRight : Option Addr} {slLawRight : Array (Option Value)} {ocLawRight kVLawRight dcLawRight pmLawRight cdLawRight ctLawRight : Value} (aLawRight : PySem.W.nsIn K mainGlobals "_law_right" = some (some (.ref fLawRight))) (lLawRight : K.lookup fLawRight = some ⟨ocLawRight, odLawRight, .func (PySem.W.fnOf "_law_right" "_law_right" (defArgs sLawRight) (defBody sLawRight) (defScope sLawRight) .none kVLawRight dcLawRight pmLawRight anLawRight cdLawRight ctLawRight), slLawRight⟩) (cLawRight : PySem.W.codeIn K cdLawRight "_law_right" = true) (kLawRight : PySem.W.keepIn K (.ref fLawRight) = true)
    {odDraw anDraw : Option Addr} {slDraw : Array (Option Value)} {ocDraw kVDraw dcDraw pmDraw cdDraw ctDraw : Value} (aDraw : PySem.W.nsIn K mainGlobals "_law_draw" = some (some (.ref fDraw))) (lDraw : K.lookup fDraw = some ⟨ocDraw, odDraw, .func (PySem.W.fnOf "_law_draw" "_law_draw" (defArgs sDraw) (defBody sDraw) (defScope sDraw) .none kVDraw dcDraw pmDraw anDraw cdDraw ctDraw), slDraw⟩) (cDraw : PySem.W.codeIn K cdDraw "_law_draw" = true) (kDraw : PySem.W.keepIn K (.ref fDraw) = true)
    {odMixed anMixed : Option Addr} {slMixed : Array (Option Value)} {ocMixed kVMixed dcMixed pmMixed cdMixed ctMixed : Value} (aMixed : PySem.W.nsIn K mainGlobals "_law_mixed" = some (some (.ref fMixed))) (lMixed : K.lookup fMixed = some ⟨ocMixed, odMixed, .func (PySem.W.fnOf "_law_mixed" "_law_mixed" (defArgs sMixed) (defBody sMixed) (defScope sMixed) .none kVMixed dcMixed pmMixed anMixed cdMixed ctMixed), slMixed⟩) (cMixed : PySem.W.codeIn K cdMixed "_law_mixed" = true) (kMixed : PySem.W.keepIn K (.ref fMixed) = true)
    {odBegin anBegin : Option Addr} {slBegin : Array (Option Value)} {ocBegin kVBegin dcBegin pmBegin cdBegin ctBegin : Value} (aBegin : PySem.W.nsIn K mainGlobals "_law_begin" = some (some (.ref fBegin))) (lBegin : K.lookup fBegin = some ⟨ocBegin, odBegin, .func (PySem.W.fnOf "_law_begin" "_law_begin" (defArgs sBegin) (defBody sBegin) (defScope sBegin) .none kVBegin dcBegin pmBegin anBegin cdBegin ctBegin), slBegin⟩) (cBegin : PySem.W.codeIn K cdBegin "_law_begin" = true) (kBegin : PySem.W.keepIn K (.ref fBegin) = true)
    {odLowered anLowered : Option Addr} {slLowered : Array (Option Value)} {ocLowered kVLowered dcLowered pmLowered cdLowered ctLowered : Value} (aLowered : PySem.W.nsIn K mainGlobals "lowered" = some (some (.ref fLowered))) (lLowered : K.lookup fLowered = some ⟨ocLowered, odLowered, .func (PySem.W.fnOf "lowered" "lowered" (defArgs sLowered) (defBody sLowered) (defScope sLowered) .none kVLowered dcLowered pmLowered anLowered cdLowered ctLowered), slLowered⟩) (cLowered : PySem.W.codeIn K cdLowered "lowered" = true) (kLowered : PySem.W.keepIn K (.ref fLowered) = true)
    {odIsWhole anIsWhole : Option Addr} {slIsWhole : Array (Option Value)} {ocIsWhole kVIsWhole dcIsWhole pmIsWhole cdIsWhole ctIsWhole : Value} (aIsWhole : PySem.W.nsIn K mainGlobals "is_whole" = some (some (.ref fIsWhole))) (lIsWhole : K.lookup fIsWhole = some ⟨ocIsWhole, odIsWhole, .func (PySem.W.fnOf "is_whole" "is_whole" (defArgs sIsWhole) (defBody sIsWhole) (defScope sIsWhole) .none kVIsWhole dcIsWhole pmIsWhole anIsWhole cdIsWhole ctIsWhole), slIsWhole⟩) (cIsWhole : PySem.W.codeIn K cdIsWhole "is_whole" = true) (kIsWhole : PySem.W.keepIn K (.ref fIsWhole) = true)
    {odRatio anRatio : Option Addr} {slRatio : Array (Option Value)} {ocRatio kVRatio dcRatio pmRatio cdRatio ctRatio : Value} (aRatio : PySem.W.nsIn K mainGlobals "ratio" = some (some (.ref fRatio))) (lRatio : K.lookup fRatio = some ⟨ocRatio, odRatio, .func (PySem.W.fnOf "ratio" "ratio" (defArgs sRatio) (defBody sRatio) (defScope sRatio) .none kVRatio dcRatio pmRatio anRatio cdRatio ctRatio), slRatio⟩) (cRatio : PySem.W.codeIn K cdRatio "ratio" = true) (kRatio : PySem.W.keepIn K (.ref fRatio) = true)
    {odBuiltFromLeft anBuiltFromLeft : Option Addr} {slBuiltFromLeft : Array (Option Value)} {ocBuiltFromLeft kVBuiltFromLeft dcBuiltFromLeft pmBuiltFromLeft cdBuiltFromLeft ctBuiltFromLeft : Value} (aBuiltFromLeft : PySem.W.nsIn K mainGlobals "built_from_left" = some (some (.ref fBuiltFromLeft))) (lBuiltFromLeft : K.lookup fBuiltFromLeft = some ⟨ocBuiltFromLeft, odBuiltFromLeft, .func (PySem.W.fnOf "built_from_left" "built_from_left" (defArgs sBuiltFromLeft) (defBody sBuiltFromLeft) (defScope sBuiltFromLeft) .none kVBuiltFromLeft dcBuiltFromLeft pmBuiltFromLeft anBuiltFromLeft cdBuiltFromLeft ctBuiltFromLeft), slBuiltFromLeft⟩) (cBuiltFromLeft : PySem.W.codeIn K cdBuiltFromLeft "built_from_left" = true) (kBuiltFromLeft : PySem.W.keepIn K (.ref fBuiltFromLeft) = true)
    {odHasLesserRest anHasLesserRest : Option Addr} {slHasLesserRest : Array (Option Value)} {ocHasLesserRest kVHasLesserRest dcHasLesserRest pmHasLesserRest cdHasLesserRest ctHasLesserRest : Value} (aHasLesserRest : PySem.W.nsIn K mainGlobals "has_lesser_rest" = some (some (.ref fHasLesserRest))) (lHasLesserRest : K.lookup fHasLesserRest = some ⟨ocHasLesserRest, odHasLesserRest, .func (PySem.W.fnOf "has_lesser_rest" "has_lesser_rest" (defArgs sHasLesserRest) (defBody sHasLesserRest) (defScope sHasLesserRest) .none kVHasLesserRest dcHasLesserRest pmHasLesserRest anHasLesserRest cdHasLesserRest ctHasLesserRest), slHasLesserRest⟩) (cHasLesserRest : PySem.W.codeIn K cdHasLesserRest "has_lesser_rest" = true) (kHasLesserRest : PySem.W.keepIn K (.ref fHasLesserRest) = true)
    {odAdded anAdded : Option Addr} {slAdded : Array (Option Value)} {ocAdded kVAdded dcAdded pmAdded cdAdded ctAdded : Value} (aAdded : PySem.W.nsIn K mainGlobals "added" = some (some (.ref fAdded))) (lAdded : K.lookup fAdded = some ⟨ocAdded, odAdded, .func (PySem.W.fnOf "added" "added" (defArgs sAdded) (defBody sAdded) (defScope sAdded) .none kVAdded dcAdded pmAdded anAdded cdAdded ctAdded), slAdded⟩) (cAdded : PySem.W.codeIn K cdAdded "added" = true) (kAdded : PySem.W.keepIn K (.ref fAdded) = true)
    {odSumOf anSumOf : Option Addr} {slSumOf : Array (Option Value)} {ocSumOf kVSumOf dcSumOf pmSumOf cdSumOf ctSumOf : Value} (aSumOf : PySem.W.nsIn K mainGlobals "sum_of" = some (some (.ref fSumOf))) (lSumOf : K.lookup fSumOf = some ⟨ocSumOf, odSumOf, .func (PySem.W.fnOf "sum_of" "sum_of" (defArgs sSumOf) (defBody sSumOf) (defScope sSumOf) .none kVSumOf dcSumOf pmSumOf anSumOf cdSumOf ctSumOf), slSumOf⟩) (cSumOf : PySem.W.codeIn K cdSumOf "sum_of" = true) (kSumOf : PySem.W.keepIn K (.ref fSumOf) = true)
    {odScaled anScaled : Option Addr} {slScaled : Array (Option Value)} {ocScaled kVScaled dcScaled pmScaled cdScaled ctScaled : Value} (aScaled : PySem.W.nsIn K mainGlobals "scaled" = some (some (.ref fScaled))) (lScaled : K.lookup fScaled = some ⟨ocScaled, odScaled, .func (PySem.W.fnOf "scaled" "scaled" (defArgs sScaled) (defBody sScaled) (defScope sScaled) .none kVScaled dcScaled pmScaled anScaled cdScaled ctScaled), slScaled⟩) (cScaled : PySem.W.codeIn K cdScaled "scaled" = true) (kScaled : PySem.W.keepIn K (.ref fScaled) = true)
    {odMomentOf anMomentOf : Option Addr} {slMomentOf : Array (Option Value)} {ocMomentOf kVMomentOf dcMomentOf pmMomentOf cdMomentOf ctMomentOf : Value} (aMomentOf : PySem.W.nsIn K mainGlobals "moment_of" = some (some (.ref fMomentOf))) (lMomentOf : K.lookup fMomentOf = some ⟨ocMomentOf, odMomentOf, .func (PySem.W.fnOf "moment_of" "moment_of" (defArgs sMomentOf) (defBody sMomentOf) (defScope sMomentOf) .none kVMomentOf dcMomentOf pmMomentOf anMomentOf cdMomentOf ctMomentOf), slMomentOf⟩) (cMomentOf : PySem.W.codeIn K cdMomentOf "moment_of" = true) (kMomentOf : PySem.W.keepIn K (.ref fMomentOf) = true)
    {odTotalOf anTotalOf : Option Addr} {slTotalOf : Array (Option Value)} {ocTotalOf kVTotalOf dcTotalOf pmTotalOf cdTotalOf ctTotalOf : Value} (aTotalOf : PySem.W.nsIn K mainGlobals "total_of" = some (some (.ref fTotalOf))) (lTotalOf : K.lookup fTotalOf = some ⟨ocTotalOf, odTotalOf, .func (PySem.W.fnOf "total_of" "total_of" (defArgs sTotalOf) (defBody sTotalOf) (defScope sTotalOf) .none kVTotalOf dcTotalOf pmTotalOf anTotalOf cdTotalOf ctTotalOf), slTotalOf⟩) (cTotalOf : PySem.W.codeIn K cdTotalOf "total_of" = true) (kTotalOf : PySem.W.keepIn K (.ref fTotalOf) = true)
    {odRefusal anRefusal : Option Addr} {slRefusal : Array (Option Value)} {ocRefusal kVRefusal dcRefusal pmRefusal cdRefusal ctRefusal : Value} (aRefusal : PySem.W.nsIn K mainGlobals "refusal" = some (some (.ref fRefusal))) (lRefusal : K.lookup fRefusal = some ⟨ocRefusal, odRefusal, .func (PySem.W.fnOf "refusal" "refusal" (defArgs sRefusal) (defBody sRefusal) (defScope sRefusal) .none kVRefusal dcRefusal pmRefusal anRefusal cdRefusal ctRefusal), slRefusal⟩) (cRefusal : PySem.W.codeIn K cdRefusal "refusal" = true) (kRefusal : PySem.W.keepIn K (.ref fRefusal) = true)
    {odNeedWider anNeedWider : Option Addr} {slNeedWider : Array (Option Value)} {ocNeedWider kVNeedWider dcNeedWider pmNeedWider cdNeedWider ctNeedWider : Value} (aNeedWider : PySem.W.nsIn K mainGlobals "need_wider" = some (some (.ref fNeedWider))) (lNeedWider : K.lookup fNeedWider = some ⟨ocNeedWider, odNeedWider, .func (PySem.W.fnOf "need_wider" "need_wider" (defArgs sNeedWider) (defBody sNeedWider) (defScope sNeedWider) .none kVNeedWider dcNeedWider pmNeedWider anNeedWider cdNeedWider ctNeedWider), slNeedWider⟩) (cNeedWider : PySem.W.codeIn K cdNeedWider "need_wider" = true) (kNeedWider : PySem.W.keepIn K (.ref fNeedWider) = true)
    {odIsRow anIsRow : Option Addr} {slIsRow : Array (Option Value)} {ocIsRow kVIsRow dcIsRow pmIsRow cdIsRow ctIsRow : Value} (aIsRow : PySem.W.nsIn K mainGlobals "is_row" = some (some (.ref fIsRow))) (lIsRow : K.lookup fIsRow = some ⟨ocIsRow, odIsRow, .func (PySem.W.fnOf "is_row" "is_row" (defArgs sIsRow) (defBody sIsRow) (defScope sIsRow) .none kVIsRow dcIsRow pmIsRow anIsRow cdIsRow ctIsRow), slIsRow⟩) (cIsRow : PySem.W.codeIn K cdIsRow "is_row" = true) (kIsRow : PySem.W.keepIn K (.ref fIsRow) = true)
    {odIsRowOf anIsRowOf : Option Addr} {slIsRowOf : Array (Option Value)} {ocIsRowOf kVIsRowOf dcIsRowOf pmIsRowOf cdIsRowOf ctIsRowOf : Value} (aIsRowOf : PySem.W.nsIn K mainGlobals "is_row_of" = some (some (.ref fIsRowOf))) (lIsRowOf : K.lookup fIsRowOf = some ⟨ocIsRowOf, odIsRowOf, .func (PySem.W.fnOf "is_row_of" "is_row_of" (defArgs sIsRowOf) (defBody sIsRowOf) (defScope sIsRowOf) .none kVIsRowOf dcIsRowOf pmIsRowOf anIsRowOf cdIsRowOf ctIsRowOf), slIsRowOf⟩) (cIsRowOf : PySem.W.codeIn K cdIsRowOf "is_row_of" = true) (kIsRowOf : PySem.W.keepIn K (.ref fIsRowOf) = true)
    {odIsWholeWithin anIsWholeWithin : Option Addr} {slIsWholeWithin : Array (Option Value)} {ocIsWholeWithin kVIsWholeWithin dcIsWholeWithin pmIsWholeWithin cdIsWholeWithin ctIsWholeWithin : Value} (aIsWholeWithin : PySem.W.nsIn K mainGlobals "is_whole_within" = some (some (.ref fIsWholeWithin))) (lIsWholeWithin : K.lookup fIsWholeWithin = some ⟨ocIsWholeWithin, odIsWholeWithin, .func (PySem.W.fnOf "is_whole_within" "is_whole_within" (defArgs sIsWholeWithin) (defBody sIsWholeWithin) (defScope sIsWholeWithin) .none kVIsWholeWithin dcIsWholeWithin pmIsWholeWithin anIsWholeWithin cdIsWholeWithin ctIsWholeWithin), slIsWholeWithin⟩) (cIsWholeWithin : PySem.W.codeIn K cdIsWholeWithin "is_whole_within" = true) (kIsWholeWithin : PySem.W.keepIn K (.ref fIsWholeWithin) = true)
    {odIsNumber anIsNumber : Option Addr} {slIsNumber : Array (Option Value)} {ocIsNumber kVIsNumber dcIsNumber pmIsNumber cdIsNumber ctIsNumber : Value} (aIsNumber : PySem.W.nsIn K mainGlobals "is_number" = some (some (.ref fIsNumber))) (lIsNumber : K.lookup fIsNumber = some ⟨ocIsNumber, odIsNumber, .func (PySem.W.fnOf "is_number" "is_number" (defArgs sIsNumber) (defBody sIsNumber) (defScope sIsNumber) .none kVIsNumber dcIsNumber pmIsNumber anIsNumber cdIsNumber ctIsNumber), slIsNumber⟩) (cIsNumber : PySem.W.codeIn K cdIsNumber "is_number" = true) (kIsNumber : PySem.W.keepIn K (.ref fIsNumber) = true)
    {odIsFraction anIsFraction : Option Addr} {slIsFraction : Array (Option Value)} {ocIsFraction kVIsFraction dcIsFraction pmIsFraction cdIsFraction ctIsFraction : Value} (aIsFraction : PySem.W.nsIn K mainGlobals "is_fraction" = some (some (.ref fIsFraction))) (lIsFraction : K.lookup fIsFraction = some ⟨ocIsFraction, odIsFraction, .func (PySem.W.fnOf "is_fraction" "is_fraction" (defArgs sIsFraction) (defBody sIsFraction) (defScope sIsFraction) .none kVIsFraction dcIsFraction pmIsFraction anIsFraction cdIsFraction ctIsFraction), slIsFraction⟩) (cIsFraction : PySem.W.codeIn K cdIsFraction "is_fraction" = true) (kIsFraction : PySem.W.keepIn K (.ref fIsFraction) = true)
    {odIsWeight anIsWeight : Option Addr} {slIsWeight : Array (Option Value)} {ocIsWeight kVIsWeight dcIsWeight pmIsWeight cdIsWeight ctIsWeight : Value} (aIsWeight : PySem.W.nsIn K mainGlobals "is_weight" = some (some (.ref fIsWeight))) (lIsWeight : K.lookup fIsWeight = some ⟨ocIsWeight, odIsWeight, .func (PySem.W.fnOf "is_weight" "is_weight" (defArgs sIsWeight) (defBody sIsWeight) (defScope sIsWeight) .none kVIsWeight dcIsWeight pmIsWeight anIsWeight cdIsWeight ctIsWeight), slIsWeight⟩) (cIsWeight : PySem.W.codeIn K cdIsWeight "is_weight" = true) (kIsWeight : PySem.W.keepIn K (.ref fIsWeight) = true)
    {odIsSharePair anIsSharePair : Option Addr} {slIsSharePair : Array (Option Value)} {ocIsSharePair kVIsSharePair dcIsSharePair pmIsSharePair cdIsSharePair ctIsSharePair : Value} (aIsSharePair : PySem.W.nsIn K mainGlobals "is_share_pair" = some (some (.ref fIsSharePair))) (lIsSharePair : K.lookup fIsSharePair = some ⟨ocIsSharePair, odIsSharePair, .func (PySem.W.fnOf "is_share_pair" "is_share_pair" (defArgs sIsSharePair) (defBody sIsSharePair) (defScope sIsSharePair) .none kVIsSharePair dcIsSharePair pmIsSharePair anIsSharePair cdIsSharePair ctIsSharePair), slIsSharePair⟩) (cIsSharePair : PySem.W.codeIn K cdIsSharePair "is_share_pair" = true) (kIsSharePair : PySem.W.keepIn K (.ref fIsSharePair) = true)
    {odAscends anAscends : Option Addr} {slAscends : Array (Option Value)} {ocAscends kVAscends dcAscends pmAscends cdAscends ctAscends : Value} (aAscends : PySem.W.nsIn K mainGlobals "ascends" = some (some (.ref fAscends))) (lAscends : K.lookup fAscends = some ⟨ocAscends, odAscends, .func (PySem.W.fnOf "ascends" "ascends" (defArgs sAscends) (defBody sAscends) (defScope sAscends) .none kVAscends dcAscends pmAscends anAscends cdAscends ctAscends), slAscends⟩) (cAscends : PySem.W.codeIn K cdAscends "ascends" = true) (kAscends : PySem.W.keepIn K (.ref fAscends) = true)
    {odIsShare anIsShare : Option Addr} {slIsShare : Array (Option Value)} {ocIsShare kVIsShare dcIsShare pmIsShare cdIsShare ctIsShare : Value} (aIsShare : PySem.W.nsIn K mainGlobals "is_share" = some (some (.ref fIsShare))) (lIsShare : K.lookup fIsShare = some ⟨ocIsShare, odIsShare, .func (PySem.W.fnOf "is_share" "is_share" (defArgs sIsShare) (defBody sIsShare) (defScope sIsShare) .none kVIsShare dcIsShare pmIsShare anIsShare cdIsShare ctIsShare), slIsShare⟩) (cIsShare : PySem.W.codeIn K cdIsShare "is_share" = true) (kIsShare : PySem.W.keepIn K (.ref fIsShare) = true)
    {odNeedShare anNeedShare : Option Addr} {slNeedShare : Array (Option Value)} {ocNeedShare kVNeedShare dcNeedShare pmNeedShare cdNeedShare ctNeedShare : Value} (aNeedShare : PySem.W.nsIn K mainGlobals "need_share" = some (some (.ref fNeedShare))) (lNeedShare : K.lookup fNeedShare = some ⟨ocNeedShare, odNeedShare, .func (PySem.W.fnOf "need_share" "need_share" (defArgs sNeedShare) (defBody sNeedShare) (defScope sNeedShare) .none kVNeedShare dcNeedShare pmNeedShare anNeedShare cdNeedShare ctNeedShare), slNeedShare⟩) (cNeedShare : PySem.W.codeIn K cdNeedShare "need_share" = true) (kNeedShare : PySem.W.keepIn K (.ref fNeedShare) = true)
    {odLeftTable anLeftTable : Option Addr} {slLeftTable : Array (Option Value)} {ocLeftTable kVLeftTable dcLeftTable pmLeftTable cdLeftTable ctLeftTable : Value} (aLeftTable : PySem.W.nsIn K mainGlobals "left_table" = some (some (.ref fLeftTable))) (lLeftTable : K.lookup fLeftTable = some ⟨ocLeftTable, odLeftTable, .func (PySem.W.fnOf "left_table" "left_table" (defArgs sLeftTable) (defBody sLeftTable) (defScope sLeftTable) .none kVLeftTable dcLeftTable pmLeftTable anLeftTable cdLeftTable ctLeftTable), slLeftTable⟩) (cLeftTable : PySem.W.codeIn K cdLeftTable "left_table" = true) (kLeftTable : PySem.W.keepIn K (.ref fLeftTable) = true)
    {odLaw anLaw : Option Addr} {slLaw : Array (Option Value)} {ocLaw kVLaw dcLaw pmLaw cdLaw ctLaw : Value} (aLaw : PySem.W.nsIn K mainGlobals "law" = some (some (.ref fLaw))) (lLaw : K.lookup fLaw = some ⟨ocLaw, odLaw, .func (PySem.W.fnOf "law" "law" (defArgs sLaw) (defBody sLaw) (defScope sLaw) .none kVLaw dcLaw pmLaw anLaw cdLaw ctLaw), slLaw⟩) (cLaw : PySem.W.codeIn K cdLaw "law" = true) (kLaw : PySem.W.keepIn K (.ref fLaw) = true)
    (z_isinstance : PySem.W.nsIn K mainGlobals "isinstance" = some none) (z_int : PySem.W.nsIn K mainGlobals "int" = some none) (z_tuple : PySem.W.nsIn K mainGlobals "tuple" = some none) (z_len : PySem.W.nsIn K mainGlobals "len" = some none) (z_abs : PySem.W.nsIn K mainGlobals "abs" = some none) (z_range : PySem.W.nsIn K mainGlobals "range" = some none) (z_list : PySem.W.nsIn K mainGlobals "list" = some none) (z_sorted : PySem.W.nsIn K mainGlobals "sorted" = some none) (z_zip : PySem.W.nsIn K mainGlobals "zip" = some none) (z_all : PySem.W.nsIn K mainGlobals "all" = some none) (z_dict : PySem.W.nsIn K mainGlobals "dict" = some none) (z_repr : PySem.W.nsIn K mainGlobals "repr" = some none) (z_enumerate : PySem.W.nsIn K mainGlobals "enumerate" = some none) (z_gcd : PySem.W.nsIn K mainGlobals "gcd" = some (some (.builtin "math.gcd")))
    {odN : Option Addr} {slN : Array (Option Value)} {t1N t2N : Tok} {nN : Nat} (aN : PySem.W.nsIn K mainGlobals "NOUGHT" = some (some (.ref fN))) (lN : K.lookup fN = some ⟨.type "tuple", odN, .seq #[.int 0 t1N, .int 1 t2N] nN, slN⟩)
    {tK8_MOST_PAIRS : Tok} (aK_MOST_PAIRS : PySem.W.nsIn K mainGlobals "MOST_PAIRS" = some (some (.int 8 tK8_MOST_PAIRS)))
    {CXe0 gXe0 : Addr} {odXe0 anXe0 : Option Addr} {slXe0 : Array (Option Value)} {ocXe0 kVXe0 dcXe0 pmXe0 cdXe0 ctXe0 : Value} (aXe0 : PySem.W.nsIn K mainGlobals "BadFraction" = some (some (.ref CXe0))) (iXe0 : PySem.W.excInitIn K CXe0 bmV "ValueError.__new__" = true) (oXe0 : PySem.W.excOver K CXe0 bmV = true) (sXe0 : PySem.W.findIn K (.ref CXe0) "__setattr__" = some (some (.builtin "object.__setattr__"))) (tXe0 : PySem.W.takerIn K CXe0 "given" = some none)
    (xXe0 : xfB K CXe0 = true) (nXe0 : PySem.W.findIn K (.ref CXe0) "given" = some none) (jXe0 : PySem.W.findIn K (.ref CXe0) "__init__" = some (some (.ref gXe0))) (vXe0 : PySem.W.typeIn K (.ref gXe0) = some (.type "function")) (qXe0 : PySem.W.keepIn K (.ref CXe0) = true) (yXe0 : PySem.W.typeIn K (.ref CXe0) = some (.type "type"))
    (lXe0 : K.lookup gXe0 = some ⟨ocXe0, odXe0, .func (PySem.W.fnOf "__init__" "BadFraction.__init__" (defArgs (inClass sBadFraction 0)) (defBody (inClass sBadFraction 0)) (defScope (inClass sBadFraction 0)) .none kVXe0 dcXe0 pmXe0 anXe0 cdXe0 ctXe0), slXe0⟩) (cXe0 : PySem.W.codeIn K cdXe0 "BadFraction.__init__" = true) (kXe0 : PySem.W.keepIn K (.ref gXe0) = true)
    {CXe1 gXe1 : Addr} {odXe1 anXe1 : Option Addr} {slXe1 : Array (Option Value)} {ocXe1 kVXe1 dcXe1 pmXe1 cdXe1 ctXe1 : Value} (aXe1 : PySem.W.nsIn K mainGlobals "BadShare" = some (some (.ref CXe1))) (iXe1 : PySem.W.excInitIn K CXe1 bmV "ValueError.__new__" = true) (oXe1 : PySem.W.excOver K CXe1 bmV = true) (sXe1 : PySem.W.findIn K (.ref CXe1) "__setattr__" = some (some (.builtin "object.__setattr__"))) (tXe1 : PySem.W.takerIn K CXe1 "given" = some none)
    (xXe1 : xfB K CXe1 = true) (nXe1 : PySem.W.findIn K (.ref CXe1) "given" = some none) (jXe1 : PySem.W.findIn K (.ref CXe1) "__init__" = some (some (.ref gXe1))) (vXe1 : PySem.W.typeIn K (.ref gXe1) = some (.type "function")) (qXe1 : PySem.W.keepIn K (.ref CXe1) = true) (yXe1 : PySem.W.typeIn K (.ref CXe1) = some (.type "type"))
    (lXe1 : K.lookup gXe1 = some ⟨ocXe1, odXe1, .func (PySem.W.fnOf "__init__" "BadShare.__init__" (defArgs (inClass sBadshare 0)) (defBody (inClass sBadshare 0)) (defScope (inClass sBadshare 0)) .none kVXe1 dcXe1 pmXe1 anXe1 cdXe1 ctXe1), slXe1⟩) (cXe1 : PySem.W.codeIn K cdXe1 "BadShare.__init__" = true) (kXe1 : PySem.W.keepIn K (.ref gXe1) = true)
    {CXe2 gXe2 : Addr} {odXe2 anXe2 : Option Addr} {slXe2 : Array (Option Value)} {ocXe2 kVXe2 dcXe2 pmXe2 cdXe2 ctXe2 : Value} (aXe2 : PySem.W.nsIn K mainGlobals "BadNumber" = some (some (.ref CXe2))) (iXe2 : PySem.W.excInitIn K CXe2 bmV "ValueError.__new__" = true) (oXe2 : PySem.W.excOver K CXe2 bmV = true) (sXe2 : PySem.W.findIn K (.ref CXe2) "__setattr__" = some (some (.builtin "object.__setattr__"))) (tXe2 : PySem.W.takerIn K CXe2 "given" = some none)
    (xXe2 : xfB K CXe2 = true) (nXe2 : PySem.W.findIn K (.ref CXe2) "given" = some none) (jXe2 : PySem.W.findIn K (.ref CXe2) "__init__" = some (some (.ref gXe2))) (vXe2 : PySem.W.typeIn K (.ref gXe2) = some (.type "function")) (qXe2 : PySem.W.keepIn K (.ref CXe2) = true) (yXe2 : PySem.W.typeIn K (.ref CXe2) = some (.type "type"))
    (lXe2 : K.lookup gXe2 = some ⟨ocXe2, odXe2, .func (PySem.W.fnOf "__init__" "BadNumber.__init__" (defArgs (inClass sBadnumber 0)) (defBody (inClass sBadnumber 0)) (defScope (inClass sBadnumber 0)) .none kVXe2 dcXe2 pmXe2 anXe2 cdXe2 ctXe2), slXe2⟩) (cXe2 : PySem.W.codeIn K cdXe2 "BadNumber.__init__" = true) (kXe2 : PySem.W.keepIn K (.ref gXe2) = true)
    {CXe3 gXe3 : Addr} {odXe3 anXe3 : Option Addr} {slXe3 : Array (Option Value)} {ocXe3 kVXe3 dcXe3 pmXe3 cdXe3 ctXe3 : Value} (aXe3 : PySem.W.nsIn K mainGlobals "BadWeight" = some (some (.ref CXe3))) (iXe3 : PySem.W.excInitIn K CXe3 bmV "ValueError.__new__" = true) (oXe3 : PySem.W.excOver K CXe3 bmV = true) (sXe3 : PySem.W.findIn K (.ref CXe3) "__setattr__" = some (some (.builtin "object.__setattr__"))) (tXe3 : PySem.W.takerIn K CXe3 "given" = some none)
    (xXe3 : xfB K CXe3 = true) (nXe3 : PySem.W.findIn K (.ref CXe3) "given" = some none) (jXe3 : PySem.W.findIn K (.ref CXe3) "__init__" = some (some (.ref gXe3))) (vXe3 : PySem.W.typeIn K (.ref gXe3) = some (.type "function")) (qXe3 : PySem.W.keepIn K (.ref CXe3) = true) (yXe3 : PySem.W.typeIn K (.ref CXe3) = some (.type "type"))
    (lXe3 : K.lookup gXe3 = some ⟨ocXe3, odXe3, .func (PySem.W.fnOf "__init__" "BadWeight.__init__" (defArgs (inClass sBadweight 0)) (defBody (inClass sBadweight 0)) (defScope (inClass sBadweight 0)) .none kVXe3 dcXe3 pmXe3 anXe3 cdXe3 ctXe3), slXe3⟩) (cXe3 : PySem.W.codeIn K cdXe3 "BadWeight.__init__" = true) (kXe3 : PySem.W.keepIn K (.ref gXe3) = true)
    {CXe4 gXe4 : Addr} {odXe4 anXe4 : Option Addr} {slXe4 : Array (Option Value)} {ocXe4 kVXe4 dcXe4 pmXe4 cdXe4 ctXe4 : Value} (aXe4 : PySem.W.nsIn K mainGlobals "BadOrder" = some (some (.ref CXe4))) (iXe4 : PySem.W.excInitIn K CXe4 bmV "ValueError.__new__" = true) (oXe4 : PySem.W.excOver K CXe4 bmV = true) (sXe4 : PySem.W.findIn K (.ref CXe4) "__setattr__" = some (some (.builtin "object.__setattr__"))) (tXe4 : PySem.W.takerIn K CXe4 "given" = some none)
    (xXe4 : xfB K CXe4 = true) (nXe4 : PySem.W.findIn K (.ref CXe4) "given" = some none) (jXe4 : PySem.W.findIn K (.ref CXe4) "__init__" = some (some (.ref gXe4))) (vXe4 : PySem.W.typeIn K (.ref gXe4) = some (.type "function")) (qXe4 : PySem.W.keepIn K (.ref CXe4) = true) (yXe4 : PySem.W.typeIn K (.ref CXe4) = some (.type "type"))
    (lXe4 : K.lookup gXe4 = some ⟨ocXe4, odXe4, .func (PySem.W.fnOf "__init__" "BadOrder.__init__" (defArgs (inClass sBadOrder 0)) (defBody (inClass sBadOrder 0)) (defScope (inClass sBadOrder 0)) .none kVXe4 dcXe4 pmXe4 anXe4 cdXe4 ctXe4), slXe4⟩) (cXe4 : PySem.W.codeIn K cdXe4 "BadOrder.__init__" = true) (kXe4 : PySem.W.keepIn K (.ref gXe4) = true)
    {CXe5 gXe5 : Addr} {odXe5 anXe5 : Option Addr} {slXe5 : Array (Option Value)} {ocXe5 kVXe5 dcXe5 pmXe5 cdXe5 ctXe5 : Value} (aXe5 : PySem.W.nsIn K mainGlobals "BadTable" = some (some (.ref CXe5))) (iXe5 : PySem.W.excInitIn K CXe5 bmV "ValueError.__new__" = true) (oXe5 : PySem.W.excOver K CXe5 bmV = true) (sXe5 : PySem.W.findIn K (.ref CXe5) "__setattr__" = some (some (.builtin "object.__setattr__"))) (tXe5 : PySem.W.takerIn K CXe5 "given" = some none)
    (xXe5 : xfB K CXe5 = true) (nXe5 : PySem.W.findIn K (.ref CXe5) "given" = some none) (jXe5 : PySem.W.findIn K (.ref CXe5) "__init__" = some (some (.ref gXe5))) (vXe5 : PySem.W.typeIn K (.ref gXe5) = some (.type "function")) (qXe5 : PySem.W.keepIn K (.ref CXe5) = true) (yXe5 : PySem.W.typeIn K (.ref CXe5) = some (.type "type"))
    (lXe5 : K.lookup gXe5 = some ⟨ocXe5, odXe5, .func (PySem.W.fnOf "__init__" "BadTable.__init__" (defArgs (inClass sBadTable 0)) (defBody (inClass sBadTable 0)) (defScope (inClass sBadTable 0)) .none kVXe5 dcXe5 pmXe5 anXe5 cdXe5 ctXe5), slXe5⟩) (cXe5 : PySem.W.codeIn K cdXe5 "BadTable.__init__" = true) (kXe5 : PySem.W.keepIn K (.ref gXe5) = true)
    {CXe6 gXe6 : Addr} {odXe6 anXe6 : Option Addr} {slXe6 : Array (Option Value)} {ocXe6 kVXe6 dcXe6 pmXe6 cdXe6 ctXe6 : Value} (aXe6 : PySem.W.nsIn K mainGlobals "BadCrossing" = some (some (.ref CXe6))) (iXe6 : PySem.W.excInitIn K CXe6 bmV "ValueError.__new__" = true) (oXe6 : PySem.W.excOver K CXe6 bmV = true) (sXe6 : PySem.W.findIn K (.ref CXe6) "__setattr__" = some (some (.builtin "object.__setattr__"))) (tXe6 : PySem.W.takerIn K CXe6 "given" = some none)
    (xXe6 : xfB K CXe6 = true) (nXe6 : PySem.W.findIn K (.ref CXe6) "given" = some none) (jXe6 : PySem.W.findIn K (.ref CXe6) "__init__" = some (some (.ref gXe6))) (vXe6 : PySem.W.typeIn K (.ref gXe6) = some (.type "function")) (qXe6 : PySem.W.keepIn K (.ref CXe6) = true) (yXe6 : PySem.W.typeIn K (.ref CXe6) = some (.type "type"))
    (lXe6 : K.lookup gXe6 = some ⟨ocXe6, odXe6, .func (PySem.W.fnOf "__init__" "BadCrossing.__init__" (defArgs (inClass sBadCrossing 0)) (defBody (inClass sBadCrossing 0)) (defScope (inClass sBadCrossing 0)) .none kVXe6 dcXe6 pmXe6 anXe6 cdXe6 ctXe6), slXe6⟩) (cXe6 : PySem.W.codeIn K cdXe6 "BadCrossing.__init__" = true) (kXe6 : PySem.W.keepIn K (.ref gXe6) = true)
    {CXe7 gXe7 : Addr} {odXe7 anXe7 : Option Addr} {slXe7 : Array (Option Value)} {ocXe7 kVXe7 dcXe7 pmXe7 cdXe7 ctXe7 : Value} (aXe7 : PySem.W.nsIn K mainGlobals "BadCosts" = some (some (.ref CXe7))) (iXe7 : PySem.W.excInitIn K CXe7 bmV "ValueError.__new__" = true) (oXe7 : PySem.W.excOver K CXe7 bmV = true) (sXe7 : PySem.W.findIn K (.ref CXe7) "__setattr__" = some (some (.builtin "object.__setattr__"))) (tXe7 : PySem.W.takerIn K CXe7 "given" = some none)
    (xXe7 : xfB K CXe7 = true) (nXe7 : PySem.W.findIn K (.ref CXe7) "given" = some none) (jXe7 : PySem.W.findIn K (.ref CXe7) "__init__" = some (some (.ref gXe7))) (vXe7 : PySem.W.typeIn K (.ref gXe7) = some (.type "function")) (qXe7 : PySem.W.keepIn K (.ref CXe7) = true) (yXe7 : PySem.W.typeIn K (.ref CXe7) = some (.type "type"))
    (lXe7 : K.lookup gXe7 = some ⟨ocXe7, odXe7, .func (PySem.W.fnOf "__init__" "BadCosts.__init__" (defArgs (inClass sBadCosts 0)) (defBody (inClass sBadCosts 0)) (defScope (inClass sBadCosts 0)) .none kVXe7 dcXe7 pmXe7 anXe7 cdXe7 ctXe7), slXe7⟩) (cXe7 : PySem.W.codeIn K cdXe7 "BadCosts.__init__" = true) (kXe7 : PySem.W.keepIn K (.ref gXe7) = true)
    {CXe8 gXe8 : Addr} {odXe8 anXe8 : Option Addr} {slXe8 : Array (Option Value)} {ocXe8 kVXe8 dcXe8 pmXe8 cdXe8 ctXe8 : Value} (aXe8 : PySem.W.nsIn K mainGlobals "BadDays" = some (some (.ref CXe8))) (iXe8 : PySem.W.excInitIn K CXe8 bmV "ValueError.__new__" = true) (oXe8 : PySem.W.excOver K CXe8 bmV = true) (sXe8 : PySem.W.findIn K (.ref CXe8) "__setattr__" = some (some (.builtin "object.__setattr__"))) (tXe8 : PySem.W.takerIn K CXe8 "given" = some none)
    (xXe8 : xfB K CXe8 = true) (nXe8 : PySem.W.findIn K (.ref CXe8) "given" = some none) (jXe8 : PySem.W.findIn K (.ref CXe8) "__init__" = some (some (.ref gXe8))) (vXe8 : PySem.W.typeIn K (.ref gXe8) = some (.type "function")) (qXe8 : PySem.W.keepIn K (.ref CXe8) = true) (yXe8 : PySem.W.typeIn K (.ref CXe8) = some (.type "type"))
    (lXe8 : K.lookup gXe8 = some ⟨ocXe8, odXe8, .func (PySem.W.fnOf "__init__" "BadDays.__init__" (defArgs (inClass sBadDays 0)) (defBody (inClass sBadDays 0)) (defScope (inClass sBadDays 0)) .none kVXe8 dcXe8 pmXe8 anXe8 cdXe8 ctXe8), slXe8⟩) (cXe8 : PySem.W.codeIn K cdXe8 "BadDays.__init__" = true) (kXe8 : PySem.W.keepIn K (.ref gXe8) = true)
    {CXe9 gXe9 : Addr} {odXe9 anXe9 : Option Addr} {slXe9 : Array (Option Value)} {ocXe9 kVXe9 dcXe9 pmXe9 cdXe9 ctXe9 : Value} (aXe9 : PySem.W.nsIn K mainGlobals "BadClaim" = some (some (.ref CXe9))) (iXe9 : PySem.W.excInitIn K CXe9 bmV "ValueError.__new__" = true) (oXe9 : PySem.W.excOver K CXe9 bmV = true) (sXe9 : PySem.W.findIn K (.ref CXe9) "__setattr__" = some (some (.builtin "object.__setattr__"))) (tXe9 : PySem.W.takerIn K CXe9 "given" = some none)
    (xXe9 : xfB K CXe9 = true) (nXe9 : PySem.W.findIn K (.ref CXe9) "given" = some none) (jXe9 : PySem.W.findIn K (.ref CXe9) "__init__" = some (some (.ref gXe9))) (vXe9 : PySem.W.typeIn K (.ref gXe9) = some (.type "function")) (qXe9 : PySem.W.keepIn K (.ref CXe9) = true) (yXe9 : PySem.W.typeIn K (.ref CXe9) = some (.type "type"))
    (lXe9 : K.lookup gXe9 = some ⟨ocXe9, odXe9, .func (PySem.W.fnOf "__init__" "BadClaim.__init__" (defArgs (inClass sBadClaim 0)) (defBody (inClass sBadClaim 0)) (defScope (inClass sBadClaim 0)) .none kVXe9 dcXe9 pmXe9 anXe9 cdXe9 ctXe9), slXe9⟩) (cXe9 : PySem.W.codeIn K cdXe9 "BadClaim.__init__" = true) (kXe9 : PySem.W.keepIn K (.ref gXe9) = true)
    {CXe10 gXe10 : Addr} {odXe10 anXe10 : Option Addr} {slXe10 : Array (Option Value)} {ocXe10 kVXe10 dcXe10 pmXe10 cdXe10 ctXe10 : Value} (aXe10 : PySem.W.nsIn K mainGlobals "BadFair" = some (some (.ref CXe10))) (iXe10 : PySem.W.excInitIn K CXe10 bmV "ValueError.__new__" = true) (oXe10 : PySem.W.excOver K CXe10 bmV = true) (sXe10 : PySem.W.findIn K (.ref CXe10) "__setattr__" = some (some (.builtin "object.__setattr__"))) (tXe10 : PySem.W.takerIn K CXe10 "given" = some none)
    (xXe10 : xfB K CXe10 = true) (nXe10 : PySem.W.findIn K (.ref CXe10) "given" = some none) (jXe10 : PySem.W.findIn K (.ref CXe10) "__init__" = some (some (.ref gXe10))) (vXe10 : PySem.W.typeIn K (.ref gXe10) = some (.type "function")) (qXe10 : PySem.W.keepIn K (.ref CXe10) = true) (yXe10 : PySem.W.typeIn K (.ref CXe10) = some (.type "type"))
    (lXe10 : K.lookup gXe10 = some ⟨ocXe10, odXe10, .func (PySem.W.fnOf "__init__" "BadFair.__init__" (defArgs (inClass sBadFair 0)) (defBody (inClass sBadFair 0)) (defScope (inClass sBadFair 0)) .none kVXe10 dcXe10 pmXe10 anXe10 cdXe10 ctXe10), slXe10⟩) (cXe10 : PySem.W.codeIn K cdXe10 "BadFair.__init__" = true) (kXe10 : PySem.W.keepIn K (.ref gXe10) = true)
    {CXe11 gXe11 : Addr} {odXe11 anXe11 : Option Addr} {slXe11 : Array (Option Value)} {ocXe11 kVXe11 dcXe11 pmXe11 cdXe11 ctXe11 : Value} (aXe11 : PySem.W.nsIn K mainGlobals "BadHedge" = some (some (.ref CXe11))) (iXe11 : PySem.W.excInitIn K CXe11 bmV "ValueError.__new__" = true) (oXe11 : PySem.W.excOver K CXe11 bmV = true) (sXe11 : PySem.W.findIn K (.ref CXe11) "__setattr__" = some (some (.builtin "object.__setattr__"))) (tXe11 : PySem.W.takerIn K CXe11 "given" = some none)
    (xXe11 : xfB K CXe11 = true) (nXe11 : PySem.W.findIn K (.ref CXe11) "given" = some none) (jXe11 : PySem.W.findIn K (.ref CXe11) "__init__" = some (some (.ref gXe11))) (vXe11 : PySem.W.typeIn K (.ref gXe11) = some (.type "function")) (qXe11 : PySem.W.keepIn K (.ref CXe11) = true) (yXe11 : PySem.W.typeIn K (.ref CXe11) = some (.type "type"))
    (lXe11 : K.lookup gXe11 = some ⟨ocXe11, odXe11, .func (PySem.W.fnOf "__init__" "BadHedge.__init__" (defArgs (inClass sBadHedge 0)) (defBody (inClass sBadHedge 0)) (defScope (inClass sBadHedge 0)) .none kVXe11 dcXe11 pmXe11 anXe11 cdXe11 ctXe11), slXe11⟩) (cXe11 : PySem.W.codeIn K cdXe11 "BadHedge.__init__" = true) (kXe11 : PySem.W.keepIn K (.ref gXe11) = true)
    {CXe12 gXe12 : Addr} {odXe12 anXe12 : Option Addr} {slXe12 : Array (Option Value)} {ocXe12 kVXe12 dcXe12 pmXe12 cdXe12 ctXe12 : Value} (aXe12 : PySem.W.nsIn K mainGlobals "BadLabel" = some (some (.ref CXe12))) (iXe12 : PySem.W.excInitIn K CXe12 bmV "ValueError.__new__" = true) (oXe12 : PySem.W.excOver K CXe12 bmV = true) (sXe12 : PySem.W.findIn K (.ref CXe12) "__setattr__" = some (some (.builtin "object.__setattr__"))) (tXe12 : PySem.W.takerIn K CXe12 "given" = some none)
    (xXe12 : xfB K CXe12 = true) (nXe12 : PySem.W.findIn K (.ref CXe12) "given" = some none) (jXe12 : PySem.W.findIn K (.ref CXe12) "__init__" = some (some (.ref gXe12))) (vXe12 : PySem.W.typeIn K (.ref gXe12) = some (.type "function")) (qXe12 : PySem.W.keepIn K (.ref CXe12) = true) (yXe12 : PySem.W.typeIn K (.ref CXe12) = some (.type "type"))
    (lXe12 : K.lookup gXe12 = some ⟨ocXe12, odXe12, .func (PySem.W.fnOf "__init__" "BadLabel.__init__" (defArgs (inClass sBadLabel 0)) (defBody (inClass sBadLabel 0)) (defScope (inClass sBadLabel 0)) .none kVXe12 dcXe12 pmXe12 anXe12 cdXe12 ctXe12), slXe12⟩) (cXe12 : PySem.W.codeIn K cdXe12 "BadLabel.__init__" = true) (kXe12 : PySem.W.keepIn K (.ref gXe12) = true)
    {CXe13 gXe13 : Addr} {odXe13 anXe13 : Option Addr} {slXe13 : Array (Option Value)} {ocXe13 kVXe13 dcXe13 pmXe13 cdXe13 ctXe13 : Value} (aXe13 : PySem.W.nsIn K mainGlobals "BadQuote" = some (some (.ref CXe13))) (iXe13 : PySem.W.excInitIn K CXe13 bmV "ValueError.__new__" = true) (oXe13 : PySem.W.excOver K CXe13 bmV = true) (sXe13 : PySem.W.findIn K (.ref CXe13) "__setattr__" = some (some (.builtin "object.__setattr__"))) (tXe13 : PySem.W.takerIn K CXe13 "given" = some none)
    (xXe13 : xfB K CXe13 = true) (nXe13 : PySem.W.findIn K (.ref CXe13) "given" = some none) (jXe13 : PySem.W.findIn K (.ref CXe13) "__init__" = some (some (.ref gXe13))) (vXe13 : PySem.W.typeIn K (.ref gXe13) = some (.type "function")) (qXe13 : PySem.W.keepIn K (.ref CXe13) = true) (yXe13 : PySem.W.typeIn K (.ref CXe13) = some (.type "type"))
    (lXe13 : K.lookup gXe13 = some ⟨ocXe13, odXe13, .func (PySem.W.fnOf "__init__" "BadQuote.__init__" (defArgs (inClass sBadQuote 0)) (defBody (inClass sBadQuote 0)) (defScope (inClass sBadQuote 0)) .none kVXe13 dcXe13 pmXe13 anXe13 cdXe13 ctXe13), slXe13⟩) (cXe13 : PySem.W.codeIn K cdXe13 "BadQuote.__init__" = true) (kXe13 : PySem.W.keepIn K (.ref gXe13) = true)
    {CXe14 gXe14 : Addr} {odXe14 anXe14 : Option Addr} {slXe14 : Array (Option Value)} {ocXe14 kVXe14 dcXe14 pmXe14 cdXe14 ctXe14 : Value} (aXe14 : PySem.W.nsIn K mainGlobals "BadPaper" = some (some (.ref CXe14))) (iXe14 : PySem.W.excInitIn K CXe14 bmV "ValueError.__new__" = true) (oXe14 : PySem.W.excOver K CXe14 bmV = true) (sXe14 : PySem.W.findIn K (.ref CXe14) "__setattr__" = some (some (.builtin "object.__setattr__"))) (tXe14 : PySem.W.takerIn K CXe14 "part" = some none)
    (xXe14 : xfB K CXe14 = true) (nXe14 : PySem.W.findIn K (.ref CXe14) "part" = some none) (jXe14 : PySem.W.findIn K (.ref CXe14) "__init__" = some (some (.ref gXe14))) (vXe14 : PySem.W.typeIn K (.ref gXe14) = some (.type "function")) (qXe14 : PySem.W.keepIn K (.ref CXe14) = true) (yXe14 : PySem.W.typeIn K (.ref CXe14) = some (.type "type"))
    (lXe14 : K.lookup gXe14 = some ⟨ocXe14, odXe14, .func (PySem.W.fnOf "__init__" "BadPaper.__init__" (defArgs (inClass sBadPaper 0)) (defBody (inClass sBadPaper 0)) (defScope (inClass sBadPaper 0)) .none kVXe14 dcXe14 pmXe14 anXe14 cdXe14 ctXe14), slXe14⟩) (cXe14 : PySem.W.codeIn K cdXe14 "BadPaper.__init__" = true) (kXe14 : PySem.W.keepIn K (.ref gXe14) = true)
    {CXe15 gXe15 : Addr} {odXe15 anXe15 : Option Addr} {slXe15 : Array (Option Value)} {ocXe15 kVXe15 dcXe15 pmXe15 cdXe15 ctXe15 : Value} (aXe15 : PySem.W.nsIn K mainGlobals "BadBook" = some (some (.ref CXe15))) (iXe15 : PySem.W.excInitIn K CXe15 bmV "ValueError.__new__" = true) (oXe15 : PySem.W.excOver K CXe15 bmV = true) (sXe15 : PySem.W.findIn K (.ref CXe15) "__setattr__" = some (some (.builtin "object.__setattr__"))) (tXe15 : PySem.W.takerIn K CXe15 "part" = some none)
    (xXe15 : xfB K CXe15 = true) (nXe15 : PySem.W.findIn K (.ref CXe15) "part" = some none) (jXe15 : PySem.W.findIn K (.ref CXe15) "__init__" = some (some (.ref gXe15))) (vXe15 : PySem.W.typeIn K (.ref gXe15) = some (.type "function")) (qXe15 : PySem.W.keepIn K (.ref CXe15) = true) (yXe15 : PySem.W.typeIn K (.ref CXe15) = some (.type "type"))
    (lXe15 : K.lookup gXe15 = some ⟨ocXe15, odXe15, .func (PySem.W.fnOf "__init__" "BadBook.__init__" (defArgs (inClass sBadBook 0)) (defBody (inClass sBadBook 0)) (defScope (inClass sBadBook 0)) .none kVXe15 dcXe15 pmXe15 anXe15 cdXe15 ctXe15), slXe15⟩) (cXe15 : PySem.W.codeIn K cdXe15 "BadBook.__init__" = true) (kXe15 : PySem.W.keepIn K (.ref gXe15) = true)
    {CXe16 gXe16 : Addr} {odXe16 anXe16 : Option Addr} {slXe16 : Array (Option Value)} {ocXe16 kVXe16 dcXe16 pmXe16 cdXe16 ctXe16 : Value} (aXe16 : PySem.W.nsIn K mainGlobals "NotWider" = some (some (.ref CXe16))) (iXe16 : PySem.W.excInitIn K CXe16 bmV "ValueError.__new__" = true) (oXe16 : PySem.W.excOver K CXe16 bmV = true) (sXe16 : PySem.W.findIn K (.ref CXe16) "__setattr__" = some (some (.builtin "object.__setattr__"))) (tXe16 : PySem.W.takerIn K CXe16 "paper" = some none)
    (xXe16 : xfB K CXe16 = true) (nXe16 : PySem.W.findIn K (.ref CXe16) "paper" = some none) (jXe16 : PySem.W.findIn K (.ref CXe16) "__init__" = some (some (.ref gXe16))) (vXe16 : PySem.W.typeIn K (.ref gXe16) = some (.type "function")) (qXe16 : PySem.W.keepIn K (.ref CXe16) = true) (yXe16 : PySem.W.typeIn K (.ref CXe16) = some (.type "type"))
    (lXe16 : K.lookup gXe16 = some ⟨ocXe16, odXe16, .func (PySem.W.fnOf "__init__" "NotWider.__init__" (defArgs (inClass sNotWider 0)) (defBody (inClass sNotWider 0)) (defScope (inClass sNotWider 0)) .none kVXe16 dcXe16 pmXe16 anXe16 cdXe16 ctXe16), slXe16⟩) (cXe16 : PySem.W.codeIn K cdXe16 "NotWider.__init__" = true) (kXe16 : PySem.W.keepIn K (.ref gXe16) = true)
    {CXe17 gXe17 : Addr} {odXe17 anXe17 : Option Addr} {slXe17 : Array (Option Value)} {ocXe17 kVXe17 dcXe17 pmXe17 cdXe17 ctXe17 : Value} (aXe17 : PySem.W.nsIn K mainGlobals "SureGain" = some (some (.ref CXe17))) (iXe17 : PySem.W.excInitIn K CXe17 bmV "ValueError.__new__" = true) (oXe17 : PySem.W.excOver K CXe17 bmV = true) (sXe17 : PySem.W.findIn K (.ref CXe17) "__setattr__" = some (some (.builtin "object.__setattr__"))) (tXe17 : PySem.W.takerIn K CXe17 "paper" = some none)
    (xXe17 : xfB K CXe17 = true) (nXe17 : PySem.W.findIn K (.ref CXe17) "paper" = some none) (jXe17 : PySem.W.findIn K (.ref CXe17) "__init__" = some (some (.ref gXe17))) (vXe17 : PySem.W.typeIn K (.ref gXe17) = some (.type "function")) (qXe17 : PySem.W.keepIn K (.ref CXe17) = true) (yXe17 : PySem.W.typeIn K (.ref CXe17) = some (.type "type"))
    (lXe17 : K.lookup gXe17 = some ⟨ocXe17, odXe17, .func (PySem.W.fnOf "__init__" "SureGain.__init__" (defArgs (inClass sSureGain 0)) (defBody (inClass sSureGain 0)) (defScope (inClass sSureGain 0)) .none kVXe17 dcXe17 pmXe17 anXe17 cdXe17 ctXe17), slXe17⟩) (cXe17 : PySem.W.codeIn K cdXe17 "SureGain.__init__" = true) (kXe17 : PySem.W.keepIn K (.ref gXe17) = true)
    {CXe18 gXe18 : Addr} {odXe18 anXe18 : Option Addr} {slXe18 : Array (Option Value)} {ocXe18 kVXe18 dcXe18 pmXe18 cdXe18 ctXe18 : Value} (aXe18 : PySem.W.nsIn K mainGlobals "BadTerm" = some (some (.ref CXe18))) (iXe18 : PySem.W.excInitIn K CXe18 bmV "ValueError.__new__" = true) (oXe18 : PySem.W.excOver K CXe18 bmV = true) (sXe18 : PySem.W.findIn K (.ref CXe18) "__setattr__" = some (some (.builtin "object.__setattr__"))) (tXe18 : PySem.W.takerIn K CXe18 "path" = some none)
    (xXe18 : xfB K CXe18 = true) (nXe18 : PySem.W.findIn K (.ref CXe18) "path" = some none) (jXe18 : PySem.W.findIn K (.ref CXe18) "__init__" = some (some (.ref gXe18))) (vXe18 : PySem.W.typeIn K (.ref gXe18) = some (.type "function")) (qXe18 : PySem.W.keepIn K (.ref CXe18) = true) (yXe18 : PySem.W.typeIn K (.ref CXe18) = some (.type "type"))
    (lXe18 : K.lookup gXe18 = some ⟨ocXe18, odXe18, .func (PySem.W.fnOf "__init__" "BadTerm.__init__" (defArgs (inClass sBadTerm 0)) (defBody (inClass sBadTerm 0)) (defScope (inClass sBadTerm 0)) .none kVXe18 dcXe18 pmXe18 anXe18 cdXe18 ctXe18), slXe18⟩) (cXe18 : PySem.W.codeIn K cdXe18 "BadTerm.__init__" = true) (kXe18 : PySem.W.keepIn K (.ref gXe18) = true)
    {CXe19 gXe19 : Addr} {odXe19 anXe19 : Option Addr} {slXe19 : Array (Option Value)} {ocXe19 kVXe19 dcXe19 pmXe19 cdXe19 ctXe19 : Value} (aXe19 : PySem.W.nsIn K mainGlobals "BadMix" = some (some (.ref CXe19))) (iXe19 : PySem.W.excInitIn K CXe19 bmV "ValueError.__new__" = true) (oXe19 : PySem.W.excOver K CXe19 bmV = true) (sXe19 : PySem.W.findIn K (.ref CXe19) "__setattr__" = some (some (.builtin "object.__setattr__"))) (tXe19 : PySem.W.takerIn K CXe19 "path" = some none)
    (xXe19 : xfB K CXe19 = true) (nXe19 : PySem.W.findIn K (.ref CXe19) "path" = some none) (jXe19 : PySem.W.findIn K (.ref CXe19) "__init__" = some (some (.ref gXe19))) (vXe19 : PySem.W.typeIn K (.ref gXe19) = some (.type "function")) (qXe19 : PySem.W.keepIn K (.ref CXe19) = true) (yXe19 : PySem.W.typeIn K (.ref CXe19) = some (.type "type"))
    (lXe19 : K.lookup gXe19 = some ⟨ocXe19, odXe19, .func (PySem.W.fnOf "__init__" "BadMix.__init__" (defArgs (inClass sBadMix 0)) (defBody (inClass sBadMix 0)) (defScope (inClass sBadMix 0)) .none kVXe19 dcXe19 pmXe19 anXe19 cdXe19 ctXe19), slXe19⟩) (cXe19 : PySem.W.codeIn K cdXe19 "BadMix.__init__" = true) (kXe19 : PySem.W.keepIn K (.ref gXe19) = true)
    {CXe20 gXe20 : Addr} {odXe20 anXe20 : Option Addr} {slXe20 : Array (Option Value)} {ocXe20 kVXe20 dcXe20 pmXe20 cdXe20 ctXe20 : Value} (aXe20 : PySem.W.nsIn K mainGlobals "BadText" = some (some (.ref CXe20))) (iXe20 : PySem.W.excInitIn K CXe20 bmV "ValueError.__new__" = true) (oXe20 : PySem.W.excOver K CXe20 bmV = true) (sXe20 : PySem.W.findIn K (.ref CXe20) "__setattr__" = some (some (.builtin "object.__setattr__"))) (tXe20 : PySem.W.takerIn K CXe20 "line" = some none)
    (xXe20 : xfB K CXe20 = true) (nXe20 : PySem.W.findIn K (.ref CXe20) "line" = some none) (jXe20 : PySem.W.findIn K (.ref CXe20) "__init__" = some (some (.ref gXe20))) (vXe20 : PySem.W.typeIn K (.ref gXe20) = some (.type "function")) (qXe20 : PySem.W.keepIn K (.ref CXe20) = true) (yXe20 : PySem.W.typeIn K (.ref CXe20) = some (.type "type"))
    (lXe20 : K.lookup gXe20 = some ⟨ocXe20, odXe20, .func (PySem.W.fnOf "__init__" "BadText.__init__" (defArgs (inClass sBadText 0)) (defBody (inClass sBadText 0)) (defScope (inClass sBadText 0)) .none kVXe20 dcXe20 pmXe20 anXe20 cdXe20 ctXe20), slXe20⟩) (cXe20 : PySem.W.codeIn K cdXe20 "BadText.__init__" = true) (kXe20 : PySem.W.keepIn K (.ref gXe20) = true)
    {CXe21 gXe21 : Addr} {odXe21 anXe21 : Option Addr} {slXe21 : Array (Option Value)} {ocXe21 kVXe21 dcXe21 pmXe21 cdXe21 ctXe21 : Value} (aXe21 : PySem.W.nsIn K mainGlobals "TooMany" = some (some (.ref CXe21))) (iXe21 : PySem.W.excInitIn K CXe21 bmO "OverflowError.__new__" = true) (oXe21 : PySem.W.excOver K CXe21 bmO = true) (sXe21 : PySem.W.findIn K (.ref CXe21) "__setattr__" = some (some (.builtin "object.__setattr__"))) (tXe21 : PySem.W.takerIn K CXe21 "most" = some none)
    (xXe21 : xfB K CXe21 = true) (nXe21 : PySem.W.findIn K (.ref CXe21) "most" = some none) (jXe21 : PySem.W.findIn K (.ref CXe21) "__init__" = some (some (.ref gXe21))) (vXe21 : PySem.W.typeIn K (.ref gXe21) = some (.type "function")) (qXe21 : PySem.W.keepIn K (.ref CXe21) = true) (yXe21 : PySem.W.typeIn K (.ref CXe21) = some (.type "type"))
    (lXe21 : K.lookup gXe21 = some ⟨ocXe21, odXe21, .func (PySem.W.fnOf "__init__" "TooMany.__init__" (defArgs (inClass sToomany 0)) (defBody (inClass sToomany 0)) (defScope (inClass sToomany 0)) .none kVXe21 dcXe21 pmXe21 anXe21 cdXe21 ctXe21), slXe21⟩) (cXe21 : PySem.W.codeIn K cdXe21 "TooMany.__init__" = true) (kXe21 : PySem.W.keepIn K (.ref gXe21) = true)
    {CXe22 gXe22 : Addr} {odXe22 anXe22 : Option Addr} {slXe22 : Array (Option Value)} {ocXe22 kVXe22 dcXe22 pmXe22 cdXe22 ctXe22 : Value} (aXe22 : PySem.W.nsIn K mainGlobals "NothingLeft" = some (some (.ref CXe22))) (iXe22 : PySem.W.excInitIn K CXe22 bmR "RuntimeError.__new__" = true) (oXe22 : PySem.W.excOver K CXe22 bmR = true) (sXe22 : PySem.W.findIn K (.ref CXe22) "__setattr__" = some (some (.builtin "object.__setattr__"))) (tXe22 : PySem.W.takerIn K CXe22 "many" = some none)
    (xXe22 : xfB K CXe22 = true) (nXe22 : PySem.W.findIn K (.ref CXe22) "many" = some none) (jXe22 : PySem.W.findIn K (.ref CXe22) "__init__" = some (some (.ref gXe22))) (vXe22 : PySem.W.typeIn K (.ref gXe22) = some (.type "function")) (qXe22 : PySem.W.keepIn K (.ref CXe22) = true) (yXe22 : PySem.W.typeIn K (.ref CXe22) = some (.type "type"))
    (lXe22 : K.lookup gXe22 = some ⟨ocXe22, odXe22, .func (PySem.W.fnOf "__init__" "NothingLeft.__init__" (defArgs (inClass sNothingLeft 0)) (defBody (inClass sNothingLeft 0)) (defScope (inClass sNothingLeft 0)) .none kVXe22 dcXe22 pmXe22 anXe22 cdXe22 ctXe22), slXe22⟩) (cXe22 : PySem.W.codeIn K cdXe22 "NothingLeft.__init__" = true) (kXe22 : PySem.W.keepIn K (.ref gXe22) = true)
    {CXe23 gXe23 : Addr} {odXe23 anXe23 : Option Addr} {slXe23 : Array (Option Value)} {ocXe23 kVXe23 dcXe23 pmXe23 cdXe23 ctXe23 : Value} (aXe23 : PySem.W.nsIn K mainGlobals "Missing" = some (some (.ref CXe23))) (iXe23 : PySem.W.excInitIn K CXe23 bmK "LookupError.__new__" = true) (oXe23 : PySem.W.excOver K CXe23 bmK = true) (sXe23 : PySem.W.findIn K (.ref CXe23) "__setattr__" = some (some (.builtin "object.__setattr__"))) (tXe23 : PySem.W.takerIn K CXe23 "given" = some none)
    (xXe23 : xfB K CXe23 = true) (nXe23 : PySem.W.findIn K (.ref CXe23) "given" = some none) (jXe23 : PySem.W.findIn K (.ref CXe23) "__init__" = some (some (.ref gXe23))) (vXe23 : PySem.W.typeIn K (.ref gXe23) = some (.type "function")) (qXe23 : PySem.W.keepIn K (.ref CXe23) = true) (yXe23 : PySem.W.typeIn K (.ref CXe23) = some (.type "type"))
    (lXe23 : K.lookup gXe23 = some ⟨ocXe23, odXe23, .func (PySem.W.fnOf "__init__" "Missing.__init__" (defArgs (inClass sMissing 0)) (defBody (inClass sMissing 0)) (defScope (inClass sMissing 0)) .none kVXe23 dcXe23 pmXe23 anXe23 cdXe23 ctXe23), slXe23⟩) (cXe23 : PySem.W.codeIn K cdXe23 "Missing.__init__" = true) (kXe23 : PySem.W.keepIn K (.ref gXe23) = true)
    {CS : Addr} (aSt : PySem.W.nsIn K mainGlobals "StepError" = some (some (.ref CS))) (eSt : PySem.W.excIn K CS bmV "ValueError.__new__" = true) (kSt : PySem.W.keepIn K (.ref CS) = true) (tkW : PySem.W.takerIn K CXe20 "word" = some none) (noW : PySem.W.findIn K (.ref CXe20) "word" = some none) (hErr : errB K [CXe0, CXe1, CXe2, CXe3, CXe4, CXe5, CXe6, CXe7, CXe8, CXe9, CXe10, CXe11, CXe12, CXe13, CXe14, CXe15, CXe16, CXe17, CXe18, CXe19, CXe20, CXe21, CXe22, CXe23, CS] = true) (z_ValueError : PySem.W.nsIn K mainGlobals "ValueError" = some none) (z_OverflowError : PySem.W.nsIn K mainGlobals "OverflowError" = some none) (z_RuntimeError : PySem.W.nsIn K mainGlobals "RuntimeError" = some none) (z_KeyError : PySem.W.nsIn K mainGlobals "KeyError" = some none) :
    ∃ fd : FuncData, (∀ (s : Shared) (v : Value), BindsTo s fd ⟨[v], []⟩ [("script", v)]) ∧ ∀ base : Heap, K.In base → base.Ns mainGlobals mg → FnG l.prog w K mg base CX0 11 fa fd ["script"] (spLaw38 K) := by
  have e := hfa.symm.trans (PySem.W.mg_of X G aLaw)
  cases e
  have T : Bt mg := ⟨PySem.W.mg_of X G z_gcd, PySem.W.mg_none_of X G z_isinstance, PySem.W.mg_none_of X G z_int, PySem.W.mg_none_of X G z_tuple, PySem.W.mg_none_of X G z_len, PySem.W.mg_none_of X G z_abs, PySem.W.mg_none_of X G z_range, PySem.W.mg_none_of X G z_list, PySem.W.mg_none_of X G z_sorted, PySem.W.mg_none_of X G z_zip, PySem.W.mg_none_of X G z_all, PySem.W.mg_none_of X G z_dict⟩
  have gN := PySem.W.mg_of X G aN
  have hN : ∀ H, FT K H fN (0, 1) := fun H => .inr ⟨_, _, _, lN, rfl, rfl, (by show 2 ≤ sizeLine; decide), .cons ⟨t1N, rfl⟩ (.cons ⟨t2N, rfl⟩ .nil)⟩
  have gK_MOST_PAIRS := PySem.W.mg_of X G aK_MOST_PAIRS
  have FXe0 := fun_mk (st := inClass sBadFraction 0) lXe0 cXe0 kXe0
  have ZXe0 : Xc K mg "BadFraction" "given"  CXe0 gXe0 bmV "ValueError.__new__" (inClass sBadFraction 0) "BadFraction.__init__" _ := ⟨⟨PySem.W.mg_of X G aXe0, iXe0, oXe0, sXe0, tXe0, xfB_ok xXe0, nXe0, jXe0, vXe0, qXe0, yXe0⟩, FXe0, FXe0.binds (ps := ["self", "given"]) fun _ _ _ _ _ _ us hl => match us, hl with | [_, _], _ => rfl⟩
  have FXe1 := fun_mk (st := inClass sBadshare 0) lXe1 cXe1 kXe1
  have ZXe1 : Xc K mg "BadShare" "given"  CXe1 gXe1 bmV "ValueError.__new__" (inClass sBadshare 0) "BadShare.__init__" _ := ⟨⟨PySem.W.mg_of X G aXe1, iXe1, oXe1, sXe1, tXe1, xfB_ok xXe1, nXe1, jXe1, vXe1, qXe1, yXe1⟩, FXe1, FXe1.binds (ps := ["self", "given"]) fun _ _ _ _ _ _ us hl => match us, hl with | [_, _], _ => rfl⟩
  have FXe2 := fun_mk (st := inClass sBadnumber 0) lXe2 cXe2 kXe2
  have ZXe2 : Xc K mg "BadNumber" "given"  CXe2 gXe2 bmV "ValueError.__new__" (inClass sBadnumber 0) "BadNumber.__init__" _ := ⟨⟨PySem.W.mg_of X G aXe2, iXe2, oXe2, sXe2, tXe2, xfB_ok xXe2, nXe2, jXe2, vXe2, qXe2, yXe2⟩, FXe2, FXe2.binds (ps := ["self", "given"]) fun _ _ _ _ _ _ us hl => match us, hl with | [_, _], _ => rfl⟩
  have FXe3 := fun_mk (st := inClass sBadweight 0) lXe3 cXe3 kXe3
  have ZXe3 : Xc K mg "BadWeight" "given"  CXe3 gXe3 bmV "ValueError.__new__" (inClass sBadweight 0) "BadWeight.__init__" _ := ⟨⟨PySem.W.mg_of X G aXe3, iXe3, oXe3, sXe3, tXe3, xfB_ok xXe3, nXe3, jXe3, vXe3, qXe3, yXe3⟩, FXe3, FXe3.binds (ps := ["self", "given"]) fun _ _ _ _ _ _ us hl => match us, hl with | [_, _], _ => rfl⟩
  have FXe4 := fun_mk (st := inClass sBadOrder 0) lXe4 cXe4 kXe4
  have ZXe4 : Xc K mg "BadOrder" "given"  CXe4 gXe4 bmV "ValueError.__new__" (inClass sBadOrder 0) "BadOrder.__init__" _ := ⟨⟨PySem.W.mg_of X G aXe4, iXe4, oXe4, sXe4, tXe4, xfB_ok xXe4, nXe4, jXe4, vXe4, qXe4, yXe4⟩, FXe4, FXe4.binds (ps := ["self", "given"]) fun _ _ _ _ _ _ us hl => match us, hl with | [_, _], _ => rfl⟩
  have FXe5 := fun_mk (st := inClass sBadTable 0) lXe5 cXe5 kXe5
  have ZXe5 : Xc K mg "BadTable" "given"  CXe5 gXe5 bmV "ValueError.__new__" (inClass sBadTable 0) "BadTable.__init__" _ := ⟨⟨PySem.W.mg_of X G aXe5, iXe5, oXe5, sXe5, tXe5, xfB_ok xXe5, nXe5, jXe5, vXe5, qXe5, yXe5⟩, FXe5, FXe5.binds (ps := ["self", "given"]) fun _ _ _ _ _ _ us hl => match us, hl with | [_, _], _ => rfl⟩
  have FXe6 := fun_mk (st := inClass sBadCrossing 0) lXe6 cXe6 kXe6
  have ZXe6 : Xc K mg "BadCrossing" "given"  CXe6 gXe6 bmV "ValueError.__new__" (inClass sBadCrossing 0) "BadCrossing.__init__" _ := ⟨⟨PySem.W.mg_of X G aXe6, iXe6, oXe6, sXe6, tXe6, xfB_ok xXe6, nXe6, jXe6, vXe6, qXe6, yXe6⟩, FXe6, FXe6.binds (ps := ["self", "given"]) fun _ _ _ _ _ _ us hl => match us, hl with | [_, _], _ => rfl⟩
  have FXe7 := fun_mk (st := inClass sBadCosts 0) lXe7 cXe7 kXe7
  have ZXe7 : Xc K mg "BadCosts" "given"  CXe7 gXe7 bmV "ValueError.__new__" (inClass sBadCosts 0) "BadCosts.__init__" _ := ⟨⟨PySem.W.mg_of X G aXe7, iXe7, oXe7, sXe7, tXe7, xfB_ok xXe7, nXe7, jXe7, vXe7, qXe7, yXe7⟩, FXe7, FXe7.binds (ps := ["self", "given"]) fun _ _ _ _ _ _ us hl => match us, hl with | [_, _], _ => rfl⟩
  have FXe8 := fun_mk (st := inClass sBadDays 0) lXe8 cXe8 kXe8
  have ZXe8 : Xc K mg "BadDays" "given"  CXe8 gXe8 bmV "ValueError.__new__" (inClass sBadDays 0) "BadDays.__init__" _ := ⟨⟨PySem.W.mg_of X G aXe8, iXe8, oXe8, sXe8, tXe8, xfB_ok xXe8, nXe8, jXe8, vXe8, qXe8, yXe8⟩, FXe8, FXe8.binds (ps := ["self", "given"]) fun _ _ _ _ _ _ us hl => match us, hl with | [_, _], _ => rfl⟩
  have FXe9 := fun_mk (st := inClass sBadClaim 0) lXe9 cXe9 kXe9
  have ZXe9 : Xc K mg "BadClaim" "given"  CXe9 gXe9 bmV "ValueError.__new__" (inClass sBadClaim 0) "BadClaim.__init__" _ := ⟨⟨PySem.W.mg_of X G aXe9, iXe9, oXe9, sXe9, tXe9, xfB_ok xXe9, nXe9, jXe9, vXe9, qXe9, yXe9⟩, FXe9, FXe9.binds (ps := ["self", "given"]) fun _ _ _ _ _ _ us hl => match us, hl with | [_, _], _ => rfl⟩
  have FXe10 := fun_mk (st := inClass sBadFair 0) lXe10 cXe10 kXe10
  have ZXe10 : Xc K mg "BadFair" "given"  CXe10 gXe10 bmV "ValueError.__new__" (inClass sBadFair 0) "BadFair.__init__" _ := ⟨⟨PySem.W.mg_of X G aXe10, iXe10, oXe10, sXe10, tXe10, xfB_ok xXe10, nXe10, jXe10, vXe10, qXe10, yXe10⟩, FXe10, FXe10.binds (ps := ["self", "given"]) fun _ _ _ _ _ _ us hl => match us, hl with | [_, _], _ => rfl⟩
  have FXe11 := fun_mk (st := inClass sBadHedge 0) lXe11 cXe11 kXe11
  have ZXe11 : Xc K mg "BadHedge" "given"  CXe11 gXe11 bmV "ValueError.__new__" (inClass sBadHedge 0) "BadHedge.__init__" _ := ⟨⟨PySem.W.mg_of X G aXe11, iXe11, oXe11, sXe11, tXe11, xfB_ok xXe11, nXe11, jXe11, vXe11, qXe11, yXe11⟩, FXe11, FXe11.binds (ps := ["self", "given"]) fun _ _ _ _ _ _ us hl => match us, hl with | [_, _], _ => rfl⟩
  have FXe12 := fun_mk (st := inClass sBadLabel 0) lXe12 cXe12 kXe12
  have ZXe12 : Xc K mg "BadLabel" "given"  CXe12 gXe12 bmV "ValueError.__new__" (inClass sBadLabel 0) "BadLabel.__init__" _ := ⟨⟨PySem.W.mg_of X G aXe12, iXe12, oXe12, sXe12, tXe12, xfB_ok xXe12, nXe12, jXe12, vXe12, qXe12, yXe12⟩, FXe12, FXe12.binds (ps := ["self", "given"]) fun _ _ _ _ _ _ us hl => match us, hl with | [_, _], _ => rfl⟩
  have FXe13 := fun_mk (st := inClass sBadQuote 0) lXe13 cXe13 kXe13
  have ZXe13 : Xc K mg "BadQuote" "given"  CXe13 gXe13 bmV "ValueError.__new__" (inClass sBadQuote 0) "BadQuote.__init__" _ := ⟨⟨PySem.W.mg_of X G aXe13, iXe13, oXe13, sXe13, tXe13, xfB_ok xXe13, nXe13, jXe13, vXe13, qXe13, yXe13⟩, FXe13, FXe13.binds (ps := ["self", "given"]) fun _ _ _ _ _ _ us hl => match us, hl with | [_, _], _ => rfl⟩
  have FXe14 := fun_mk (st := inClass sBadPaper 0) lXe14 cXe14 kXe14
  have ZXe14 : Xc K mg "BadPaper" "part"  CXe14 gXe14 bmV "ValueError.__new__" (inClass sBadPaper 0) "BadPaper.__init__" _ := ⟨⟨PySem.W.mg_of X G aXe14, iXe14, oXe14, sXe14, tXe14, xfB_ok xXe14, nXe14, jXe14, vXe14, qXe14, yXe14⟩, FXe14, FXe14.binds (ps := ["self", "part"]) fun _ _ _ _ _ _ us hl => match us, hl with | [_, _], _ => rfl⟩
  have FXe15 := fun_mk (st := inClass sBadBook 0) lXe15 cXe15 kXe15
  have ZXe15 : Xc K mg "BadBook" "part"  CXe15 gXe15 bmV "ValueError.__new__" (inClass sBadBook 0) "BadBook.__init__" _ := ⟨⟨PySem.W.mg_of X G aXe15, iXe15, oXe15, sXe15, tXe15, xfB_ok xXe15, nXe15, jXe15, vXe15, qXe15, yXe15⟩, FXe15, FXe15.binds (ps := ["self", "part"]) fun _ _ _ _ _ _ us hl => match us, hl with | [_, _], _ => rfl⟩
  have FXe16 := fun_mk (st := inClass sNotWider 0) lXe16 cXe16 kXe16
  have ZXe16 : Xc K mg "NotWider" "paper"  CXe16 gXe16 bmV "ValueError.__new__" (inClass sNotWider 0) "NotWider.__init__" _ := ⟨⟨PySem.W.mg_of X G aXe16, iXe16, oXe16, sXe16, tXe16, xfB_ok xXe16, nXe16, jXe16, vXe16, qXe16, yXe16⟩, FXe16, FXe16.binds (ps := ["self", "paper"]) fun _ _ _ _ _ _ us hl => match us, hl with | [_, _], _ => rfl⟩
  have FXe17 := fun_mk (st := inClass sSureGain 0) lXe17 cXe17 kXe17
  have ZXe17 : Xc K mg "SureGain" "paper"  CXe17 gXe17 bmV "ValueError.__new__" (inClass sSureGain 0) "SureGain.__init__" _ := ⟨⟨PySem.W.mg_of X G aXe17, iXe17, oXe17, sXe17, tXe17, xfB_ok xXe17, nXe17, jXe17, vXe17, qXe17, yXe17⟩, FXe17, FXe17.binds (ps := ["self", "paper"]) fun _ _ _ _ _ _ us hl => match us, hl with | [_, _], _ => rfl⟩
  have FXe18 := fun_mk (st := inClass sBadTerm 0) lXe18 cXe18 kXe18
  have ZXe18 : Xc K mg "BadTerm" "path"  CXe18 gXe18 bmV "ValueError.__new__" (inClass sBadTerm 0) "BadTerm.__init__" _ := ⟨⟨PySem.W.mg_of X G aXe18, iXe18, oXe18, sXe18, tXe18, xfB_ok xXe18, nXe18, jXe18, vXe18, qXe18, yXe18⟩, FXe18, FXe18.binds (ps := ["self", "path"]) fun _ _ _ _ _ _ us hl => match us, hl with | [_, _], _ => rfl⟩
  have FXe19 := fun_mk (st := inClass sBadMix 0) lXe19 cXe19 kXe19
  have ZXe19 : Xc K mg "BadMix" "path"  CXe19 gXe19 bmV "ValueError.__new__" (inClass sBadMix 0) "BadMix.__init__" _ := ⟨⟨PySem.W.mg_of X G aXe19, iXe19, oXe19, sXe19, tXe19, xfB_ok xXe19, nXe19, jXe19, vXe19, qXe19, yXe19⟩, FXe19, FXe19.binds (ps := ["self", "path"]) fun _ _ _ _ _ _ us hl => match us, hl with | [_, _], _ => rfl⟩
  have FXe20 := fun_mk (st := inClass sBadText 0) lXe20 cXe20 kXe20
  have ZXe20 : Xc2 K mg "BadText" "line" "word" CXe20 gXe20 bmV "ValueError.__new__" (inClass sBadText 0) "BadText.__init__" _ := ⟨⟨PySem.W.mg_of X G aXe20, iXe20, oXe20, sXe20, tXe20, xfB_ok xXe20, nXe20, jXe20, vXe20, qXe20, yXe20⟩, FXe20, FXe20.binds (ps := ["self", "line", "word"]) fun _ _ _ _ _ _ us hl => match us, hl with | [_, _, _], _ => rfl, tkW, noW⟩
  have FXe21 := fun_mk (st := inClass sToomany 0) lXe21 cXe21 kXe21
  have ZXe21 : Xc K mg "TooMany" "most"  CXe21 gXe21 bmO "OverflowError.__new__" (inClass sToomany 0) "TooMany.__init__" _ := ⟨⟨PySem.W.mg_of X G aXe21, iXe21, oXe21, sXe21, tXe21, xfB_ok xXe21, nXe21, jXe21, vXe21, qXe21, yXe21⟩, FXe21, FXe21.binds (ps := ["self", "most"]) fun _ _ _ _ _ _ us hl => match us, hl with | [_, _], _ => rfl⟩
  have FXe22 := fun_mk (st := inClass sNothingLeft 0) lXe22 cXe22 kXe22
  have ZXe22 : Xc K mg "NothingLeft" "many"  CXe22 gXe22 bmR "RuntimeError.__new__" (inClass sNothingLeft 0) "NothingLeft.__init__" _ := ⟨⟨PySem.W.mg_of X G aXe22, iXe22, oXe22, sXe22, tXe22, xfB_ok xXe22, nXe22, jXe22, vXe22, qXe22, yXe22⟩, FXe22, FXe22.binds (ps := ["self", "many"]) fun _ _ _ _ _ _ us hl => match us, hl with | [_, _], _ => rfl⟩
  have FXe23 := fun_mk (st := inClass sMissing 0) lXe23 cXe23 kXe23
  have ZXe23 : Xc K mg "Missing" "given"  CXe23 gXe23 bmK "LookupError.__new__" (inClass sMissing 0) "Missing.__init__" _ := ⟨⟨PySem.W.mg_of X G aXe23, iXe23, oXe23, sXe23, tXe23, xfB_ok xXe23, nXe23, jXe23, vXe23, qXe23, yXe23⟩, FXe23, FXe23.binds (ps := ["self", "given"]) fun _ _ _ _ _ _ us hl => match us, hl with | [_, _], _ => rfl⟩
  have EO : ErrOk K mg (axL [CXe0, CXe1, CXe2, CXe3, CXe4, CXe5, CXe6, CXe7, CXe8, CXe9, CXe10, CXe11, CXe12, CXe13, CXe14, CXe15, CXe16, CXe17, CXe18, CXe19, CXe20, CXe21, CXe22, CXe23, CS]) := errOk_of hErr ⟨_, _, ZXe0⟩ ⟨_, _, ZXe1⟩ ⟨_, _, ZXe2⟩ ⟨_, _, ZXe3⟩ ⟨_, _, ZXe4⟩ ⟨_, _, ZXe5⟩ ⟨_, _, ZXe6⟩ ⟨_, _, ZXe7⟩ ⟨_, _, ZXe8⟩ ⟨_, _, ZXe9⟩ ⟨_, _, ZXe10⟩ ⟨_, _, ZXe11⟩ ⟨_, _, ZXe12⟩ ⟨_, _, ZXe13⟩ ⟨_, _, ZXe14⟩ ⟨_, _, ZXe15⟩ ⟨_, _, ZXe16⟩ ⟨_, _, ZXe17⟩ ⟨_, _, ZXe18⟩ ⟨_, _, ZXe19⟩ ⟨_, _, ZXe20⟩ ⟨_, _, ZXe21⟩ ⟨_, _, ZXe22⟩ ⟨_, _, ZXe23⟩ ⟨PySem.W.mg_of X G aSt, eSt, kSt⟩ (PySem.W.mg_none_of X G z_ValueError) (PySem.W.mg_none_of X G z_OverflowError) (PySem.W.mg_none_of X G z_RuntimeError) (PySem.W.mg_none_of X G z_KeyError)
  have FLawAbove := fun_mk (st := sLawAbove) lLawAbove cLawAbove kLawAbove
  have DLawAbove : Df K mg "_law_above" sLawAbove ["error"] fLawAbove _ := ⟨FLawAbove, FLawAbove.binds (ps := ["error"]) fun _ _ _ _ _ _ us hl => match us, hl with | [_], _ => rfl, PySem.W.mg_of X G aLawAbove⟩
  have FLawSorts := fun_mk (st := sLawSorts) lLawSorts cLawSorts kLawSorts
  have DLawSorts : Df K mg "_law_sorts" sLawSorts ["error"] fLawSorts _ := ⟨FLawSorts, FLawSorts.binds (ps := ["error"]) fun _ _ _ _ _ _ us hl => match us, hl with | [_], _ => rfl, PySem.W.mg_of X G aLawSorts⟩
  have FLawValues := fun_mk (st := sLawValues) lLawValues cLawValues kLawValues
  have DLawValues : Df K mg "_law_values" sLawValues ["some"] fLawValues _ := ⟨FLawValues, FLawValues.binds (ps := ["some"]) fun _ _ _ _ _ _ us hl => match us, hl with | [_], _ => rfl, PySem.W.mg_of X G aLawValues⟩
  have FLawGivenOnes := fun_mk (st := sLawGivenOnes) lLawGivenOnes cLawGivenOnes kLawGivenOnes
  have DLawGivenOnes : Df K mg "_law_given_ones" sLawGivenOnes ["thing"] fLawGivenOnes _ := ⟨FLawGivenOnes, FLawGivenOnes.binds (ps := ["thing"]) fun _ _ _ _ _ _ us hl => match us, hl with | [_], _ => rfl, PySem.W.mg_of X G aLawGivenOnes⟩
  have FLawRight := fun_mk (st := sLawRight) lLawRight cLawRight kLawRight
  have DLawRight : Df K mg "_law_right" sLawRight ["thing"] fLawRight _ := ⟨FLawRight, FLawRight.binds (ps := ["thing"]) fun _ _ _ _ _ _ us hl => match us, hl with | [_], _ => rfl, PySem.W.mg_of X G aLawRight⟩
  have FDraw := fun_mk (st := sDraw) lDraw cDraw kDraw
  have DDraw : Df K mg "_law_draw" sDraw ["state", "many"] fDraw _ := ⟨FDraw, FDraw.binds (ps := ["state", "many"]) fun _ _ _ _ _ _ us hl => match us, hl with | [_, _], _ => rfl, PySem.W.mg_of X G aDraw⟩
  have FMixed := fun_mk (st := sMixed) lMixed cMixed kMixed
  have DMixed : Df K mg "_law_mixed" sMixed ["cell", "k"] fMixed _ := ⟨FMixed, FMixed.binds (ps := ["cell", "k"]) fun _ _ _ _ _ _ us hl => match us, hl with | [_, _], _ => rfl, PySem.W.mg_of X G aMixed⟩
  have FBegin := fun_mk (st := sBegin) lBegin cBegin kBegin
  have DBegin : Df K mg "_law_begin" sBegin ["script"] fBegin _ := ⟨FBegin, FBegin.binds (ps := ["script"]) fun _ _ _ _ _ _ us hl => match us, hl with | [_], _ => rfl, PySem.W.mg_of X G aBegin⟩
  have FLowered := fun_mk (st := sLowered) lLowered cLowered kLowered
  have DLowered : Df K mg "lowered" sLowered ["top", "bottom"] fLowered _ := ⟨FLowered, FLowered.binds (ps := ["top", "bottom"]) fun _ _ _ _ _ _ us hl => match us, hl with | [_, _], _ => rfl, PySem.W.mg_of X G aLowered⟩
  have FIsWhole := fun_mk (st := sIsWhole) lIsWhole cIsWhole kIsWhole
  have DIsWhole : Df K mg "is_whole" sIsWhole ["thing"] fIsWhole _ := ⟨FIsWhole, FIsWhole.binds (ps := ["thing"]) fun _ _ _ _ _ _ us hl => match us, hl with | [_], _ => rfl, PySem.W.mg_of X G aIsWhole⟩
  have FRatio := fun_mk (st := sRatio) lRatio cRatio kRatio
  have DRatio : Df K mg "ratio" sRatio ["top", "bottom"] fRatio _ := ⟨FRatio, FRatio.binds (ps := ["top", "bottom"]) fun _ _ _ _ _ _ us hl => match us, hl with | [_, _], _ => rfl, PySem.W.mg_of X G aRatio⟩
  have FBuiltFromLeft := fun_mk (st := sBuiltFromLeft) lBuiltFromLeft cBuiltFromLeft kBuiltFromLeft
  have DBuiltFromLeft : Df K mg "built_from_left" sBuiltFromLeft ["one", "other"] fBuiltFromLeft _ := ⟨FBuiltFromLeft, FBuiltFromLeft.binds (ps := ["one", "other"]) fun _ _ _ _ _ _ us hl => match us, hl with | [_, _], _ => rfl, PySem.W.mg_of X G aBuiltFromLeft⟩
  have FHasLesserRest := fun_mk (st := sHasLesserRest) lHasLesserRest cHasLesserRest kHasLesserRest
  have DHasLesserRest : Df K mg "has_lesser_rest" sHasLesserRest ["one", "other", "mark"] fHasLesserRest _ := ⟨FHasLesserRest, FHasLesserRest.binds (ps := ["one", "other", "mark"]) fun _ _ _ _ _ _ us hl => match us, hl with | [_, _, _], _ => rfl, PySem.W.mg_of X G aHasLesserRest⟩
  have FAdded := fun_mk (st := sAdded) lAdded cAdded kAdded
  have DAdded : Df K mg "added" sAdded ["one", "other"] fAdded _ := ⟨FAdded, FAdded.binds (ps := ["one", "other"]) fun _ _ _ _ _ _ us hl => match us, hl with | [_, _], _ => rfl, PySem.W.mg_of X G aAdded⟩
  have FSumOf := fun_mk (st := sSumOf) lSumOf cSumOf kSumOf
  have DSumOf : Df K mg "sum_of" sSumOf ["fractions"] fSumOf _ := ⟨FSumOf, FSumOf.binds (ps := ["fractions"]) fun _ _ _ _ _ _ us hl => match us, hl with | [_], _ => rfl, PySem.W.mg_of X G aSumOf⟩
  have FScaled := fun_mk (st := sScaled) lScaled cScaled kScaled
  have DScaled : Df K mg "scaled" sScaled ["fraction", "by"] fScaled _ := ⟨FScaled, FScaled.binds (ps := ["fraction", "by"]) fun _ _ _ _ _ _ us hl => match us, hl with | [_, _], _ => rfl, PySem.W.mg_of X G aScaled⟩
  have FMomentOf := fun_mk (st := sMomentOf) lMomentOf cMomentOf kMomentOf
  have DMomentOf : Df K mg "moment_of" sMomentOf ["share"] fMomentOf _ := ⟨FMomentOf, FMomentOf.binds (ps := ["share"]) fun _ _ _ _ _ _ us hl => match us, hl with | [_], _ => rfl, PySem.W.mg_of X G aMomentOf⟩
  have FTotalOf := fun_mk (st := sTotalOf) lTotalOf cTotalOf kTotalOf
  have DTotalOf : Df K mg "total_of" sTotalOf ["share"] fTotalOf _ := ⟨FTotalOf, FTotalOf.binds (ps := ["share"]) fun _ _ _ _ _ _ us hl => match us, hl with | [_], _ => rfl, PySem.W.mg_of X G aTotalOf⟩
  have FRefusal := fun_mk (st := sRefusal) lRefusal cRefusal kRefusal
  have DRefusal : Df K mg "refusal" sRefusal ["one", "other"] fRefusal _ := ⟨FRefusal, FRefusal.binds (ps := ["one", "other"]) fun _ _ _ _ _ _ us hl => match us, hl with | [_, _], _ => rfl, PySem.W.mg_of X G aRefusal⟩
  have FNeedWider := fun_mk (st := sNeedWider) lNeedWider cNeedWider kNeedWider
  have DNeedWider : Df K mg "need_wider" sNeedWider ["one", "other"] fNeedWider _ := ⟨FNeedWider, FNeedWider.binds (ps := ["one", "other"]) fun _ _ _ _ _ _ us hl => match us, hl with | [_, _], _ => rfl, PySem.W.mg_of X G aNeedWider⟩
  have FIsRow := fun_mk (st := sIsRow) lIsRow cIsRow kIsRow
  have DIsRow : Df K mg "is_row" sIsRow ["thing"] fIsRow _ := ⟨FIsRow, FIsRow.binds (ps := ["thing"]) fun _ _ _ _ _ _ us hl => match us, hl with | [_], _ => rfl, PySem.W.mg_of X G aIsRow⟩
  have FIsRowOf := fun_mk (st := sIsRowOf) lIsRowOf cIsRowOf kIsRowOf
  have DIsRowOf : Df K mg "is_row_of" sIsRowOf ["thing", "many"] fIsRowOf _ := ⟨FIsRowOf, FIsRowOf.binds (ps := ["thing", "many"]) fun _ _ _ _ _ _ us hl => match us, hl with | [_, _], _ => rfl, PySem.W.mg_of X G aIsRowOf⟩
  have FIsWholeWithin := fun_mk (st := sIsWholeWithin) lIsWholeWithin cIsWholeWithin kIsWholeWithin
  have DIsWholeWithin : Df K mg "is_whole_within" sIsWholeWithin ["thing", "least", "most"] fIsWholeWithin _ := ⟨FIsWholeWithin, FIsWholeWithin.binds (ps := ["thing", "least", "most"]) fun _ _ _ _ _ _ us hl => match us, hl with | [_, _, _], _ => rfl, PySem.W.mg_of X G aIsWholeWithin⟩
  have FIsNumber := fun_mk (st := sIsNumber) lIsNumber cIsNumber kIsNumber
  have DIsNumber : Df K mg "is_number" sIsNumber ["thing"] fIsNumber _ := ⟨FIsNumber, FIsNumber.binds (ps := ["thing"]) fun _ _ _ _ _ _ us hl => match us, hl with | [_], _ => rfl, PySem.W.mg_of X G aIsNumber⟩
  have FIsFraction := fun_mk (st := sIsFraction) lIsFraction cIsFraction kIsFraction
  have DIsFraction : Df K mg "is_fraction" sIsFraction ["thing"] fIsFraction _ := ⟨FIsFraction, FIsFraction.binds (ps := ["thing"]) fun _ _ _ _ _ _ us hl => match us, hl with | [_], _ => rfl, PySem.W.mg_of X G aIsFraction⟩
  have FIsWeight := fun_mk (st := sIsWeight) lIsWeight cIsWeight kIsWeight
  have DIsWeight : Df K mg "is_weight" sIsWeight ["thing"] fIsWeight _ := ⟨FIsWeight, FIsWeight.binds (ps := ["thing"]) fun _ _ _ _ _ _ us hl => match us, hl with | [_], _ => rfl, PySem.W.mg_of X G aIsWeight⟩
  have FIsSharePair := fun_mk (st := sIsSharePair) lIsSharePair cIsSharePair kIsSharePair
  have DIsSharePair : Df K mg "is_share_pair" sIsSharePair ["thing"] fIsSharePair _ := ⟨FIsSharePair, FIsSharePair.binds (ps := ["thing"]) fun _ _ _ _ _ _ us hl => match us, hl with | [_], _ => rfl, PySem.W.mg_of X G aIsSharePair⟩
  have FAscends := fun_mk (st := sAscends) lAscends cAscends kAscends
  have DAscends : Df K mg "ascends" sAscends ["things"] fAscends _ := ⟨FAscends, FAscends.binds (ps := ["things"]) fun _ _ _ _ _ _ us hl => match us, hl with | [_], _ => rfl, PySem.W.mg_of X G aAscends⟩
  have FIsShare := fun_mk (st := sIsShare) lIsShare cIsShare kIsShare
  have DIsShare : Df K mg "is_share" sIsShare ["thing"] fIsShare _ := ⟨FIsShare, FIsShare.binds (ps := ["thing"]) fun _ _ _ _ _ _ us hl => match us, hl with | [_], _ => rfl, PySem.W.mg_of X G aIsShare⟩
  have FNeedShare := fun_mk (st := sNeedShare) lNeedShare cNeedShare kNeedShare
  have DNeedShare : Df K mg "need_share" sNeedShare ["thing"] fNeedShare _ := ⟨FNeedShare, FNeedShare.binds (ps := ["thing"]) fun _ _ _ _ _ _ us hl => match us, hl with | [_], _ => rfl, PySem.W.mg_of X G aNeedShare⟩
  have FLeftTable := fun_mk (st := sLeftTable) lLeftTable cLeftTable kLeftTable
  have DLeftTable : Df K mg "left_table" sLeftTable ["one", "other"] fLeftTable _ := ⟨FLeftTable, FLeftTable.binds (ps := ["one", "other"]) fun _ _ _ _ _ _ us hl => match us, hl with | [_, _], _ => rfl, PySem.W.mg_of X G aLeftTable⟩
  have FLaw := fun_mk (st := sLaw) lLaw cLaw kLaw
  have DLaw : Df K mg "law" sLaw ["script"] _ _ := ⟨FLaw, FLaw.binds (ps := ["script"]) fun _ _ _ _ _ _ us hl => match us, hl with | [_], _ => rfl, PySem.W.mg_of X G aLaw⟩
  refine ⟨PySem.W.fnOf "law" "law" (defArgs sLaw) (defBody sLaw) (defScope sLaw) .none kVLaw dcLaw pmLaw anLaw cdLaw ctLaw, fun s v => .of_eq rfl, fun base _ _ => ?_⟩
  have g0_ := ok_law_above (P := l.prog) (w := w) (base := base) DLawAbove EO T
  have g1_ := ok_law_sorts (P := l.prog) (w := w) (base := base) DLawSorts EO T
  have g2_ := ok_law_values (P := l.prog) (w := w) (base := base) DLawValues EO
  have g3_ := ok_law_given_ones (P := l.prog) (w := w) (base := base) DLawGivenOnes EO
  have g4_ := ok_law_right (P := l.prog) (w := w) (base := base) DLawRight DLawValues g2_ DLawAbove g0_ DLawSorts g1_ DLawGivenOnes g3_ EO T (PySem.W.mg_none_of X G z_repr) (PySem.W.mg_none_of X G z_enumerate)
  have g5_ := ok_draw (P := l.prog) (w := w) (base := base) DDraw DMixed T
  have g6_ := ok_begin (P := l.prog) (w := w) (base := base) DBegin T
  have g7_ := ok_lowered (P := l.prog) (w := w) (base := base) DLowered T
  have g8_ := ok_is_whole (P := l.prog) (w := w) (base := base) DIsWhole T
  have g9_ := ok_ratio (P := l.prog) (w := w) (base := base) DRatio DLowered g7_ DIsWhole g8_ EO
  have g10_ := ok_no_built (P := l.prog) (w := w) (base := base) DBuiltFromLeft
  have g11_ := ok_no_rest (P := l.prog) (w := w) (base := base) DHasLesserRest
  have g12_ := ok_added (P := l.prog) (w := w) (base := base) DAdded DLowered T
  have g13_ := ok_sum_of (P := l.prog) (w := w) (base := base) DSumOf DAdded g12_ gN hN
  have g14_ := ok_scaled (P := l.prog) (w := w) (base := base) DScaled DLowered T
  have g15_ := ok_moment_of (P := l.prog) (w := w) (base := base) DMomentOf DSumOf g13_ DScaled g14_
  have g16_ := ok_total_of (P := l.prog) (w := w) (base := base) DTotalOf DSumOf g13_
  have g17_ := ok_refusal (P := l.prog) (w := w) (base := base) DRefusal DHasLesserRest g11_ DMomentOf g15_ DTotalOf g16_
  have g18_ := ok_need_wider (P := l.prog) (w := w) (base := base) DNeedWider DRefusal g17_ EO
  have g19_ := ok_is_row (P := l.prog) (w := w) (base := base) DIsRow T
  have g20_ := ok_is_row_of (P := l.prog) (w := w) (base := base) DIsRowOf DIsRow T
  have g21_ := ok_is_whole_within (P := l.prog) (w := w) (base := base) DIsWholeWithin DIsWhole T
  have g22_ := ok_is_number (P := l.prog) (w := w) (base := base) DIsNumber DIsWholeWithin g21_
  have g23_ := ok_is_fraction (P := l.prog) (w := w) (base := base) DIsFraction DIsRowOf DIsRow DIsWhole T
  have g24_ := ok_is_weight (P := l.prog) (w := w) (base := base) DIsWeight DIsFraction g23_
  have g25_ := ok_is_share_pair (P := l.prog) (w := w) (base := base) DIsSharePair DIsRowOf g20_ DIsNumber g22_ DIsWeight g24_
  have g26_ := ok_ascends (P := l.prog) (w := w) (base := base) DAscends T
  have g27_ := ok_is_share (P := l.prog) (w := w) (base := base) DIsShare DIsRow g19_ DIsSharePair g25_ DAscends g26_ gK_MOST_PAIRS T
  have g28_ := ok_need_share (P := l.prog) (w := w) (base := base) DNeedShare DIsShare g27_
  have g29_ := ok_left_table (P := l.prog) (w := w) (base := base) DLeftTable DBuiltFromLeft g10_ DNeedWider g18_ DNeedShare g28_
  exact ok_law DLaw DLawAbove g0_ DLawSorts g1_ DLawRight g4_ DDraw g5_ DBegin g6_ EO T (PySem.W.mg_none_of X G z_repr) DRatio g9_ DLeftTable g29_ DLawSorts
theorem walk {l : PySem.W.OpenLaw} {q : Program} {loose : List Str} {XP : (Str → Option Value) → Heap → Prop} {YP : World → Heap → Prop} {d : DefRec} {K : Params → PySem.W.Frag} (hn : l.most = some 63) (hdf : d.params.defaults = [])
    (hY : ∀ (w : World) (h : Heap), YP w h → (K w.params).In h)
    (F : ∀ (w : World) (mg : Str → Option Value) (fa : Addr) (h : Heap), (K w.params).In h → h.Ns mainGlobals mg → mg d.name = some (.ref fa) →
      ∃ fd : FuncData, (∀ (s : Shared) (u : Value), BindsTo s fd ⟨[u], []⟩ [("script", u)]) ∧ ∀ base : Heap, (K w.params).In base → base.Ns mainGlobals mg → FnG l.prog w (K w.params) mg base CX0 11 fa fd ["script"] (spLaw38 (K w.params))) :
    PySem.W.WalkO q loose XP YP l.row.toRowW d [] (fun f vs => PySem.call f vs) := by
  refine Att.attach_call hn hdf fun w s₀ s₁ mg mb fa o pm cd doc a vs ns gr y ho hd hcd hmg hobj hints hlen hg => ?_
  have inn := hY w _ y
  obtain ⟨fd, hb, hF⟩ := F w mg fa _ inn gr.T.g hmg
  exact law_still inn gr.T.g gr.T.b gr.T.builtins gr.T.nolimit hg hobj hints (Nat.le_trans hlen (by decide)) ⟨rfl, by decide, by decide⟩ hF hb fun H hS => ⟨a, ns, rfl, hS, hlen, fun _ => rfl⟩
end CS
open PySem PySem.W PyProof.Rows
set_option maxRecDepth 100000 in
set_option maxHeartbeats 0 in
theorem PySem.Challenge.cw_curtainsteps_k38_errors_by_their_classes_holds : PySem.Challenge.rw_curtainsteps_k38_errors_by_their_classes.Holds := by
  w_on; o_law; k_head; (case hw => w_witness2)
  k_fill
  refine CS.walk (l := PySem.Challenge.rw_curtainsteps_k38_errors_by_their_classes) rfl rfl (fun w h Y => PySem.W.kIn_of Y) ?F
  case F =>
    intro w mg fa h KX G hmg
    refine' CS.all_mk KX G hmg ?aLawAbove ?lLawAbove ?cLawAbove ?kLawAbove ?aLawSorts ?lLawSorts ?cLawSorts ?kLawSorts ?aLawValues ?lLawValues ?cLawValues ?kLawValues ?aLawGivenOnes ?lLawGivenOnes ?cLawGivenOnes ?kLawGivenOnes ?aLawRight ?lLawRight ?cLawRight ?kLawRight ?aDraw ?lDraw ?cDraw ?kDraw ?aMixed ?lMixed ?cMixed ?kMixed ?aBegin ?lBegin ?cBegin ?kBegin ?aLowered ?lLowered ?cLowered ?kLowered ?aIsWhole ?lIsWhole ?cIsWhole ?kIsWhole ?aRatio ?lRatio ?cRatio ?kRatio ?aBuiltFromLeft ?lBuiltFromLeft ?cBuiltFromLeft ?kBuiltFromLeft ?aHasLesserRest ?lHasLesserRest ?cHasLesserRest ?kHasLesserRest ?aAdded ?lAdded ?cAdded ?kAdded ?aSumOf ?lSumOf ?cSumOf ?kSumOf ?aScaled ?lScaled ?cScaled ?kScaled ?aMomentOf ?lMomentOf ?cMomentOf ?kMomentOf ?aTotalOf ?lTotalOf ?cTotalOf ?kTotalOf ?aRefusal ?lRefusal ?cRefusal ?kRefusal ?aNeedWider ?lNeedWider ?cNeedWider ?kNeedWider ?aIsRow ?lIsRow ?cIsRow ?kIsRow ?aIsRowOf ?lIsRowOf ?cIsRowOf ?kIsRowOf ?aIsWholeWithin ?lIsWholeWithin ?cIsWholeWithin ?kIsWholeWithin ?aIsNumber ?lIsNumber ?cIsNumber ?kIsNumber ?aIsFraction ?lIsFraction ?cIsFraction ?kIsFraction ?aIsWeight ?lIsWeight ?cIsWeight ?kIsWeight ?aIsSharePair ?lIsSharePair ?cIsSharePair ?kIsSharePair ?aAscends ?lAscends ?cAscends ?kAscends ?aIsShare ?lIsShare ?cIsShare ?kIsShare ?aNeedShare ?lNeedShare ?cNeedShare ?kNeedShare ?aLeftTable ?lLeftTable ?cLeftTable ?kLeftTable ?aLaw ?lLaw ?cLaw ?kLaw ?z_isinstance ?z_int ?z_tuple ?z_len ?z_abs ?z_range ?z_list ?z_sorted ?z_zip ?z_all ?z_dict ?z_repr ?z_enumerate ?z_gcd ?aN ?lN ?aK_MOST_PAIRS ?aXe0 ?iXe0 ?oXe0 ?sXe0 ?tXe0 ?xXe0 ?nXe0 ?jXe0 ?vXe0 ?qXe0 ?yXe0 ?lXe0 ?cXe0 ?kXe0 ?aXe1 ?iXe1 ?oXe1 ?sXe1 ?tXe1 ?xXe1 ?nXe1 ?jXe1 ?vXe1 ?qXe1 ?yXe1 ?lXe1 ?cXe1 ?kXe1 ?aXe2 ?iXe2 ?oXe2 ?sXe2 ?tXe2 ?xXe2 ?nXe2 ?jXe2 ?vXe2 ?qXe2 ?yXe2 ?lXe2 ?cXe2 ?kXe2 ?aXe3 ?iXe3 ?oXe3 ?sXe3 ?tXe3 ?xXe3 ?nXe3 ?jXe3 ?vXe3 ?qXe3 ?yXe3 ?lXe3 ?cXe3 ?kXe3 ?aXe4 ?iXe4 ?oXe4 ?sXe4 ?tXe4 ?xXe4 ?nXe4 ?jXe4 ?vXe4 ?qXe4 ?yXe4 ?lXe4 ?cXe4 ?kXe4 ?aXe5 ?iXe5 ?oXe5 ?sXe5 ?tXe5 ?xXe5 ?nXe5 ?jXe5 ?vXe5 ?qXe5 ?yXe5 ?lXe5 ?cXe5 ?kXe5 ?aXe6 ?iXe6 ?oXe6 ?sXe6 ?tXe6 ?xXe6 ?nXe6 ?jXe6 ?vXe6 ?qXe6 ?yXe6 ?lXe6 ?cXe6 ?kXe6 ?aXe7 ?iXe7 ?oXe7 ?sXe7 ?tXe7 ?xXe7 ?nXe7 ?jXe7 ?vXe7 ?qXe7 ?yXe7 ?lXe7 ?cXe7 ?kXe7 ?aXe8 ?iXe8 ?oXe8 ?sXe8 ?tXe8 ?xXe8 ?nXe8 ?jXe8 ?vXe8 ?qXe8 ?yXe8 ?lXe8 ?cXe8 ?kXe8 ?aXe9 ?iXe9 ?oXe9 ?sXe9 ?tXe9 ?xXe9 ?nXe9 ?jXe9 ?vXe9 ?qXe9 ?yXe9 ?lXe9 ?cXe9 ?kXe9 ?aXe10 ?iXe10 ?oXe10 ?sXe10 ?tXe10 ?xXe10 ?nXe10 ?jXe10 ?vXe10 ?qXe10 ?yXe10 ?lXe10 ?cXe10 ?kXe10 ?aXe11 ?iXe11 ?oXe11 ?sXe11 ?tXe11 ?xXe11 ?nXe11 ?jXe11 ?vXe11 ?qXe11 ?yXe11 ?lXe11 ?cXe11 ?kXe11 ?aXe12 ?iXe12 ?oXe12 ?sXe12 ?tXe12 ?xXe12 ?nXe12 ?jXe12 ?vXe12 ?qXe12 ?yXe12 ?lXe12 ?cXe12 ?kXe12 ?aXe13 ?iXe13 ?oXe13 ?sXe13 ?tXe13 ?xXe13 ?nXe13 ?jXe13 ?vXe13 ?qXe13 ?yXe13 ?lXe13 ?cXe13 ?kXe13 ?aXe14 ?iXe14 ?oXe14 ?sXe14 ?tXe14 ?xXe14 ?nXe14 ?jXe14 ?vXe14 ?qXe14 ?yXe14 ?lXe14 ?cXe14 ?kXe14 ?aXe15 ?iXe15 ?oXe15 ?sXe15 ?tXe15 ?xXe15 ?nXe15 ?jXe15 ?vXe15 ?qXe15 ?yXe15 ?lXe15 ?cXe15 ?kXe15 ?aXe16 ?iXe16 ?oXe16 ?sXe16 ?tXe16 ?xXe16 ?nXe16 ?jXe16 ?vXe16 ?qXe16 ?yXe16 ?lXe16 ?cXe16 ?kXe16 ?aXe17 ?iXe17 ?oXe17 ?sXe17 ?tXe17 ?xXe17 ?nXe17 ?jXe17 ?vXe17 ?qXe17 ?yXe17 ?lXe17 ?cXe17 ?kXe17 ?aXe18 ?iXe18 ?oXe18 ?sXe18 ?tXe18 ?xXe18 ?nXe18 ?jXe18 ?vXe18 ?qXe18 ?yXe18 ?lXe18 ?cXe18 ?kXe18 ?aXe19 ?iXe19 ?oXe19 ?sXe19 ?tXe19 ?xXe19 ?nXe19 ?jXe19 ?vXe19 ?qXe19 ?yXe19 ?lXe19 ?cXe19 ?kXe19 ?aXe20 ?iXe20 ?oXe20 ?sXe20 ?tXe20 ?xXe20 ?nXe20 ?jXe20 ?vXe20 ?qXe20 ?yXe20 ?lXe20 ?cXe20 ?kXe20 ?aXe21 ?iXe21 ?oXe21 ?sXe21 ?tXe21 ?xXe21 ?nXe21 ?jXe21 ?vXe21 ?qXe21 ?yXe21 ?lXe21 ?cXe21 ?kXe21 ?aXe22 ?iXe22 ?oXe22 ?sXe22 ?tXe22 ?xXe22 ?nXe22 ?jXe22 ?vXe22 ?qXe22 ?yXe22 ?lXe22 ?cXe22 ?kXe22 ?aXe23 ?iXe23 ?oXe23 ?sXe23 ?tXe23 ?xXe23 ?nXe23 ?jXe23 ?vXe23 ?qXe23 ?yXe23 ?lXe23 ?cXe23 ?kXe23 ?aSt ?eSt ?kSt ?tkW ?noW ?hErr ?z_ValueError ?z_OverflowError ?z_RuntimeError ?z_KeyError
    (case aLawAbove => k_is)
    (case lLawAbove => k_is)
    (case cLawAbove => k_is)
    (case kLawAbove => k_is)
    (case aLawSorts => k_is)
    (case lLawSorts => k_is)
    (case cLawSorts => k_is)
    (case kLawSorts => k_is)
    (case aLawValues => k_is)
    (case lLawValues => k_is)
    (case cLawValues => k_is)
    (case kLawValues => k_is)
    (case aLawGivenOnes => k_is)
    (case lLawGivenOnes => k_is)
    (case cLawGivenOnes => k_is)
    (case kLawGivenOnes => k_is)
    (case aLawRight => k_is)
    (case lLawRight => k_is)
    (case cLawRight => k_is)
    (case kLawRight => k_is)
    (case aDraw => k_is)
    (case lDraw => k_is)
    (case cDraw => k_is)
    (case kDraw => k_is)
    (case aMixed => k_is)
    (case lMixed => k_is)
    (case cMixed => k_is)
    (case kMixed => k_is)
    (case aBegin => k_is)
    (case lBegin => k_is)
    (case cBegin => k_is)
    (case kBegin => k_is)
    (case aLowered => k_is)
    (case lLowered => k_is)
    (case cLowered => k_is)
    (case kLowered => k_is)
    (case aIsWhole => k_is)
    (case lIsWhole => k_is)
    (case cIsWhole => k_is)
    (case kIsWhole => k_is)
    (case aRatio => k_is)
    (case lRatio => k_is)
    (case cRatio => k_is)
    (case kRatio => k_is)
    (case aBuiltFromLeft => k_is)
    (case lBuiltFromLeft => k_is)
    (case cBuiltFromLeft => k_is)
    (case kBuiltFromLeft => k_is)
    (case aHasLesserRest => k_is)
    (case lHasLesserRest => k_is)
    (case cHasLesserRest => k_is)
    (case kHasLesserRest => k_is)
    (case aAdded => k_is)
    (case lAdded => k_is)
    (case cAdded => k_is)
    (case kAdded => k_is)
    (case aSumOf => k_is)
    (case lSumOf => k_is)
    (case cSumOf => k_is)
    (case kSumOf => k_is)
    (case aScaled => k_is)
    (case lScaled => k_is)
    (case cScaled => k_is)
    (case kScaled => k_is)
    (case aMomentOf => k_is)
    (case lMomentOf => k_is)
    (case cMomentOf => k_is)
    (case kMomentOf => k_is)
    (case aTotalOf => k_is)
    (case lTotalOf => k_is)
    (case cTotalOf => k_is)
    (case kTotalOf => k_is)
    (case aRefusal => k_is)
    (case lRefusal => k_is)
    (case cRefusal => k_is)
    (case kRefusal => k_is)
    (case aNeedWider => k_is)
    (case lNeedWider => k_is)
    (case cNeedWider => k_is)
    (case kNeedWider => k_is)
    (case aIsRow => k_is)
    (case lIsRow => k_is)
    (case cIsRow => k_is)
    (case kIsRow => k_is)
    (case aIsRowOf => k_is)
    (case lIsRowOf => k_is)
    (case cIsRowOf => k_is)
    (case kIsRowOf => k_is)
    (case aIsWholeWithin => k_is)
    (case lIsWholeWithin => k_is)
    (case cIsWholeWithin => k_is)
    (case kIsWholeWithin => k_is)
    (case aIsNumber => k_is)
    (case lIsNumber => k_is)
    (case cIsNumber => k_is)
    (case kIsNumber => k_is)
    (case aIsFraction => k_is)
    (case lIsFraction => k_is)
    (case cIsFraction => k_is)
    (case kIsFraction => k_is)
    (case aIsWeight => k_is)
    (case lIsWeight => k_is)
    (case cIsWeight => k_is)
    (case kIsWeight => k_is)
    (case aIsSharePair => k_is)
    (case lIsSharePair => k_is)
    (case cIsSharePair => k_is)
    (case kIsSharePair => k_is)
    (case aAscends => k_is)
    (case lAscends => k_is)
    (case cAscends => k_is)
    (case kAscends => k_is)
    (case aIsShare => k_is)
    (case lIsShare => k_is)
    (case cIsShare => k_is)
    (case kIsShare => k_is)
    (case aNeedShare => k_is)
    (case lNeedShare => k_is)
    (case cNeedShare => k_is)
    (case kNeedShare => k_is)
    (case aLeftTable => k_is)
    (case lLeftTable => k_is)
    (case cLeftTable => k_is)
    (case kLeftTable => k_is)
    (case aLaw => k_is)
    (case lLaw => k_is)
    (case cLaw => k_is)
    (case kLaw => k_is)
    (case z_isinstance => k_is)
    (case z_int => k_is)
    (case z_tuple => k_is)
    (case z_len => k_is)
    (case z_abs => k_is)
    (case z_range => k_is)
    (case z_list => k_is)
    (case z_sorted => k_is)
    (case z_zip => k_is)
    (case z_all => k_is)
    (case z_dict => k_is)
    (case z_repr => k_is)
    (case z_enumerate => k_is)
    (case z_gcd => k_is)
    (case aN => k_is)
    (case lN => k_is)
    (case aK_MOST_PAIRS => k_is)
    (case aXe0 => k_is)
    (case iXe0 => kernel_rfl)
    (case oXe0 => kernel_rfl)
    (case sXe0 => k_is)
    (case tXe0 => k_is)
    (case xXe0 => kernel_rfl)
    (case nXe0 => k_is)
    (case jXe0 => k_is)
    (case vXe0 => k_is)
    (case qXe0 => k_is)
    (case yXe0 => k_is)
    (case lXe0 => k_is)
    (case cXe0 => k_is)
    (case kXe0 => k_is)
    (case aXe1 => k_is)
    (case iXe1 => kernel_rfl)
    (case oXe1 => kernel_rfl)
    (case sXe1 => k_is)
    (case tXe1 => k_is)
    (case xXe1 => kernel_rfl)
    (case nXe1 => k_is)
    (case jXe1 => k_is)
    (case vXe1 => k_is)
    (case qXe1 => k_is)
    (case yXe1 => k_is)
    (case lXe1 => k_is)
    (case cXe1 => k_is)
    (case kXe1 => k_is)
    (case aXe2 => k_is)
    (case iXe2 => kernel_rfl)
    (case oXe2 => kernel_rfl)
    (case sXe2 => k_is)
    (case tXe2 => k_is)
    (case xXe2 => kernel_rfl)
    (case nXe2 => k_is)
    (case jXe2 => k_is)
    (case vXe2 => k_is)
    (case qXe2 => k_is)
    (case yXe2 => k_is)
    (case lXe2 => k_is)
    (case cXe2 => k_is)
    (case kXe2 => k_is)
    (case aXe3 => k_is)
    (case iXe3 => kernel_rfl)
    (case oXe3 => kernel_rfl)
    (case sXe3 => k_is)
    (case tXe3 => k_is)
    (case xXe3 => kernel_rfl)
    (case nXe3 => k_is)
    (case jXe3 => k_is)
    (case vXe3 => k_is)
    (case qXe3 => k_is)
    (case yXe3 => k_is)
    (case lXe3 => k_is)
    (case cXe3 => k_is)
    (case kXe3 => k_is)
    (case aXe4 => k_is)
    (case iXe4 => kernel_rfl)
    (case oXe4 => kernel_rfl)
    (case sXe4 => k_is)
    (case tXe4 => k_is)
    (case xXe4 => kernel_rfl)
    (case nXe4 => k_is)
    (case jXe4 => k_is)
    (case vXe4 => k_is)
    (case qXe4 => k_is)
    (case yXe4 => k_is)
    (case lXe4 => k_is)
    (case cXe4 => k_is)
    (case kXe4 => k_is)
    (case aXe5 => k_is)
    (case iXe5 => kernel_rfl)
    (case oXe5 => kernel_rfl)
    (case sXe5 => k_is)
    (case tXe5 => k_is)
    (case xXe5 => kernel_rfl)
    (case nXe5 => k_is)
    (case jXe5 => k_is)
    (case vXe5 => k_is)
    (case qXe5 => k_is)
    (case yXe5 => k_is)
    (case lXe5 => k_is)
    (case cXe5 => k_is)
    (case kXe5 => k_is)
    (case aXe6 => k_is)
    (case iXe6 => kernel_rfl)
    (case oXe6 => kernel_rfl)
    (case sXe6 => k_is)
    (case tXe6 => k_is)
    (case xXe6 => kernel_rfl)
    (case nXe6 => k_is)
    (case jXe6 => k_is)
    (case vXe6 => k_is)
    (case qXe6 => k_is)
    (case yXe6 => k_is)
    (case lXe6 => k_is)
    (case cXe6 => k_is)
    (case kXe6 => k_is)
    (case aXe7 => k_is)
    (case iXe7 => kernel_rfl)
    (case oXe7 => kernel_rfl)
    (case sXe7 => k_is)
    (case tXe7 => k_is)
    (case xXe7 => kernel_rfl)
    (case nXe7 => k_is)
    (case jXe7 => k_is)
    (case vXe7 => k_is)
    (case qXe7 => k_is)
    (case yXe7 => k_is)
    (case lXe7 => k_is)
    (case cXe7 => k_is)
    (case kXe7 => k_is)
    (case aXe8 => k_is)
    (case iXe8 => kernel_rfl)
    (case oXe8 => kernel_rfl)
    (case sXe8 => k_is)
    (case tXe8 => k_is)
    (case xXe8 => kernel_rfl)
    (case nXe8 => k_is)
    (case jXe8 => k_is)
    (case vXe8 => k_is)
    (case qXe8 => k_is)
    (case yXe8 => k_is)
    (case lXe8 => k_is)
    (case cXe8 => k_is)
    (case kXe8 => k_is)
    (case aXe9 => k_is)
    (case iXe9 => kernel_rfl)
    (case oXe9 => kernel_rfl)
    (case sXe9 => k_is)
    (case tXe9 => k_is)
    (case xXe9 => kernel_rfl)
    (case nXe9 => k_is)
    (case jXe9 => k_is)
    (case vXe9 => k_is)
    (case qXe9 => k_is)
    (case yXe9 => k_is)
    (case lXe9 => k_is)
    (case cXe9 => k_is)
    (case kXe9 => k_is)
    (case aXe10 => k_is)
    (case iXe10 => kernel_rfl)
    (case oXe10 => kernel_rfl)
    (case sXe10 => k_is)
    (case tXe10 => k_is)
    (case xXe10 => kernel_rfl)
    (case nXe10 => k_is)
    (case jXe10 => k_is)
    (case vXe10 => k_is)
    (case qXe10 => k_is)
    (case yXe10 => k_is)
    (case lXe10 => k_is)
    (case cXe10 => k_is)
    (case kXe10 => k_is)
    (case aXe11 => k_is)
    (case iXe11 => kernel_rfl)
    (case oXe11 => kernel_rfl)
    (case sXe11 => k_is)
    (case tXe11 => k_is)
    (case xXe11 => kernel_rfl)
    (case nXe11 => k_is)
    (case jXe11 => k_is)
    (case vXe11 => k_is)
    (case qXe11 => k_is)
    (case yXe11 => k_is)
    (case lXe11 => k_is)
    (case cXe11 => k_is)
    (case kXe11 => k_is)
    (case aXe12 => k_is)
    (case iXe12 => kernel_rfl)
    (case oXe12 => kernel_rfl)
    (case sXe12 => k_is)
    (case tXe12 => k_is)
    (case xXe12 => kernel_rfl)
    (case nXe12 => k_is)
    (case jXe12 => k_is)
    (case vXe12 => k_is)
    (case qXe12 => k_is)
    (case yXe12 => k_is)
    (case lXe12 => k_is)
    (case cXe12 => k_is)
    (case kXe12 => k_is)
    (case aXe13 => k_is)
    (case iXe13 => kernel_rfl)
    (case oXe13 => kernel_rfl)
    (case sXe13 => k_is)
    (case tXe13 => k_is)
    (case xXe13 => kernel_rfl)
    (case nXe13 => k_is)
    (case jXe13 => k_is)
    (case vXe13 => k_is)
    (case qXe13 => k_is)
    (case yXe13 => k_is)
    (case lXe13 => k_is)
    (case cXe13 => k_is)
    (case kXe13 => k_is)
    (case aXe14 => k_is)
    (case iXe14 => kernel_rfl)
    (case oXe14 => kernel_rfl)
    (case sXe14 => k_is)
    (case tXe14 => k_is)
    (case xXe14 => kernel_rfl)
    (case nXe14 => k_is)
    (case jXe14 => k_is)
    (case vXe14 => k_is)
    (case qXe14 => k_is)
    (case yXe14 => k_is)
    (case lXe14 => k_is)
    (case cXe14 => k_is)
    (case kXe14 => k_is)
    (case aXe15 => k_is)
    (case iXe15 => kernel_rfl)
    (case oXe15 => kernel_rfl)
    (case sXe15 => k_is)
    (case tXe15 => k_is)
    (case xXe15 => kernel_rfl)
    (case nXe15 => k_is)
    (case jXe15 => k_is)
    (case vXe15 => k_is)
    (case qXe15 => k_is)
    (case yXe15 => k_is)
    (case lXe15 => k_is)
    (case cXe15 => k_is)
    (case kXe15 => k_is)
    (case aXe16 => k_is)
    (case iXe16 => kernel_rfl)
    (case oXe16 => kernel_rfl)
    (case sXe16 => k_is)
    (case tXe16 => k_is)
    (case xXe16 => kernel_rfl)
    (case nXe16 => k_is)
    (case jXe16 => k_is)
    (case vXe16 => k_is)
    (case qXe16 => k_is)
    (case yXe16 => k_is)
    (case lXe16 => k_is)
    (case cXe16 => k_is)
    (case kXe16 => k_is)
    (case aXe17 => k_is)
    (case iXe17 => kernel_rfl)
    (case oXe17 => kernel_rfl)
    (case sXe17 => k_is)
    (case tXe17 => k_is)
    (case xXe17 => kernel_rfl)
    (case nXe17 => k_is)
    (case jXe17 => k_is)
    (case vXe17 => k_is)
    (case qXe17 => k_is)
    (case yXe17 => k_is)
    (case lXe17 => k_is)
    (case cXe17 => k_is)
    (case kXe17 => k_is)
    (case aXe18 => k_is)
    (case iXe18 => kernel_rfl)
    (case oXe18 => kernel_rfl)
    (case sXe18 => k_is)
    (case tXe18 => k_is)
    (case xXe18 => kernel_rfl)
    (case nXe18 => k_is)
    (case jXe18 => k_is)
    (case vXe18 => k_is)
    (case qXe18 => k_is)
    (case yXe18 => k_is)
    (case lXe18 => k_is)
    (case cXe18 => k_is)
    (case kXe18 => k_is)
    (case aXe19 => k_is)
    (case iXe19 => kernel_rfl)
    (case oXe19 => kernel_rfl)
    (case sXe19 => k_is)
    (case tXe19 => k_is)
    (case xXe19 => kernel_rfl)
    (case nXe19 => k_is)
    (case jXe19 => k_is)
    (case vXe19 => k_is)
    (case qXe19 => k_is)
    (case yXe19 => k_is)
    (case lXe19 => k_is)
    (case cXe19 => k_is)
    (case kXe19 => k_is)
    (case aXe20 => k_is)
    (case iXe20 => kernel_rfl)
    (case oXe20 => kernel_rfl)
    (case sXe20 => k_is)
    (case tXe20 => k_is)
    (case xXe20 => kernel_rfl)
    (case nXe20 => k_is)
    (case jXe20 => k_is)
    (case vXe20 => k_is)
    (case qXe20 => k_is)
    (case yXe20 => k_is)
    (case lXe20 => k_is)
    (case cXe20 => k_is)
    (case kXe20 => k_is)
    (case aXe21 => k_is)
    (case iXe21 => kernel_rfl)
    (case oXe21 => kernel_rfl)
    (case sXe21 => k_is)
    (case tXe21 => k_is)
    (case xXe21 => kernel_rfl)
    (case nXe21 => k_is)
    (case jXe21 => k_is)
    (case vXe21 => k_is)
    (case qXe21 => k_is)
    (case yXe21 => k_is)
    (case lXe21 => k_is)
    (case cXe21 => k_is)
    (case kXe21 => k_is)
    (case aXe22 => k_is)
    (case iXe22 => kernel_rfl)
    (case oXe22 => kernel_rfl)
    (case sXe22 => k_is)
    (case tXe22 => k_is)
    (case xXe22 => kernel_rfl)
    (case nXe22 => k_is)
    (case jXe22 => k_is)
    (case vXe22 => k_is)
    (case qXe22 => k_is)
    (case yXe22 => k_is)
    (case lXe22 => k_is)
    (case cXe22 => k_is)
    (case kXe22 => k_is)
    (case aXe23 => k_is)
    (case iXe23 => kernel_rfl)
    (case oXe23 => kernel_rfl)
    (case sXe23 => k_is)
    (case tXe23 => k_is)
    (case xXe23 => kernel_rfl)
    (case nXe23 => k_is)
    (case jXe23 => k_is)
    (case vXe23 => k_is)
    (case qXe23 => k_is)
    (case yXe23 => k_is)
    (case lXe23 => k_is)
    (case cXe23 => k_is)
    (case kXe23 => k_is)
    (case aSt => k_is)
    (case eSt => kernel_rfl)
    (case kSt => k_is)
    (case tkW => k_is)
    (case noW => k_is)
    (case hErr => kernel_rfl)
    (case z_ValueError => k_is)
    (case z_OverflowError => k_is)
    (case z_RuntimeError => k_is)
    (case z_KeyError => k_is)
