import PyProof.Rows.All
import Wide.All
import OpenK.AllK
import Wide.FinOn
import HandS.ForMost
import HandS.Gcd
import HandS.Wide
import HandS.IsInst
import KE.KTypeName
import PyProof.IsiStr
import HandS.Flow
import HandS.Style
import HandS.Evl
import HandS.Conv
import HandS.Zip
import HandS.TupAny
import HandS.Star
import HandS.Walk
import HandS.More
import HandS.Lambda
import HandS.Nested
import HandS.CallSlots
import KE.KDflt
import HandS.ExcInit
import HandS.ExcField
import HandS.ExcOwn
import HandS.WordsExc
import KE.KExcInit
import HandS.TryMany
import HandS.Dict
import KE.KDictPairs
import HandS.Ends
import HandS.Words
import PyProof.ReprRoads
import PyProof.ReprLen
import HandS.Deep
import HandS.TryOnly
import PySem.Challenge.RW_curtainsteps_k10_kind_papers_judged
set_option Elab.async false
set_option maxRecDepth 100000
set_option maxHeartbeats 4000000
/-! x.__class__.__name__ of whole numbers, truth values and tuples; // by any divisor that is not too great. -/
namespace CS
open PySem
section
variable {P : Program} {w : World} {A : Around} {E : Value → Shared → Prop} {hp : Heap} {gs : Array GenState} {dr : Drawn} {tk : Nat} {os : OsState}
theorem cls_of_int {i : Int} {u : Tok} {Q : Value → Shared → Prop} (q : Q (.type "int") ⟨hp, gs, dr, tk + 1, os⟩) : wpAny (model P w) A (getAttr (.int i u) "__class__" true) Q E ⟨hp, gs, dr, tk, os⟩ := by
  have ty : Shared.TypeIs ⟨hp, gs, dr, tk, os⟩ (.int i u) "int" := rfl
  have lo := F.slot_int_getattribute.lookup
  have bi := F.slot_int_getattribute.bind (.int i u)
  unfold getAttr
  all_goals (repeat' first | assumption | wp_step)
  refine class_call_int ?_
  all_goals (repeat' first | assumption | wp_step)
theorem cls_of_bool {b : Bool} {Q : Value → Shared → Prop} (q : Q (.type "bool") ⟨hp, gs, dr, tk + 1, os⟩) : wpAny (model P w) A (getAttr (.bool b) "__class__" true) Q E ⟨hp, gs, dr, tk, os⟩ := by
  have ty : Shared.TypeIs ⟨hp, gs, dr, tk, os⟩ (.bool b) "bool" := rfl
  have lo := F.slot_bool_getattribute.lookup
  have bi := F.slot_bool_getattribute.bind (.bool b)
  unfold getAttr
  all_goals (repeat' first | assumption | wp_step)
  refine class_call_bool ?_
  all_goals (repeat' first | assumption | wp_step)
theorem cls_of_tuple {a : Addr} {od : Option Addr} {dt : Data} {sl : Array (Option Value)} {Q : Value → Shared → Prop} (ha : hp.get? a = some ⟨.type "tuple", od, dt, sl⟩) (q : Q (.type "tuple") ⟨hp, gs, dr, tk + 1, os⟩) :
    wpAny (model P w) A (getAttr (.ref a) "__class__" true) Q E ⟨hp, gs, dr, tk, os⟩ := by
  have ty : Shared.TypeIs ⟨hp, gs, dr, tk, os⟩ (.ref a) "tuple" := ⟨_, ha, rfl⟩
  have lo := F.slot_tuple_getattribute.lookup
  have bi := F.slot_tuple_getattribute.bind (.ref a)
  unfold getAttr
  all_goals (repeat' first | assumption | wp_step)
  refine class_call_tuple ha rfl ?_
  all_goals (repeat' first | assumption | wp_step)
theorem cls_of_str {x : Str} {u : Tok} {Q : Value → Shared → Prop} (q : Q (.type "str") ⟨hp, gs, dr, tk + 1, os⟩) : wpAny (model P w) A (getAttr (.str x u) "__class__" true) Q E ⟨hp, gs, dr, tk, os⟩ := by
  have ty : Shared.TypeIs ⟨hp, gs, dr, tk, os⟩ (.str x u) "str" := rfl
  have lo := F.slot_str_getattribute.lookup
  have bi := F.slot_str_getattribute.bind (.str x u)
  unfold getAttr
  all_goals (repeat' first | assumption | wp_step)
  refine class_call_str ?_
  all_goals (repeat' first | assumption | wp_step)
end
end CS
set_option Elab.async false
set_option maxRecDepth 100000
set_option maxHeartbeats 4000000
namespace CS
open PySem L2
/-- the name of a plain value's class -/
inductive CN (K : PySem.W.Frag) (H : Hp) : V → Str → Prop where
  | int (i : Int) : CN K H (.int i) "int"
  | bl (b : Bool) : CN K H (.bl b) "bool"
  | str (x : Str) : CN K H (.str x) "str"
  | tup {a : Addr} {xs : List V} (h : SqT K H a xs) : CN K H (.ref a) "tuple"
def tCN (K : PySem.W.Frag) (te : TE) : TE := fun σ H Q => te σ H fun x H1 => ∃ nm, CN K H1 x nm ∧ Q (.str nm) H1
section
variable {X : Cx} {pins : List (Addr × Obj)} {σ : St} {H : Hp} {s : Shared}
/-- a built-in class's __name__ -/
theorem name_ok {T q : String} {Q : VK} (I : Inv X pins σ H s) (ht : PySem.W.kitMeta T = true) (hs : Manifest.isStub T = false)
    (e : PySem.W.findCls X.K (.type T) (.type "type") "__name__" = some (.get (.builtin "getset_descriptor.__get__") (.builtin "type.__name__") (.type T) (.type "type"))) (hq : PySem.W.ktynFast T = q) (hz : (Str.ofString q).length ≤ sizeLine)
    (h : Q (.str (Str.ofString q)) H) : wpAny (model X.prog X.w) X.A (getAttr (.type T) "__name__" true) (EP X pins σ Q) X.xe s := by
  obtain ⟨m, Fm⟩ := I.fr
  exact PySem.W.ktyn_attr Fm I.ok.mod.kin ht hs e hq hz fun tk u => ⟨.str _, H, I.tok u, ⟨tk, rfl⟩, h⟩
theorem cn_ok {x : V} {u : Value} {nm : Str} {Q : VK} (I : Inv X pins σ H s) (r : RelV x u) (c : CN X.K H x nm) (h : Q (.str nm) H) :
    wpAny (model X.prog X.w) X.A (getAttr u "__class__" true) (fun v s1 => wpAny (model X.prog X.w) X.A (getAttr v "__name__" true) (EP X pins σ Q) X.xe s1) X.xe s := by
  cases c with
  | int i =>
    obtain ⟨t, rfl⟩ := r
    obtain ⟨hh, g, d, tt, os⟩ := s
    exact cls_of_int (name_ok (I.tok (tt + 1)) (by decide +kernel) (by decide +kernel) (by first | kernel_rfl | rfl) (by decide +kernel) (by decide +kernel) h)
  | bl b =>
    cases (show u = Value.bool b from r)
    obtain ⟨hh, g, d, tt, os⟩ := s
    exact cls_of_bool (name_ok (I.tok (tt + 1)) (by decide +kernel) (by decide +kernel) (by first | kernel_rfl | rfl) (by decide +kernel) (by decide +kernel) h)
  | str x =>
    obtain ⟨t, rfl⟩ := r
    obtain ⟨hh, g, d, tt, os⟩ := s
    exact cls_of_str (name_ok (I.tok (tt + 1)) (by decide +kernel) (by decide +kernel) (by first | kernel_rfl | rfl) (by decide +kernel) (by decide +kernel) h)
  | @tup a xs hT =>
    cases (show u = Value.ref a from r)
    obtain ⟨its, _, ⟨o, h1, h2, _⟩, _⟩ := I.tuple hT
    obtain ⟨oc, od, dt, sl⟩ := o
    simp only at h2
    subst h2
    obtain ⟨hh, g, d, tt, os⟩ := s
    exact cls_of_tuple h1 (name_ok (I.tok (tt + 1)) (by decide +kernel) (by decide +kernel) (by first | kernel_rfl | rfl) (by decide +kernel) (by decide +kernel) h)
/-- e.__class__.__name__ -/
theorem pe_cn {e : Expr} {te : TE} {p1 p2 : Pos} (he : PE X e te) (hb1 : attributeBase e "__class__" X.env (eval e X.env) = eval e X.env := by rfl)
    (hb2 : attributeBase (.Attribute e "__class__" p1) "__name__" X.env (eval (.Attribute e "__class__" p1) X.env) = eval (.Attribute e "__class__" p1) X.env := by rfl) :
    PE X (.Attribute (.Attribute e "__class__" p1) "__name__" p2) (tCN X.K te) :=
  ⟨fun pins s σ H Q I h => attr_of hb2 (attr_of hb1 (thn (he.run pins s σ H _ I h) fun u s1 ⟨x, H1, I1, rx, nm, c, q⟩ => cn_ok I1 rx c q))⟩
/-- // by any divisor below 2 ^ 9000 in size -/
def CDivX (_ j : Int) : Prop := j ≠ 0 ∧ j.natAbs.log2 < 9000
theorem op_fdivX : OpR X (binaryOp .FloorDiv) (rI CDivX fun i j => .int (i.fdiv j)) := opI fun _ _ _ _ _ _ _ hc q =>
  PyProof.Rows.floordiv_int hc.1 q (.inl (PyProof.noPylong_of_log2 hc.2))
end
end CS
set_option maxHeartbeats 1000000
namespace CS
/-- in least terms, the lower one positive -/
def Fr (x : Int × Int) : Prop := 1 ≤ x.2 ∧ Int.gcd x.1 x.2 = 1
instance (x : Int × Int) : Decidable (Fr x) := by unfold Fr; infer_instance
def Sz (n : Nat) (x : Int × Int) : Prop := x.1.natAbs < 2 ^ n ∧ x.2.natAbs < 2 ^ n
def cm (t b : Int) : Int := if b < 0 then -(Int.gcd t b : Int) else (Int.gcd t b : Int)
def low (t b : Int) : Int × Int := (t.fdiv (cm t b), b.fdiv (cm t b))
theorem gcd_pos {t b : Int} (hb : b ≠ 0) : 0 < Int.gcd t b := Int.gcd_pos_of_ne_zero_right t hb
theorem cm_ne {t b : Int} (hb : b ≠ 0) : cm t b ≠ 0 := by
  have := gcd_pos (t := t) hb
  unfold cm
  split <;> omega
theorem cm_dvd (t b : Int) : cm t b ∣ t ∧ cm t b ∣ b := by
  unfold cm
  split
  · exact ⟨Int.neg_dvd.mpr (Int.gcd_dvd_left t b), Int.neg_dvd.mpr (Int.gcd_dvd_right t b)⟩
  · exact ⟨Int.gcd_dvd_left t b, Int.gcd_dvd_right t b⟩
theorem cm_abs (t b : Int) : (cm t b).natAbs = Int.gcd t b := by
  unfold cm
  split <;> omega
theorem low_parts {t b : Int} (hb : b ≠ 0) : t = cm t b * (low t b).1 ∧ b = cm t b * (low t b).2 := by
  obtain ⟨⟨t', ht⟩, ⟨b', hb'⟩⟩ := cm_dvd t b
  have hg := cm_ne (t := t) hb
  have e1 : t.fdiv (cm t b) = t' := by
    conv => lhs; lhs; rw [ht]
    exact Int.mul_fdiv_cancel_left t' hg
  have e2 : b.fdiv (cm t b) = b' := by
    conv => lhs; lhs; rw [hb']
    exact Int.mul_fdiv_cancel_left b' hg
  unfold low
  simp only [e1, e2]
  exact ⟨ht, hb'⟩
theorem low_fr {t b : Int} (hb : b ≠ 0) : Fr (low t b) := by
  obtain ⟨h1, h2⟩ := low_parts (t := t) hb
  have hp := gcd_pos (t := t) hb
  have hs : (b < 0 → cm t b < 0) ∧ (0 < b → 0 < cm t b) := by
    unfold cm
    split <;> constructor <;> intro h <;> omega
  have e : Int.gcd t b = (cm t b).natAbs * Int.gcd (low t b).1 (low t b).2 := by
    have z : ∀ g a c : Int, t = g * a → b = g * c → Int.gcd t b = g.natAbs * Int.gcd a c := by
      intro g a c e1 e2
      rw [e1, e2, Int.gcd_mul_left]
    exact z _ _ _ h1 h2
  rw [cm_abs] at e
  constructor
  · rcases Int.lt_or_gt_of_ne hb with h | h
    · have hc := hs.1 h
      rcases Int.lt_or_le 0 (low t b).2 with q | q
      · omega
      · have : 0 ≤ cm t b * (low t b).2 := Int.mul_nonneg_of_nonpos_of_nonpos (by omega) q
        omega
    · have hc := hs.2 h
      rcases Int.lt_or_le 0 (low t b).2 with q | q
      · omega
      · have : cm t b * (low t b).2 ≤ 0 := Int.mul_nonpos_of_nonneg_of_nonpos (by omega) q
        omega
  · have e' : Int.gcd t b * 1 = Int.gcd t b * Int.gcd (low t b).1 (low t b).2 := by omega
    exact (Nat.eq_of_mul_eq_mul_left hp e').symm
theorem low_cross {t b : Int} (hb : b ≠ 0) : (low t b).1 * b = t * (low t b).2 := by
  obtain ⟨h1, h2⟩ := low_parts (t := t) hb
  generalize low t b = y at *
  generalize cm t b = g at *
  subst h1
  subst h2
  grind
theorem low_le {t b : Int} (hb : b ≠ 0) : (low t b).1.natAbs ≤ t.natAbs ∧ (low t b).2.natAbs ≤ b.natAbs := by
  obtain ⟨h1, h2⟩ := low_parts (t := t) hb
  have hg : 0 < (cm t b).natAbs := by have := cm_ne (t := t) hb; omega
  constructor
  · conv => rhs; rw [h1, Int.natAbs_mul]
    exact Nat.le_mul_of_pos_left _ hg
  · conv => rhs; rw [h2, Int.natAbs_mul]
    exact Nat.le_mul_of_pos_left _ hg
theorem cop_dvd {k m n : Int} (h : k ∣ m * n) (c : Int.gcd k m = 1) : k ∣ n := by
  have h2 : k.natAbs ∣ m.natAbs * n.natAbs := by
    rw [← Int.natAbs_mul]
    exact Int.natAbs_dvd_natAbs.mpr h
  exact Int.natAbs_dvd_natAbs.mp (Nat.Coprime.dvd_of_dvd_mul_left (show Nat.Coprime k.natAbs m.natAbs from c) h2)
theorem Fr.uniq {x y : Int × Int} (hx : Fr x) (hy : Fr y) (h : x.1 * y.2 = y.1 * x.2) : x = y := by
  obtain ⟨a, b⟩ := x
  obtain ⟨c, d⟩ := y
  obtain ⟨hb, hab⟩ := hx
  obtain ⟨hd, hcd⟩ := hy
  simp only at *
  have d1 : b ∣ d := by
    have : b ∣ a * d := ⟨c, by grind⟩
    exact cop_dvd this (by rw [Int.gcd_comm]; exact hab)
  have d2 : d ∣ b := by
    have : d ∣ c * b := ⟨a, by grind⟩
    exact cop_dvd this (by rw [Int.gcd_comm]; exact hcd)
  have e : b = d := Int.dvd_antisymm (by omega) (by omega) d1 d2
  subst e
  have : a = c := Int.eq_of_mul_eq_mul_right (by omega) h
  rw [this]
theorem low_uniq {t b : Int} {x : Int × Int} (hb : b ≠ 0) (hx : Fr x) (h : x.1 * b = t * x.2) : low t b = x := by
  refine (low_fr hb).uniq hx ?_
  have c := low_cross (t := t) hb
  have : b * ((low t b).1 * x.2) = b * (x.1 * (low t b).2) := by
    generalize low t b = y at *
    grind
  exact Int.eq_of_mul_eq_mul_left hb this
def fadd (x y : Int × Int) : Int × Int := low (x.1 * y.2 + y.1 * x.2) (x.2 * y.2)
def fsub (x y : Int × Int) : Int × Int := low (x.1 * y.2 - y.1 * x.2) (x.2 * y.2)
def fmul (x y : Int × Int) : Int × Int := low (x.1 * y.1) (x.2 * y.2)
def fdiv (x y : Int × Int) : Int × Int := low (x.1 * y.2) (x.2 * y.1)
def flt (x y : Int × Int) : Bool := decide (x.1 * y.2 < y.1 * x.2)
theorem Fr.pos {x : Int × Int} (h : Fr x) : 0 < x.2 := by have := h.1; omega
theorem Fr.ne {x : Int × Int} (h : Fr x) : x.2 ≠ 0 := by have := h.1; omega
theorem dd {x y : Int × Int} (hx : Fr x) (hy : Fr y) : x.2 * y.2 ≠ 0 := Int.mul_ne_zero hx.ne hy.ne
theorem dd0 {x y : Int × Int} (hx : Fr x) (hy : Fr y) : 0 < x.2 * y.2 := Int.mul_pos hx.pos hy.pos
theorem fadd_fr {x y : Int × Int} (hx : Fr x) (hy : Fr y) : Fr (fadd x y) := low_fr (dd hx hy)
theorem fsub_fr {x y : Int × Int} (hx : Fr x) (hy : Fr y) : Fr (fsub x y) := low_fr (dd hx hy)
theorem fmul_fr {x y : Int × Int} (hx : Fr x) (hy : Fr y) : Fr (fmul x y) := low_fr (dd hx hy)
theorem fdiv_fr {x y : Int × Int} (hx : Fr x) (h : y.1 ≠ 0) : Fr (fdiv x y) := low_fr (Int.mul_ne_zero hx.ne h)
theorem fadd_comm (x y : Int × Int) : fadd x y = fadd y x := by
  unfold fadd
  rw [Int.add_comm, Int.mul_comm x.2 y.2]
theorem fsub_fadd {x y : Int × Int} (hx : Fr x) (hy : Fr y) : fsub (fadd x y) y = x := by
  have hp := fadd_fr hx hy
  have c : (fadd x y).1 * (x.2 * y.2) = (x.1 * y.2 + y.1 * x.2) * (fadd x y).2 := low_cross (dd hx hy)
  refine low_uniq (dd hp hy) hx ?_
  generalize fadd x y = p at *
  grind
theorem fmul_fdiv {x y : Int × Int} (hx : Fr x) (hy : Fr y) (h : y.1 ≠ 0) : fmul (fdiv x y) y = x := by
  have hp := fdiv_fr hx h
  have c : (fdiv x y).1 * (x.2 * y.1) = (x.1 * y.2) * (fdiv x y).2 := low_cross (Int.mul_ne_zero hx.ne h)
  refine low_uniq (dd hp hy) hx ?_
  generalize fdiv x y = p at *
  grind
theorem low_neg {t b : Int} (hb : b ≠ 0) : low (-t) (-b) = low t b := by
  refine low_uniq (by omega) (low_fr hb) ?_
  have c := low_cross (t := t) hb
  grind
theorem due_eq {x y : Int × Int} (h : y.1 ≠ 0) (hx : Fr x) : low (x.1 * y.2 * (if 0 < y.1 then 1 else -1)) (x.2 * (y.1.natAbs : Int)) = fdiv x y := by
  unfold fdiv
  split
  · next q =>
    rw [show ((y.1.natAbs : Nat) : Int) = y.1 by omega]
    congr 1
    omega
  · next q =>
    rw [show ((y.1.natAbs : Nat) : Int) = -y.1 by omega]
    have := low_neg (t := x.1 * y.2) (b := x.2 * y.1) (Int.mul_ne_zero hx.ne h)
    rw [← this]
    congr 1
    · omega
    · grind
theorem flt_sub {x y : Int × Int} (hx : Fr x) (hy : Fr y) : flt x y = flt (fsub x y) (0, 1) := by
  have hp := fsub_fr hx hy
  have c : (fsub x y).1 * (x.2 * y.2) = (x.1 * y.2 - y.1 * x.2) * (fsub x y).2 := low_cross (dd hx hy)
  have k := dd0 hx hy
  have m := hp.pos
  unfold flt
  simp only [Int.mul_one, Int.zero_mul]
  generalize fsub x y = p at *
  generalize hk : x.2 * y.2 = kk at *
  generalize hd : x.1 * y.2 - y.1 * x.2 = dl at *
  rw [decide_eq_decide]
  constructor
  · intro q
    have q2 : dl < 0 := by omega
    have : dl * p.2 < 0 := Int.mul_neg_of_neg_of_pos q2 m
    rcases Int.lt_or_le p.1 0 with z | z
    · exact z
    · have := Int.mul_nonneg z (Int.le_of_lt k)
      omega
  · intro q
    have : p.1 * kk < 0 := Int.mul_neg_of_neg_of_pos q k
    rcases Int.lt_or_le dl 0 with z | z
    · omega
    · have := Int.mul_nonneg z (Int.le_of_lt m)
      omega
theorem fadd_zero {x : Int × Int} (hx : Fr x) : fadd x (0, 1) = x := by
  unfold fadd
  refine low_uniq ?_ hx ?_
  · have := hx.ne
    simp only [Int.mul_one]
    exact this
  · grind
/-! sizes -/
theorem abs_mul_lt {a b : Int} {m n : Nat} (ha : a.natAbs < 2 ^ m) (hb : b.natAbs < 2 ^ n) : (a * b).natAbs < 2 ^ (m + n) := by
  rw [Int.natAbs_mul, Nat.pow_add]
  exact Nat.mul_lt_mul'' ha hb
theorem abs_add_lt {a b : Int} {m : Nat} (ha : a.natAbs < 2 ^ m) (hb : b.natAbs < 2 ^ m) : (a + b).natAbs < 2 ^ (m + 1) := by
  rw [Nat.pow_succ]
  omega
theorem abs_sub_lt {a b : Int} {m : Nat} (ha : a.natAbs < 2 ^ m) (hb : b.natAbs < 2 ^ m) : (a - b).natAbs < 2 ^ (m + 1) := by
  rw [Nat.pow_succ]
  omega
theorem lt_up {a : Nat} {m n : Nat} (ha : a < 2 ^ m) (h : m ≤ n) : a < 2 ^ n := Nat.lt_of_lt_of_le ha (Nat.pow_le_pow_right (by decide) h)
theorem Sz.up {x : Int × Int} {m n : Nat} (h : Sz m x) (q : m ≤ n) : Sz n x := ⟨lt_up h.1 q, lt_up h.2 q⟩
theorem low_sz {t b : Int} {n : Nat} (hb : b ≠ 0) (h1 : t.natAbs < 2 ^ n) (h2 : b.natAbs < 2 ^ n) : Sz n (low t b) :=
  ⟨Nat.lt_of_le_of_lt (low_le hb).1 h1, Nat.lt_of_le_of_lt (low_le hb).2 h2⟩
theorem fadd_sz {x y : Int × Int} {m n : Nat} (hx : Fr x) (hy : Fr y) (sx : Sz m x) (sy : Sz n y) : Sz (m + n + 1) (fadd x y) := by
  refine low_sz (dd hx hy) ?_ ?_
  · refine abs_add_lt (abs_mul_lt sx.1 sy.2) ?_
    rw [Int.mul_comm]
    exact abs_mul_lt sx.2 sy.1
  · exact lt_up (abs_mul_lt sx.2 sy.2) (by omega)
theorem fsub_sz {x y : Int × Int} {m n : Nat} (hx : Fr x) (hy : Fr y) (sx : Sz m x) (sy : Sz n y) : Sz (m + n + 1) (fsub x y) := by
  refine low_sz (dd hx hy) ?_ ?_
  · refine abs_sub_lt (abs_mul_lt sx.1 sy.2) ?_
    rw [Int.mul_comm]
    exact abs_mul_lt sx.2 sy.1
  · exact lt_up (abs_mul_lt sx.2 sy.2) (by omega)
theorem fmul_sz {x y : Int × Int} {m n : Nat} (hx : Fr x) (hy : Fr y) (sx : Sz m x) (sy : Sz n y) : Sz (m + n) (fmul x y) :=
  low_sz (dd hx hy) (abs_mul_lt sx.1 sy.1) (abs_mul_lt sx.2 sy.2)
theorem fdiv_sz {x y : Int × Int} {m n : Nat} (hx : Fr x) (h : y.1 ≠ 0) (sx : Sz m x) (sy : Sz n y) : Sz (m + n) (fdiv x y) :=
  low_sz (Int.mul_ne_zero hx.ne h) (abs_mul_lt sx.1 sy.2) (abs_mul_lt sx.2 sy.1)
/-! Euclid's loop -/
theorem euclid_step {a b : Int} (h : 0 ≤ a) (hb : 0 < b) : Int.gcd b (a % b) = Int.gcd a b := by
  obtain ⟨m, rfl⟩ := Int.eq_ofNat_of_zero_le h
  obtain ⟨n, rfl⟩ := Int.eq_ofNat_of_zero_le (Int.le_of_lt hb)
  show Nat.gcd n ((m : Int) % (n : Int)).natAbs = Nat.gcd m n
  rw [← Int.natCast_emod, Int.natAbs_natCast, Nat.gcd_comm m n, Nat.gcd_rec n m, Nat.gcd_comm]
end CS
set_option Elab.async false
set_option maxRecDepth 100000
set_option maxHeartbeats 4000000
set_option linter.unusedVariables false
namespace CS
open PySem L2
theorem PE.imp {X : Cx} {e : Expr} {t t1 : TE} (h : PE X e t) (k : ∀ σ H Q, t1 σ H Q → t σ H Q) : PE X e t1 := ⟨fun pins s σ H Q I q => h.run pins s σ H Q I (k σ H Q q)⟩
/-- a fraction's tuple stands at p -/
abbrev FT (K : PySem.W.Frag) (H : Hp) (p : Addr) (x : Int × Int) : Prop := SqT K H p [.int x.1, .int x.2]
/-- slot i holds a fraction's tuple: its item 0, its item 1 -/
def tFst (K : PySem.W.Frag) (i : Nat) : TE := fun σ H Q => ∃ p x, σ[i]? = some (some (.ref p)) ∧ FT K H p x ∧ Q (.int x.1) H
def tSnd (K : PySem.W.Frag) (i : Nat) : TE := fun σ H Q => ∃ p x, σ[i]? = some (some (.ref p)) ∧ FT K H p x ∧ Q (.int x.2) H
section
variable {X : Cx}
theorem pe_fst (i : Nat) {x : Str} {pos p2 pos' : Pos} {j : Nat} (hN : X.N[i]? = some x := by rfl) (hv : Vis X.env.scope x := by first | exact Or.inl rfl | exact Or.inr (Or.inl rfl) | exact Or.inr (Or.inr rfl)) (hd : (x == ("__debug__" : Str)) = false := by decide)
    (hcd : (x == ("__classdict__" : Str)) = false := by decide) : PE X (.Subscript (.Name x pos) (.Constant (.int 0) j p2) pos') (tFst X.K i) :=
  PE.imp (pe_ix ix_tup (pe_var hN hv hd hcd) pe_int (fun _ _ => rfl)) fun σ H Q ⟨p, x, e, h, q⟩ => ⟨_, e, p, _, 0, .int x.1, rfl, rfl, h, atI_nat (j := 0) rfl, q⟩
theorem pe_snd (i : Nat) {x : Str} {pos p2 pos' : Pos} {j : Nat} (hN : X.N[i]? = some x := by rfl) (hv : Vis X.env.scope x := by first | exact Or.inl rfl | exact Or.inr (Or.inl rfl) | exact Or.inr (Or.inr rfl)) (hd : (x == ("__debug__" : Str)) = false := by decide)
    (hcd : (x == ("__classdict__" : Str)) = false := by decide) : PE X (.Subscript (.Name x pos) (.Constant (.int 1) j p2) pos') (tSnd X.K i) :=
  PE.imp (pe_ix ix_tup (pe_var hN hv hd hcd) pe_int (fun _ _ => rfl)) fun σ H Q ⟨p, x, e, h, q⟩ => ⟨_, e, p, _, 1, .int x.2, rfl, rfl, h, atI_nat (j := 1) rfl, q⟩
end
theorem cmw {a b : Int} (ha : a.natAbs < 2 ^ 1900) (hb : b.natAbs < 2 ^ 1900) : CMulW a b := wide_mul ha hb (by decide) (by decide) (by decide)
end CS
set_option maxHeartbeats 1000000
set_option linter.unusedVariables false
namespace CS
abbrev Fx := Int × Int
def lk (f : List (Int × Fx)) (k : Int) : Fx := (f.lookup k).getD (0, 1)
def ups : List (Int × Fx) → Int → Fx → List (Int × Fx)
  | [], k, x => [(k, x)]
  | (j, y) :: f, k, x => if j = k then (j, x) :: f else (j, y) :: ups f k x
def gat (f : List (Int × Fx)) (xs : List (Int × Fx)) : List (Int × Fx) := xs.foldl (fun f kx => ups f kx.1 (fadd (lk f kx.1) kx.2)) f
theorem lk_cons (j : Int) (y : Fx) (f : List (Int × Fx)) (k : Int) : lk ((j, y) :: f) k = if k = j then y else lk f k := by
  unfold lk
  rw [List.lookup_cons]
  by_cases h : k = j
  · subst h
    simp
  · have : (k == j) = false := by simpa using h
    simp [this, h]
theorem lk_ups : ∀ (f : List (Int × Fx)) (k : Int) (x : Fx) (j : Int), lk (ups f k x) j = if j = k then x else lk f j
  | [], k, x, j => by
    show lk [(k, x)] j = _
    rw [lk_cons]
  | (i, y) :: f, k, x, j => by
    show lk (if i = k then (i, x) :: f else (i, y) :: ups f k x) j = _
    by_cases h : i = k
    · subst h
      rw [if_pos rfl, lk_cons, lk_cons]
      by_cases q : j = i <;> simp [q]
    · rw [if_neg h, lk_cons, lk_cons, lk_ups f k x j]
      by_cases q : j = i
      · subst q
        simp [h]
      · simp [q]
theorem ups_keys (f : List (Int × Fx)) (k : Int) (x : Fx) : ∀ j, j ∈ (ups f k x).map (·.1) ↔ j = k ∨ j ∈ f.map (·.1) := by
  induction f with
  | nil =>
    intro j
    simp [ups]
  | cons a f ih =>
    obtain ⟨i, y⟩ := a
    intro j
    by_cases h : i = k
    · subst h
      simp [ups]
    · have := ih j
      simp [ups, h] at *
      grind
theorem ups_nodup (f : List (Int × Fx)) (k : Int) (x : Fx) (h : (f.map (·.1)).Nodup) : ((ups f k x).map (·.1)).Nodup := by
  induction f with
  | nil => simp [ups]
  | cons a f ih =>
    obtain ⟨i, y⟩ := a
    by_cases q : i = k
    · subst q
      simpa [ups] using h
    · rw [List.map_cons, List.nodup_cons] at h
      have e : ups ((i, y) :: f) k x = (i, y) :: ups f k x := by simp [ups, q]
      rw [e, List.map_cons, List.nodup_cons]
      refine ⟨fun m => ?_, ih h.2⟩
      rcases (ups_keys f k x i).mp m with z | z
      · exact q z
      · exact h.1 z
theorem ups_len (f : List (Int × Fx)) (k : Int) (x : Fx) : (ups f k x).length ≤ f.length + 1 := by
  induction f with
  | nil => simp [ups]
  | cons a f ih =>
    obtain ⟨i, y⟩ := a
    by_cases q : i = k
    · simp [ups, q]
    · simp [ups, q]; omega
/-- the strictly ascending list of what is not nought in a table -/
def IsS (f r : List (Int × Fx)) : Prop := (r.map (·.1)).Pairwise (· < ·) ∧ ∀ k x, (k, x) ∈ r ↔ (lk f k = x ∧ x ≠ (0, 1))
theorem asc_same : ∀ {r q : List (Int × Fx)}, (r.map (·.1)).Pairwise (· < ·) → (q.map (·.1)).Pairwise (· < ·) → (∀ a, a ∈ r ↔ a ∈ q) → r = q
  | [], [], _, _, _ => rfl
  | [], b :: q, _, _, h => absurd ((h b).mpr List.mem_cons_self) (by simp)
  | a :: r, [], _, _, h => absurd ((h a).mp List.mem_cons_self) (by simp)
  | a :: r, b :: q, h1, h2, h => by
    rw [List.map_cons, List.pairwise_cons] at h1 h2
    have low1 : ∀ c ∈ r, a.1 < c.1 := fun c hc => h1.1 _ (List.mem_map.mpr ⟨c, hc, rfl⟩)
    have low2 : ∀ c ∈ q, b.1 < c.1 := fun c hc => h2.1 _ (List.mem_map.mpr ⟨c, hc, rfl⟩)
    have e : a = b := by
      rcases List.mem_cons.mp ((h a).mp List.mem_cons_self) with z | z
      · exact z
      · rcases List.mem_cons.mp ((h b).mpr List.mem_cons_self) with y | y
        · exact y.symm
        · have := low1 b y
          have := low2 a z
          omega
    subst e
    have : r = q := asc_same h1.2 h2.2 fun c => by
      constructor
      · intro hc
        rcases List.mem_cons.mp ((h c).mp (List.mem_cons_of_mem _ hc)) with z | z
        · subst z
          have := low1 c hc
          omega
        · exact z
      · intro hc
        rcases List.mem_cons.mp ((h c).mpr (List.mem_cons_of_mem _ hc)) with z | z
        · subst z
          have := low2 c hc
          omega
        · exact z
    rw [this]
theorem IsS.uniq {f g r q : List (Int × Fx)} (h1 : IsS f r) (h2 : IsS g q) (h : ∀ k, lk f k = lk g k) : r = q := by
  refine asc_same h1.1 h2.1 fun ⟨k, x⟩ => ?_
  rw [h1.2 k x, h2.2 k x, h k]
theorem lk_mem {f : List (Int × Fx)} {k : Int} (h : lk f k ≠ (0, 1)) : k ∈ f.map (·.1) := by
  induction f with
  | nil => exact absurd rfl h
  | cons a f ih =>
    obtain ⟨j, y⟩ := a
    rw [lk_cons] at h
    by_cases q : k = j
    · simp [q]
    · rw [if_neg q] at h
      have := ih h
      simp at *
      grind
theorem isS_of {f : List (Int × Fx)} {ys : List Int} (hp : ys.Perm (f.map (·.1))) (hn : (f.map (·.1)).Nodup) (hs : ys.Pairwise (· ≤ ·)) : IsS f ((ys.filter fun k => decide (lk f k ≠ (0, 1))).map fun k => (k, lk f k)) := by
  have hn2 : ys.Nodup := hp.nodup_iff.mpr hn
  have hlt : ys.Pairwise (· < ·) := by
    have := List.Pairwise.and hs hn2
    refine this.imp ?_
    rintro a b ⟨h1, h2⟩
    omega
  constructor
  · rw [List.map_map]
    have : ((fun x : Int × Fx => x.1) ∘ fun k => (k, lk f k)) = id := rfl
    rw [this, List.map_id]
    exact hlt.filter _
  · intro k x
    rw [List.mem_map]
    constructor
    · rintro ⟨j, hj, e⟩
      injection e with e1 e2
      subst e1
      rw [List.mem_filter] at hj
      exact ⟨e2, by rw [← e2]; exact of_decide_eq_true hj.2⟩
    · rintro ⟨e, hx⟩
      subst e
      exact ⟨k, List.mem_filter.mpr ⟨hp.mem_iff.mpr (lk_mem hx), decide_eq_true hx⟩, rfl⟩
/-- a share's parts -/
def AllF (n : Nat) (xs : List (Int × Fx)) : Prop := ∀ a ∈ xs, Fr a.2 ∧ Sz n a.2
theorem fr01 : Fr ((0, 1) : Fx) := by decide
theorem sz01 {n : Nat} (h : 0 < n) : Sz n ((0, 1) : Fx) := ⟨Nat.two_pow_pos _, Nat.one_lt_two_pow (by omega)⟩
theorem zero_fadd {x : Fx} (hx : Fr x) : fadd (0, 1) x = x := by rw [fadd_comm, fadd_zero hx]
theorem lk_fr {n : Nat} {f : List (Int × Fx)} (h : AllF n f) (h0 : 0 < n) (k : Int) : Fr (lk f k) ∧ Sz n (lk f k) := by
  induction f with
  | nil => exact ⟨fr01, sz01 h0⟩
  | cons a f ih =>
    obtain ⟨j, y⟩ := a
    rw [lk_cons]
    by_cases q : k = j
    · rw [if_pos q]
      exact h _ List.mem_cons_self
    · rw [if_neg q]
      exact ih fun b hb => h b (List.mem_cons_of_mem _ hb)
theorem lk_gat : ∀ (xs f : List (Int × Fx)) (j : Int), lk (gat f xs) j = xs.foldl (fun a kx => if j = kx.1 then fadd a kx.2 else a) (lk f j)
  | [], f, j => rfl
  | (k, x) :: xs, f, j => by
    show lk (gat (ups f k (fadd (lk f k) x)) xs) j = xs.foldl _ _
    rw [lk_gat xs, lk_ups]
    by_cases h : j = k
    · subst h
      simp
    · simp [h]
theorem gat_nodup : ∀ (xs f : List (Int × Fx)), (f.map (·.1)).Nodup → ((gat f xs).map (·.1)).Nodup
  | [], _, h => h
  | (k, x) :: xs, f, h => gat_nodup xs _ (ups_nodup f k _ h)
theorem gat_len : ∀ (xs f : List (Int × Fx)), (gat f xs).length ≤ f.length + xs.length
  | [], _ => Nat.le_refl _
  | (k, x) :: xs, f => by
    have h1 := gat_len xs (ups f k (fadd (lk f k) x))
    have h2 := ups_len f k (fadd (lk f k) x)
    show (gat (ups f k (fadd (lk f k) x)) xs).length ≤ _
    rw [List.length_cons]
    omega
theorem fold_none : ∀ (xs : List (Int × Fx)) (j : Int) (a : Fx), j ∉ xs.map (·.1) → xs.foldl (fun a kx => if j = kx.1 then fadd a kx.2 else a) a = a
  | [], _, _, _ => rfl
  | (k, x) :: xs, j, a, h => by
    simp only [List.map_cons, List.mem_cons, not_or] at h
    show xs.foldl _ (if j = k then fadd a x else a) = a
    rw [if_neg h.1]
    exact fold_none xs j a h.2
theorem lk_none {xs : List (Int × Fx)} {j : Int} (h : j ∉ xs.map (·.1)) : lk xs j = (0, 1) := by
  by_cases q : lk xs j = (0, 1)
  · exact q
  · exact absurd (lk_mem q) h
/-- one more share gathered: each key's sum -/
theorem fold_nodup : ∀ (xs : List (Int × Fx)) (j : Int) (a : Fx), Fr a → (xs.map (·.1)).Nodup → xs.foldl (fun a kx => if j = kx.1 then fadd a kx.2 else a) a = fadd a (lk xs j)
  | [], j, a, ha, _ => (fadd_zero ha).symm
  | (k, x) :: xs, j, a, ha, hn => by
    simp only [List.map_cons, List.nodup_cons] at hn
    show xs.foldl _ (if j = k then fadd a x else a) = _
    rw [lk_cons]
    by_cases h : j = k
    · subst h
      rw [if_pos rfl, if_pos rfl]
      exact fold_none xs j _ hn.1
    · rw [if_neg h, if_neg h]
      exact fold_nodup xs j a ha hn.2
theorem lk_gat_nodup {xs f : List (Int × Fx)} {n : Nat} (hf : AllF n f) (h0 : 0 < n) (hn : (xs.map (·.1)).Nodup) (j : Int) : lk (gat f xs) j = fadd (lk f j) (lk xs j) := by
  rw [lk_gat, fold_nodup xs j _ (lk_fr hf h0 j).1 hn]
/-! sums -/
def fsum (l : List Fx) : Fx := l.foldl fadd (0, 1)
def scl (x : Fx) (k : Int) : Fx := low (x.1 * k) x.2
theorem scl_fr {x : Fx} (h : Fr x) (k : Int) : Fr (scl x k) := low_fr h.ne
theorem scl_sz {x : Fx} {n m : Nat} {k : Int} (h : Fr x) (z : Sz n x) (hk : k.natAbs < 2 ^ m) : Sz (n + m) (scl x k) :=
  low_sz h.ne (abs_mul_lt z.1 hk) (lt_up z.2 (by omega))
theorem scl_mul (x : Fx) (k : Int) : fmul x (k, 1) = scl x k := by
  unfold fmul scl
  simp only [Int.mul_one]
theorem fold_fr : ∀ (l : List Fx) (a : Fx), Fr a → (∀ x ∈ l, Fr x) → Fr (l.foldl fadd a)
  | [], _, h, _ => h
  | x :: l, a, h, g => fold_fr l _ (fadd_fr h (g x List.mem_cons_self)) fun y hy => g y (List.mem_cons_of_mem _ hy)
theorem fold_sz (n : Nat) : ∀ (l : List Fx) (a : Fx) (m : Nat), Fr a → Sz m a → (∀ x ∈ l, Fr x ∧ Sz n x) → Sz (m + l.length * (n + 1)) (l.foldl fadd a)
  | [], a, m, _, z, _ => z.up (by simp)
  | x :: l, a, m, h, z, g => by
    have hx := g x List.mem_cons_self
    have := fold_sz n l (fadd a x) (m + n + 1) (fadd_fr h hx.1) (fadd_sz h hx.1 z hx.2) fun y hy => g y (List.mem_cons_of_mem _ hy)
    refine this.up ?_
    rw [List.length_cons, Nat.succ_mul]
    omega
end CS
namespace CS
def ftot (xs : List (Int × Fx)) : Fx := fsum (xs.map (·.2))
def fmom (xs : List (Int × Fx)) : Fx := fsum (xs.map fun a => scl a.2 a.1)
def frest (xs : List (Int × Fx)) (k : Int) : Fx := fsum ((xs.filter fun a => decide (k < a.1)).map fun a => scl a.2 (a.1 - k))
end CS
namespace CS
theorem cfold_fr (j : Int) : ∀ (xs : List (Int × Fx)) (a : Fx), Fr a → (∀ x ∈ xs, Fr x.2) → Fr (xs.foldl (fun a kx => if j = kx.1 then fadd a kx.2 else a) a)
  | [], a, h, _ => h
  | x :: l, a, h, g => by
    refine cfold_fr j l _ ?_ fun y hy => g y (List.mem_cons_of_mem _ hy)
    show Fr (if j = x.1 then fadd a x.2 else a)
    split
    · exact fadd_fr h (g x List.mem_cons_self)
    · exact h
theorem cfold_sz (n : Nat) (j : Int) : ∀ (xs : List (Int × Fx)) (a : Fx) (m : Nat), Fr a → Sz m a → (∀ x ∈ xs, Fr x.2 ∧ Sz n x.2) → Sz (m + xs.length * (n + 1)) (xs.foldl (fun a kx => if j = kx.1 then fadd a kx.2 else a) a)
  | [], a, m, _, z, _ => z.up (by simp)
  | x :: l, a, m, h, z, g => by
    have hx := g x List.mem_cons_self
    have h2 : Fr (if j = x.1 then fadd a x.2 else a) ∧ Sz (m + n + 1) (if j = x.1 then fadd a x.2 else a) := by
      split
      · exact ⟨fadd_fr h hx.1, fadd_sz h hx.1 z hx.2⟩
      · exact ⟨h, z.up (by omega)⟩
    have := cfold_sz n j l _ (m + n + 1) h2.1 h2.2 fun y hy => g y (List.mem_cons_of_mem _ hy)
    refine this.up ?_
    rw [List.length_cons, Nat.succ_mul]
    omega
theorem gat_fr {n : Nat} {xs : List (Int × Fx)} (h : AllF n xs) (j : Int) : Fr (lk (gat [] xs) j) := by
  rw [lk_gat]
  exact cfold_fr j xs _ fr01 fun x hx => (h x hx).1
theorem gat_sz {n : Nat} {xs : List (Int × Fx)} (h : AllF n xs) (j : Int) : Sz (1 + xs.length * (n + 1)) (lk (gat [] xs) j) := by
  rw [lk_gat]
  exact cfold_sz n j xs _ 1 fr01 (sz01 (by decide)) h
theorem gat_snoc (xs : List (Int × Fx)) (f : List (Int × Fx)) (a : Int × Fx) : gat f (xs ++ [a]) = ups (gat f xs) a.1 (fadd (lk (gat f xs) a.1) a.2) := by
  unfold gat
  rw [List.foldl_append]
  rfl
theorem AllF.take {n i : Nat} {xs : List (Int × Fx)} (h : AllF n xs) : AllF n (xs.take i) := fun a ha => h a (List.mem_of_mem_take ha)
/-- what a share is -/
def Shr (xs : List (Int × Fx)) : Prop := xs.length ≤ 8 ∧ (∀ a ∈ xs, -100 ≤ a.1 ∧ a.1 ≤ 100 ∧ Fr a.2 ∧ 0 < a.2.1) ∧ (xs.map (·.1)).Pairwise (· < ·)
instance (xs : List (Int × Fx)) : Decidable (Shr xs) := by unfold Shr; infer_instance
theorem asc_zip : ∀ (ns : List Int), (List.zipWith (fun a b => decide (a < b)) ns (ns.drop 1)).all id = decide (ns.Pairwise (· < ·))
  | [] => by simp
  | [a] => by simp
  | a :: b :: ns => by
    have ih := asc_zip (b :: ns)
    simp only [List.drop_succ_cons, List.drop_zero] at *
    rw [List.zipWith_cons_cons, List.all_cons, ih, Bool.eq_iff_iff]
    simp only [id, Bool.and_eq_true, decide_eq_true_eq, List.pairwise_cons]
    constructor
    · rintro ⟨h1, h2, h3⟩
      refine ⟨?_, h2, h3⟩
      intro c hc
      rcases List.mem_cons.mp hc with q | q
      · omega
      · have := h2 c q
        omega
    · rintro ⟨h1, h2⟩
      exact ⟨h1 b List.mem_cons_self, h2⟩
end CS
set_option Elab.async false
set_option maxRecDepth 100000
set_option maxHeartbeats 4000000
set_option linter.unusedVariables false
namespace CS
open PySem L2
/-- a def of the text, how its arguments bind, where its name leads -/
structure Df (K : PySem.W.Frag) (mg : Str → Option Value) (x : Str) (st : Stmt) (ps : List Str) (f : Addr) (fd : FuncData) : Prop where
  F : Fun K x x st f fd
  b : Binds K fd ps []
  g : mg x = some (.ref f)
/-- what the walk asks of the module's names -/
structure Bt (mg : Str → Option Value) : Prop where
  gcd : mg "gcd" = some (.builtin "math.gcd")
  isinstance : mg "isinstance" = none
  int : mg "int" = none
  tuple : mg "tuple" = none
  len : mg "len" = none
  abs : mg "abs" = none
  range : mg "range" = none
  list : mg "list" = none
  sorted : mg "sorted" = none
  zip : mg "zip" = none
  all : mg "all" = none
  dict : mg "dict" = none
end CS
namespace L2
open PySem
theorem Same.tup {K : PySem.W.Frag} {H H' : Hp} {a : Addr} {xs : List V} (e : Same H H') (h : SqT K H a xs) : SqT K H' a xs := by
  rcases h with (h | ⟨o, h⟩) | h
  · exact .inl (.inl (e _ _ h))
  · exact .inl (.inr ⟨o, e _ _ h⟩)
  · exact .inr h
theorem Same.new {H : Hp} {p : Addr} {o : HO} (h : H p = none) : Same H (upd H p o) := fun b u e => by
  rw [upd_ne (ne_of_none e h)]
  exact e
end L2
namespace CS
open PySem L2
/-! promises -/
def spLow : Sp := fun vs H Q _ => ∃ t b : Int, vs = [.int t, .int b] ∧ b ≠ 0 ∧ t.natAbs < 2 ^ 4000 ∧ b.natAbs < 2 ^ 4000 ∧
  ∀ p, H p = none → Q (.ref p) (upd H p (.tup [.int (low t b).1, .int (low t b).2]))
/-- two fractions in, a new one out -/
def spF2 (K : PySem.W.Frag) (ok : Int × Int → Int × Int → Prop) (f : Int × Int → Int × Int → Int × Int) : Sp := fun vs H Q _ => ∃ p q x y, vs = [.ref p, .ref q] ∧ FT K H p x ∧ FT K H q y ∧ Fr x ∧ Fr y ∧ Sz 1900 x ∧ Sz 1900 y ∧ ok x y ∧
  ∀ r, H r = none → Q (.ref r) (upd H r (.tup [.int (f x y).1, .int (f x y).2]))
def spB2 (K : PySem.W.Frag) (f : Int × Int → Int × Int → Bool) : Sp := fun vs H Q _ => ∃ p q x y, vs = [.ref p, .ref q] ∧ FT K H p x ∧ FT K H q y ∧ Fr x ∧ Fr y ∧ Sz 1900 x ∧ Sz 1900 y ∧ Q (.bl (f x y)) H
def spWhole (K : PySem.W.Frag) : Sp := fun vs H Q _ => ∃ i : Int, vs = [.int i] ∧ Q (.bl true) H
def spRow (K : PySem.W.Frag) : Sp := fun vs H Q _ => ∃ p xs, vs = [.ref p] ∧ SqT K H p xs ∧ Q (.bl true) H
def spRowOf (K : PySem.W.Frag) : Sp := fun vs H Q _ => ∃ p xs n, vs = [.ref p, .int n] ∧ SqT K H p xs ∧ Q (.bl (decide ((xs.length : Int) = n))) H
def spIsFr (K : PySem.W.Frag) : Sp := fun vs H Q _ => ∃ p x, vs = [.ref p] ∧ FT K H p x ∧ Q (.bl (decide (Fr x))) H
def spNeedFr (K : PySem.W.Frag) : Sp := fun vs H Q _ => ∃ p x, vs = [.ref p] ∧ FT K H p x ∧ Fr x ∧ Q (.ref p) H

end CS
namespace CS
open PySem L2
/-- the pairs of a state of draws -/
def stD (c l : Addr) (k : Int) : List (Key × V) := [(Sum.inr "cells", .ref c), (Sum.inr "lefts", .ref l), (Sum.inr "at", .int k), (Sum.inr "room", .int 0)]
theorem kn1 : ¬ (("cells" : Str) = "lefts") := by decide +kernel
theorem kn2 : ¬ (("cells" : Str) = "at") := by decide +kernel
theorem kn3 : ¬ (("cells" : Str) = "room") := by decide +kernel
theorem kn4 : ¬ (("lefts" : Str) = "at") := by decide +kernel
theorem kn5 : ¬ (("lefts" : Str) = "room") := by decide +kernel
theorem kn6 : ¬ (("at" : Str) = "room") := by decide +kernel
theorem kn7 : ¬ (("room" : Str) = "at") := by decide +kernel
theorem stD_cells (c l : Addr) (k : Int) : valV (stD c l k) (Sum.inr ("cells" : Str)) = some (.ref c) := valV_pos rfl
theorem stD_lefts (c l : Addr) (k : Int) : valV (stD c l k) (Sum.inr ("lefts" : Str)) = some (.ref l) := by
  simp [stD, valV, List.find?_cons, kn1]
theorem stD_at (c l : Addr) (k : Int) : valV (stD c l k) (Sum.inr ("at" : Str)) = some (.int k) := by
  simp [stD, valV, List.find?_cons, kn2, kn4]
theorem stD_put (c l : Addr) (k k' : Int) : putK (stD c l k) (Sum.inr ("at" : Str)) (.int k') = stD c l k' := by
  simp [stD, putK, kn2, kn4, kn7]
theorem stD_make (c l : Addr) : mergeK [] [((Sum.inr ("cells" : Str) : Key), V.ref c), (Sum.inr ("lefts" : Str), .ref l), (Sum.inr ("at" : Str), .int 0), (Sum.inr ("room" : Str), .int 0)] = stD c l 0 := by
  simp [mergeK, putK, stD, kn1, kn2, kn3, kn4, kn5, kn6]
/-- a state of draws, k of them done -/
structure StAt (H : Hp) (d c l : Addr) (k : Nat) : Prop where
  hd : H d = some (.dK (stD c l k))
  ne : c ≠ l
  ex : ∃ cs ls : List Int, H c = some (.lst (cs.map V.int)) ∧ H l = some (.lst (ls.map V.int)) ∧ cs.length = ls.length ∧ 0 < cs.length ∧ cs.length ≤ 64 ∧ ∀ v ∈ ls, 0 ≤ v
/-- what does not belong to the state is as it was -/
def Fm (d l : Addr) (H H' : Hp) : Prop := ∀ b o, H b = some o → b ≠ d → b ≠ l → H' b = some o
theorem Fm.refl (d l : Addr) (H : Hp) : Fm d l H H := fun _ _ e _ _ => e
theorem Fm.trans {d l : Addr} {H H1 H2 : Hp} (a : Fm d l H H1) (b : Fm d l H1 H2) : Fm d l H H2 := fun c o h n m => b c o (a c o h n m) n m
theorem Fm.same {d l : Addr} {H H1 H2 : Hp} (a : Fm d l H H1) (b : Same H1 H2) : Fm d l H H2 := fun c o h n m => b c o (a c o h n m)
theorem same_fm {d l : Addr} {H H1 : Hp} (a : Same H H1) : Fm d l H H1 := fun c o h _ _ => a c o h
theorem StAt.same {H H' : Hp} {d c l : Addr} {k : Nat} (S : StAt H d c l k) (e : Same H H') : StAt H' d c l k := by
  obtain ⟨hd, ne, cs, ls, h1, h2, r⟩ := S
  exact ⟨e _ _ hd, ne, cs, ls, e _ _ h1, e _ _ h2, r⟩
/-- a tuple that stood stands -/
theorem Fm.tup {K : PySem.W.Frag} {H H' : Hp} {d c l p : Addr} {k : Nat} {xs : List V} (e : Fm d l H H') (S : StAt H d c l k) (h : SqT K H p xs) : SqT K H' p xs := by
  obtain ⟨hd, ne, cs, ls, h1, h2, r⟩ := S
  rcases h with (h | ⟨o, h⟩) | h
  · exact .inl (.inl (e _ _ h (fun q => by subst q; rw [hd] at h; cases h) (fun q => by subst q; rw [h2] at h; cases h)))
  · exact .inl (.inr ⟨o, e _ _ h (fun q => by subst q; rw [hd] at h; cases h) (fun q => by subst q; rw [h2] at h; cases h)⟩)
  · exact .inr h
def spMixed : Sp := fun vs H Q _ => ∃ c k : Int, vs = [.int c, .int k] ∧ 0 ≤ k ∧ k ≤ 1000000 ∧ ∀ r : Int, 0 ≤ r → r < 2147483629 → Q (.int r) H
def spBegin (K : PySem.W.Frag) : Sp := fun vs H Q _ => ∃ (a : Addr) (ns : List Int), vs = [.ref a] ∧ SqL K H a (ns.map V.int) ∧ ns.length ≤ 63 ∧ ∀ d c l H', H d = none → Same H H' → StAt H' d c l 0 → Q (.ref d) H'
def spDraw : Sp := fun vs H Q _ => ∃ (d c l : Addr) (k : Nat) (m : Int), vs = [.ref d, .int m] ∧ StAt H d c l k ∧ 0 < m ∧ m.natAbs < 2 ^ 200 ∧ k ≤ 100000 ∧ ∀ r H', 0 ≤ r → r < m → StAt H' d c l (k + 1) → Fm d l H H' → Q (.int r) H'

end CS
namespace CS
open PySem L2
def spLowP : Sp := fun vs H Q _ => ∃ t b : Int, vs = [.int t, .int b] ∧ 0 < b ∧ t.natAbs < 2 ^ 4000 ∧ b.natAbs < 2 ^ 4000 ∧
  ∀ p, H p = none → Q (.ref p) (upd H p (.tup [.int (low t b).1, .int (low t b).2]))
def spDrawn (K : PySem.W.Frag) : Sp := fun vs H Q _ => ∃ (d c l : Addr) (k : Nat), vs = [.ref d] ∧ StAt H d c l k ∧ k ≤ 90000 ∧
  ∀ p H' x, Fr x → Sz 70 x → StAt H' d c l (k + 3) → Fm d l H H' → FT K H' p x → Q (.ref p) H'

end CS
namespace CS
open PySem L2
section
variable {K : PySem.W.Frag}
theorem eqv2 (x : Int × Int) : PyData.eqv (.tuple [.int x.1, .int x.2]) (.tuple [.int x.1, .int x.2]) = true := by
  simp [PyData.eqv, PyData.eqvAll]
theorem ne_same {H : Hp} {p q : Addr} {x y : Int × Int} {Q : VK} (hp : FT K H p x) (hq : FT K H q y) (e : x = y) (h : Q (.bl false) H) : rNeD K (.ref p) (.ref q) H Q := by
  subst e
  refine ⟨.tuple [.int x.1, .int x.2], .tuple [.int x.1, .int x.2], .tup hp (.cons (.int _) (.cons (.int _) .nil)), .tup hq (.cons (.int _) (.cons (.int _) .nil)), rfl, rfl, ?_⟩
  rw [eqv2]
  exact h
theorem eq_same {H : Hp} {p q : Addr} {x y : Int × Int} {Q : VK} (hp : FT K H p x) (hq : FT K H q y) (e : x = y) (h : Q (.bl true) H) : rEqD K (.ref p) (.ref q) H Q := by
  subst e
  refine ⟨.tuple [.int x.1, .int x.2], .tuple [.int x.1, .int x.2], .tup hp (.cons (.int _) (.cons (.int _) .nil)), .tup hq (.cons (.int _) (.cons (.int _) .nil)), rfl, rfl, ?_⟩
  rw [eqv2]
  exact h
theorem FT.new {H : Hp} {r : Addr} {x : Int × Int} : FT K (upd H r (.tup [.int x.1, .int x.2])) r x := SqT.of upd_same
theorem abs_if (z : Int) : (if z < 0 then -z else z) = ((z.natAbs : Nat) : Int) := by split <;> omega
end
/-! shares in the heap -/
/-- refs to pairs of a number and a fraction -/
inductive PrsAt (K : PySem.W.Frag) (H : Hp) : List V → List (Int × Fx) → Prop where
  | nil : PrsAt K H [] []
  | cons {q r : Addr} {m : Int} {x : Fx} {vs : List V} {xs : List (Int × Fx)} (h1 : SqT K H q [.int m, .ref r]) (h2 : FT K H r x) (h3 : PrsAt K H vs xs) : PrsAt K H (.ref q :: vs) ((m, x) :: xs)
def ShAt (K : PySem.W.Frag) (H : Hp) (p : Addr) (xs : List (Int × Fx)) : Prop := ∃ vs, SqT K H p vs ∧ PrsAt K H vs xs
/-- refs to fractions -/
inductive FsAt (K : PySem.W.Frag) (H : Hp) : List V → List Fx → Prop where
  | nil : FsAt K H [] []
  | cons {r : Addr} {x : Fx} {vs : List V} {xs : List Fx} (h2 : FT K H r x) (h3 : FsAt K H vs xs) : FsAt K H (.ref r :: vs) (x :: xs)
section
variable {K : PySem.W.Frag} {H H' : Hp}
/-- what keeps tuples -/
def TK (K : PySem.W.Frag) (H H' : Hp) : Prop := ∀ (p : Addr) (xs : List V), SqT K H p xs → SqT K H' p xs
theorem tk_same (e : Same H H') : TK K H H' := fun _ _ h => e.tup h
theorem tk_fm {d c l : Addr} {k : Nat} (e : Fm d l H H') (S : StAt H d c l k) : TK K H H' := fun _ _ h => e.tup S h
theorem TK.trans {H1 : Hp} (a : TK K H H1) (b : TK K H1 H') : TK K H H' := fun p xs h => b p xs (a p xs h)
theorem PrsAt.tk (e : TK K H H') : ∀ {vs : List V} {xs : List (Int × Fx)}, PrsAt K H vs xs → PrsAt K H' vs xs
  | _, _, .nil => .nil
  | _, _, .cons a b c => .cons (e _ _ a) (e _ _ b) (PrsAt.tk e c)
theorem ShAt.tk {p : Addr} {xs : List (Int × Fx)} (e : TK K H H') (h : ShAt K H p xs) : ShAt K H' p xs := by
  obtain ⟨vs, a, b⟩ := h
  exact ⟨vs, e _ _ a, b.tk e⟩
theorem FsAt.tk (e : TK K H H') : ∀ {vs : List V} {xs : List Fx}, FsAt K H vs xs → FsAt K H' vs xs
  | _, _, .nil => .nil
  | _, _, .cons a b => .cons (e _ _ a) (FsAt.tk e b)
theorem PrsAt.len : ∀ {vs : List V} {xs : List (Int × Fx)}, PrsAt K H vs xs → vs.length = xs.length
  | _, _, .nil => rfl
  | _, _, .cons _ _ c => by simp [c.len]
theorem FsAt.len : ∀ {vs : List V} {xs : List Fx}, FsAt K H vs xs → vs.length = xs.length
  | _, _, .nil => rfl
  | _, _, .cons _ c => by simp [c.len]
theorem PrsAt.get : ∀ {vs : List V} {xs : List (Int × Fx)} {i : Nat} {v : V}, PrsAt K H vs xs → vs[i]? = some v → ∃ q r m x, v = .ref q ∧ xs[i]? = some (m, x) ∧ SqT K H q [.int m, .ref r] ∧ FT K H r x
  | _, _, 0, _, .cons a b c, e => by
    cases e
    exact ⟨_, _, _, _, rfl, rfl, a, b⟩
  | _, _, i + 1, _, .cons a b c, e => by
    obtain ⟨q, r, m, x, h1, h2, h3, h4⟩ := PrsAt.get c (by simpa using e)
    exact ⟨q, r, m, x, h1, by simpa using h2, h3, h4⟩
theorem FsAt.get : ∀ {vs : List V} {xs : List Fx} {i : Nat} {v : V}, FsAt K H vs xs → vs[i]? = some v → ∃ r x, v = .ref r ∧ xs[i]? = some x ∧ FT K H r x
  | _, _, 0, _, .cons a b, e => by
    cases e
    exact ⟨_, _, rfl, rfl, a⟩
  | _, _, i + 1, _, .cons a c, e => by
    obtain ⟨r, x, h1, h2, h4⟩ := FsAt.get c (by simpa using e)
    exact ⟨r, x, h1, by simpa using h2, h4⟩
theorem PrsAt.app {vs ws : List V} {xs ys : List (Int × Fx)} (a : PrsAt K H vs xs) (b : PrsAt K H ws ys) : PrsAt K H (vs ++ ws) (xs ++ ys) := by
  induction a with
  | nil => exact b
  | cons h1 h2 h3 ih => exact .cons h1 h2 ih
theorem FsAt.app {vs ws : List V} {xs ys : List Fx} (a : FsAt K H vs xs) (b : FsAt K H ws ys) : FsAt K H (vs ++ ws) (xs ++ ys) := by
  induction a with
  | nil => exact b
  | cons h1 h3 ih => exact .cons h1 ih
/-! shares as data -/
def prD (a : Int × Fx) : PyData := .tuple [.int a.1, .tuple [.int a.2.1, .int a.2.2]]
def shD (xs : List (Int × Fx)) : PyData := .tuple (xs.map prD)
theorem PrsAt.dp : ∀ {vs : List V} {xs : List (Int × Fx)}, PrsAt K H vs xs → DpAll K H vs (xs.map prD)
  | _, _, .nil => .nil
  | _, _, .cons a b c => .cons (.tup a (.cons (.int _) (.cons (.tup b (.cons (.int _) (.cons (.int _) .nil))) .nil))) c.dp
theorem ShAt.dp {p : Addr} {xs : List (Int × Fx)} (h : ShAt K H p xs) : Dp K H (.ref p) (shD xs) := by
  obtain ⟨vs, a, b⟩ := h
  exact .tup a b.dp
theorem cl1 : ∀ xs : List (Int × Fx), PyData.canLayAll0 (xs.map prD) = true
  | [] => rfl
  | n :: ns => by
    show (PyData.canLay0 (prD n) && PyData.canLayAll0 (ns.map prD)) = true
    rw [cl1 ns]
    rfl
theorem dp1 : ∀ xs : List (Int × Fx), PyData.depthAll (xs.map prD) ≤ 2
  | [] => by decide
  | n :: ns => by
    have := dp1 ns
    simp [PyData.depthAll, PyData.depth, prD] at *
    omega
theorem shShaped (xs : List (Int × Fx)) : SeqAt.shaped (shD xs) = true := by
  have h1 := cl1 xs
  have h2 := dp1 xs
  simp [SeqAt.shaped, PyData.canLay0, PyData.depth, h1, shD]
  omega
theorem eqvPr (a b : Int × Fx) : PyData.eqv (prD a) (prD b) = decide (a = b) := by
  obtain ⟨m, x, y⟩ := a
  obtain ⟨n, z, w⟩ := b
  simp only [prD, PyData.eqv, PyData.eqvAll, Bool.and_true]
  by_cases h1 : m = n <;> by_cases h2 : x = z <;> by_cases h3 : y = w <;> simp [h1, h2, h3]
theorem eqvPrs : ∀ xs ys : List (Int × Fx), PyData.eqvAll (xs.map prD) (ys.map prD) = decide (xs = ys)
  | [], [] => by simp [PyData.eqvAll]
  | [], _ :: _ => by simp [PyData.eqvAll]
  | _ :: _, [] => by simp [PyData.eqvAll]
  | a :: xs, b :: ys => by
    simp only [List.map_cons, PyData.eqvAll, eqvPr, eqvPrs xs ys]
    by_cases h1 : a = b <;> by_cases h2 : xs = ys <;> simp [h1, h2]
theorem eqvSh (xs ys : List (Int × Fx)) : PyData.eqv (shD xs) (shD ys) = decide (xs = ys) := eqvPrs xs ys
theorem shNe {p q : Addr} {xs ys : List (Int × Fx)} {Q : VK} (hp : ShAt K H p xs) (hq : ShAt K H q ys) (h : Q (.bl (!decide (xs = ys))) H) : rNeD K (.ref p) (.ref q) H Q :=
  ⟨shD xs, shD ys, hp.dp, hq.dp, shShaped _, shShaped _, by rw [eqvSh]; exact h⟩
theorem shEq {p q : Addr} {xs ys : List (Int × Fx)} {Q : VK} (hp : ShAt K H p xs) (hq : ShAt K H q ys) (h : Q (.bl (decide (xs = ys))) H) : rEqD K (.ref p) (.ref q) H Q :=
  ⟨shD xs, shD ys, hp.dp, hq.dp, shShaped _, shShaped _, by rw [eqvSh]; exact h⟩
theorem eqvF (x y : Fx) : PyData.eqv (.tuple [.int x.1, .int x.2]) (.tuple [.int y.1, .int y.2]) = decide (x = y) := by
  obtain ⟨a, b⟩ := x
  obtain ⟨c, d⟩ := y
  simp only [PyData.eqv, PyData.eqvAll, Bool.and_true]
  by_cases h1 : a = c <;> by_cases h2 : b = d <;> simp [h1, h2]
def frD (x : Fx) : PyData := .tuple [.int x.1, .int x.2]
theorem ftDp {p : Addr} {x : Fx} (h : FT K H p x) : Dp K H (.ref p) (frD x) := .tup h (.cons (.int _) (.cons (.int _) .nil))
theorem eqvFr (x y : Fx) : PyData.eqv (frD x) (frD y) = decide (x = y) := eqvF x y
theorem ftNe {p q : Addr} {x y : Fx} {Q : VK} (hp : FT K H p x) (hq : FT K H q y) (h : Q (.bl (!decide (x = y))) H) : rNeD K (.ref p) (.ref q) H Q :=
  ⟨.tuple [.int x.1, .int x.2], .tuple [.int y.1, .int y.2], .tup hp (.cons (.int _) (.cons (.int _) .nil)), .tup hq (.cons (.int _) (.cons (.int _) .nil)), rfl, rfl, by rw [eqvF]; exact h⟩
/-! tables from numbers to fractions -/
inductive DPr (K : PySem.W.Frag) (H : Hp) : List (Key × V) → List (Int × Fx) → Prop where
  | nil : DPr K H [] []
  | cons {k : Int} {r : Addr} {x : Fx} {kvs : List (Key × V)} {f : List (Int × Fx)} (h : FT K H r x) (t : DPr K H kvs f) : DPr K H ((Sum.inl k, .ref r) :: kvs) ((k, x) :: f)
theorem DPr.tk (e : TK K H H') : ∀ {kvs : List (Key × V)} {f : List (Int × Fx)}, DPr K H kvs f → DPr K H' kvs f
  | _, _, .nil => .nil
  | _, _, .cons a b => .cons (e _ _ a) (DPr.tk e b)
theorem DPr.keys : ∀ {kvs : List (Key × V)} {f : List (Int × Fx)}, DPr K H kvs f → kvs.map (·.1) = (f.map (·.1)).map Sum.inl
  | _, _, .nil => rfl
  | _, _, .cons _ b => by simp [b.keys]
theorem DPr.len {kvs : List (Key × V)} {f : List (Int × Fx)} (h : DPr K H kvs f) : kvs.length = f.length := by
  have := congrArg List.length h.keys
  simpa using this
theorem DPr.val : ∀ {kvs : List (Key × V)} {f : List (Int × Fx)}, DPr K H kvs f → ∀ k : Int, k ∈ f.map (·.1) → ∃ r, valV kvs (Sum.inl k : Key) = some (.ref r) ∧ FT K H r (lk f k)
  | _, _, .nil, k, hm => by cases hm
  | _, _, @DPr.cons _ _ j r x kvs f a b, k, hm => by
    by_cases h : k = j
    · subst h
      refine ⟨r, valV_pos rfl, ?_⟩
      rw [lk_cons, if_pos rfl]
      exact a
    · have hm2 : k ∈ f.map (·.1) := by
        simp only [List.map_cons, List.mem_cons] at hm
        rcases hm with q | q
        · exact absurd q h
        · exact q
      obtain ⟨r', h1, h2⟩ := b.val k hm2
      refine ⟨r', ?_, ?_⟩
      · rw [valV_neg (by intro z; exact h (Sum.inl.inj z).symm)]
        exact h1
      · rw [lk_cons, if_neg h]
        exact h2
theorem DPr.non : ∀ {kvs : List (Key × V)} {f : List (Int × Fx)}, DPr K H kvs f → ∀ k : Int, k ∉ f.map (·.1) → valV kvs (Sum.inl k : Key) = none
  | _, _, .nil, k, hm => rfl
  | _, _, @DPr.cons _ _ j r x kvs f a b, k, hm => by
    simp only [List.map_cons, List.mem_cons, not_or] at hm
    rw [valV_neg (by intro z; exact hm.1 (Sum.inl.inj z).symm)]
    exact b.non k hm.2
theorem putK_c1 {k : Key} {u v : V} {kvs : List (Key × V)} (hn : ∀ p ∈ kvs, p.1 ≠ k) : putK ((k, u) :: kvs) k v = (k, v) :: kvs := by
  unfold putK
  have : (((k, u) :: kvs).any fun kv => decide (kv.1 = k)) = true := by simp
  rw [if_pos this]
  simp only [List.map_cons, if_pos]
  congr 1
  conv => rhs; rw [← List.map_id kvs]
  apply List.map_congr_left
  intro p hp
  simp [hn p hp]
theorem putK_c2 {j k : Key} {u v : V} {kvs : List (Key × V)} (h : j ≠ k) : putK ((j, u) :: kvs) k v = (j, u) :: putK kvs k v := by
  unfold putK
  by_cases q : (kvs.any fun kv => decide (kv.1 = k)) = true
  · have : (((j, u) :: kvs).any fun kv => decide (kv.1 = k)) = true := by simp only [List.any_cons, q, Bool.or_true]
    rw [if_pos this, if_pos q]
    simp [h]
  · have : ¬ (((j, u) :: kvs).any fun kv => decide (kv.1 = k)) = true := by
      simp only [List.any_cons, Bool.or_eq_true, not_or]
      exact ⟨by simp [h], q⟩
    rw [if_neg this, if_neg q]
    rfl
theorem DPr.put {kvs : List (Key × V)} {f : List (Int × Fx)} (h : DPr K H kvs f) (hn : (f.map (·.1)).Nodup) {k : Int} {r : Addr} {x : Fx} (hr : FT K H r x) : DPr K H (putK kvs (Sum.inl k : Key) (.ref r)) (ups f k x) := by
  induction h with
  | nil =>
    show DPr K H [(Sum.inl k, .ref r)] [(k, x)]
    exact .cons hr .nil
  | @cons j r' y kvs f a b ih =>
    rw [List.map_cons, List.nodup_cons] at hn
    by_cases q : j = k
    · subst q
      rw [putK_c1 (by
        intro p hp e
        have : p.1 ∈ kvs.map (·.1) := List.mem_map.mpr ⟨p, hp, rfl⟩
        rw [b.keys, e] at this
        obtain ⟨z, hz, ez⟩ := List.mem_map.mp this
        exact hn.1 ((Sum.inl.inj ez) ▸ hz))]
      have : ups ((j, y) :: f) j x = (j, x) :: f := by simp [ups]
      rw [this]
      exact .cons hr b
    · rw [putK_c2 (by intro z; exact q (Sum.inl.inj z))]
      have : ups ((j, y) :: f) k x = (j, y) :: ups f k x := by simp [ups, q]
      rw [this]
      exact .cons a (ih hn.2)
end
section
variable {K : PySem.W.Frag} {H H4 : Hp} {D : Addr}
theorem tk_lst {xs ys : List V} (h : H D = some (.lst xs)) : TK K H (upd H D (.lst ys)) := fun p zs hp => by
  rcases hp with (hp | ⟨o, hp⟩) | hp
  · exact .inl (.inl (by rw [upd_ne (fun z => by rw [z, h] at hp; cases hp)]; exact hp))
  · exact .inl (.inr ⟨o, by rw [upd_ne (fun z => by rw [z, h] at hp; cases hp)]; exact hp⟩)
  · exact .inr hp
theorem tk_dk {xs ys : List (Key × V)} (h : H D = some (.dK xs)) : TK K H (upd H D (.dK ys)) := fun p zs hp => by
  rcases hp with (hp | ⟨o, hp⟩) | hp
  · exact .inl (.inl (by rw [upd_ne (fun z => by rw [z, h] at hp; cases hp)]; exact hp))
  · exact .inl (.inr ⟨o, by rw [upd_ne (fun z => by rw [z, h] at hp; cases hp)]; exact hp⟩)
  · exact .inr hp
theorem same_upd {H0 : Hp} {o : HO} (h0 : H0 D = none) (s : Same H0 H4) : Same H0 (upd H4 D o) := fun b u e => by
  rw [upd_ne (ne_of_none e h0)]
  exact s b u e
/-- a list of fractions that is being made at D -/
def LcF (K : PySem.W.Frag) (H : Hp) (D : Addr) (zs : List Fx) (H' : Hp) : Prop := ∃ ws, H' D = some (.lst ws) ∧ Same H H' ∧ FsAt K H' ws zs
theorem LcF.start (h : H D = none) : LcF K H D [] (upd H D (.lst [])) := ⟨[], upd_same, Same.new h, .nil⟩
theorem LcF.step {zs : List Fx} {ws : List V} {y : Addr} {x : Fx} (h0 : H D = none) (h1 : H4 D = some (.lst ws)) (s : Same H H4) (f : FsAt K H4 ws zs) (hx : FT K H4 y x) : LcF K H D (zs ++ [x]) (upd H4 D (.lst (ws ++ [.ref y]))) :=
  ⟨_, upd_same, same_upd h0 s, (f.app (.cons hx .nil)).tk (tk_lst h1)⟩
/-- a list of pairs that is being made at D -/
def LcP (K : PySem.W.Frag) (H : Hp) (D : Addr) (zs : List (Int × Fx)) (H' : Hp) : Prop := ∃ ws, H' D = some (.lst ws) ∧ Same H H' ∧ PrsAt K H' ws zs
theorem LcP.start (h : H D = none) : LcP K H D [] (upd H D (.lst [])) := ⟨[], upd_same, Same.new h, .nil⟩
theorem LcP.step {zs : List (Int × Fx)} {ws : List V} {q r : Addr} {m : Int} {x : Fx} (h0 : H D = none) (h1 : H4 D = some (.lst ws)) (s : Same H H4) (f : PrsAt K H4 ws zs) (hq : SqT K H4 q [.int m, .ref r]) (hx : FT K H4 r x) :
    LcP K H D (zs ++ [(m, x)]) (upd H4 D (.lst (ws ++ [.ref q]))) :=
  ⟨_, upd_same, same_upd h0 s, (f.app (.cons hq hx .nil)).tk (tk_lst h1)⟩
theorem take_snoc {α : Type} {l : List α} {i : Nat} {a : α} (h : l[i]? = some a) : l.take (i + 1) = l.take i ++ [a] := by
  rw [List.take_add_one, h]
  rfl
theorem small {n : Nat} (h : n ≤ 1000) : n ≤ sizeLine := Nat.le_of_lt (small1000 h)
end
/-! promises -/
def spScaled (K : PySem.W.Frag) : Sp := fun vs H Q _ => ∃ p x k, vs = [.ref p, .int k] ∧ FT K H p x ∧ Fr x ∧ Sz 1900 x ∧ k.natAbs < 2 ^ 20 ∧ ∀ r, H r = none → Q (.ref r) (upd H r (.tup [.int (scl x k).1, .int (scl x k).2]))
def spSum (K : PySem.W.Frag) : Sp := fun vs H Q _ => ∃ a ws xs, vs = [.ref a] ∧ SqL K H a ws ∧ FsAt K H ws xs ∧ (∀ x ∈ xs, Fr x ∧ Sz 100 x) ∧ xs.length ≤ 16 ∧ ∀ H' p, Same H H' → FT K H' p (fsum xs) → Q (.ref p) H'
/-- of a share: a fraction -/
def spShF (K : PySem.W.Frag) (f : List (Int × Fx) → Fx) : Sp := fun vs H Q _ => ∃ p xs, vs = [.ref p] ∧ ShAt K H p xs ∧ AllF 90 xs ∧ (∀ a ∈ xs, a.1.natAbs ≤ 200) ∧ xs.length ≤ 16 ∧ ∀ H' r, Same H H' → FT K H' r (f xs) → Q (.ref r) H'
def spShFk (K : PySem.W.Frag) (f : List (Int × Fx) → Int → Fx) : Sp := fun vs H Q _ => ∃ p xs k, vs = [.ref p, .int k] ∧ ShAt K H p xs ∧ AllF 90 xs ∧ (∀ a ∈ xs, a.1.natAbs ≤ 200) ∧ k.natAbs ≤ 200 ∧ xs.length ≤ 16 ∧ ∀ H' r, Same H H' → FT K H' r (f xs k) → Q (.ref r) H'
end CS
set_option Elab.async false
set_option maxRecDepth 100000
set_option maxHeartbeats 4000000
set_option linter.unusedVariables false
namespace CS
open PySem L2
def top (i : Nat) : Stmt := PySem.Challenge.pw_curtainsteps_k10_kind_papers_judged.main.body.getD i (.Pass ⟨0, 0, 0, 0⟩)
abbrev sSteperror : Stmt := top 2
abbrev sBadPaper : Stmt := top 3
abbrev sBadshare : Stmt := top 4
abbrev sBadCosts : Stmt := top 5
abbrev sIsWhole : Stmt := top 8
abbrev sIsWord : Stmt := top 9
abbrev sIsRow : Stmt := top 10
abbrev sIsRowOf : Stmt := top 11
abbrev sIsWholeWithin : Stmt := top 12
abbrev sIsNumber : Stmt := top 13
abbrev sIsFraction : Stmt := top 14
abbrev sIsWeight : Stmt := top 15
abbrev sAscends : Stmt := top 16
abbrev sIsSharePair : Stmt := top 17
abbrev sIsShare : Stmt := top 18
abbrev sHasSort : Stmt := top 19
abbrev sNeedShare : Stmt := top 21
abbrev sIsCostRow : Stmt := top 23
abbrev sNeedCosts : Stmt := top 24
abbrev sBow : Stmt := top 29
abbrev sBends : Stmt := top 30
abbrev sBendsUp : Stmt := top 31
abbrev sKindPaper : Stmt := top 32
abbrev sIsAsTold : Stmt := top 33
abbrev sCheckKind : Stmt := top 34
abbrev sMixed : Stmt := top 36
abbrev sBegin : Stmt := top 37
abbrev sDraw : Stmt := top 38
abbrev sLawRatio : Stmt := top 39
abbrev sLawHeft : Stmt := top 40
abbrev sLawMarks : Stmt := top 41
abbrev sLawShare : Stmt := top 42
abbrev sLawIsInt : Stmt := top 43
abbrev sLawCosts : Stmt := top 44
abbrev sLawBends : Stmt := top 45
abbrev sLawDue : Stmt := top 46
abbrev sLawHeard : Stmt := top 47
abbrev sLawBent : Stmt := top 48
abbrev sLaw : Stmt := top 49
section
variable {P : Program} {w : World} {K : PySem.W.Frag} {mg : Str → Option Value} {base : Heap}
theorem scIsWhole : FnScope ["thing"] ["thing"] (defScope sIsWhole) := ⟨rfl, rfl, rfl, by decide +kernel, rfl, by decide +kernel, by decide +kernel⟩
theorem ok_is_whole {f : Addr} {fd : FuncData} (F : Df K mg "is_whole" sIsWhole ["thing"] f fd) (T : Bt mg) : FnOk P w K mg base CX0 1 f fd ["thing"] (spWhole K) := by
  refine F.F.ok scIsWhole (fun vs H Q E h => ?_) (fun cdv A outer s H vs Q E hr h => ?_)
  · obtain ⟨i, rfl, _⟩ := h
    rfl
  · obtain ⟨i, rfl, k⟩ := h
    refine ⟨_, pss_one (ps_ret (pe_and (pe_callB call_isi (by rfl) T.isinstance (by decide +kernel) (pa_cons (pv 0) (pa_cons (pe_bltn (v := .ty "int") (by rfl) T.int (by decide +kernel) rfl) pa_nil))) (pe_one (pe_cmpR op_eq (pe_cn (pv 0)) pe_str (nomark _))))), ?_⟩
    refine ⟨_, rfl, _, _, _, _, true, rfl, .ty _, .base (.int i), kit_ty (a := "int") (b := "int") (by decide +kernel), _, rfl, iteT ?_⟩
    refine ⟨_, rfl, _, .int i, rfl, ?_⟩
    exact k
theorem scIsRow : FnScope ["thing"] ["thing"] (defScope sIsRow) := ⟨rfl, rfl, rfl, by decide +kernel, rfl, by decide +kernel, by decide +kernel⟩
theorem TyX.of_tup {K : PySem.W.Frag} {H : Hp} {p : Addr} {xs : List V} (h : SqT K H p xs) : TyX K H (.ref p) (.type "tuple") := by
  rcases h with (h | ⟨o, h⟩) | ⟨o, its, n, h, c, _⟩
  · exact .base (.tup h)
  · exact .fTuple h
  · exact .kTuple h c
theorem ok_is_row {f : Addr} {fd : FuncData} (F : Df K mg "is_row" sIsRow ["thing"] f fd) (T : Bt mg) : FnOk P w K mg base CX0 1 f fd ["thing"] (spRow K) := by
  refine F.F.ok scIsRow (fun vs H Q E h => ?_) (fun cdv A outer s H vs Q E hr h => ?_)
  · obtain ⟨i, xs, rfl, _⟩ := h
    rfl
  · obtain ⟨i, xs, rfl, hp, k⟩ := h
    refine ⟨_, pss_one (ps_ret (pe_and (pe_callB call_isi (by rfl) T.isinstance (by decide +kernel) (pa_cons (pv 0) (pa_cons (pe_bltn (v := .ty "tuple") (by rfl) T.tuple (by decide +kernel) rfl) pa_nil))) (pe_one (pe_cmpR op_eq (pe_cn (pv 0)) pe_str (nomark _))))), ?_⟩
    refine ⟨_, rfl, _, _, _, _, true, rfl, .ty _, TyX.of_tup hp, kit_ty (a := "tuple") (b := "tuple") (by decide +kernel), _, rfl, iteT ?_⟩
    refine ⟨_, rfl, _, .tup hp, rfl, ?_⟩
    exact k
theorem scIsRowOf : FnScope ["thing", "many"] ["thing", "many"] (defScope sIsRowOf) := ⟨rfl, rfl, rfl, by decide +kernel, rfl, by decide +kernel, by decide +kernel⟩
theorem ok_is_row_of {f f1 : Addr} {fd fd1 : FuncData} (F : Df K mg "is_row_of" sIsRowOf ["thing", "many"] f fd) (F1 : Df K mg "is_row" sIsRow ["thing"] f1 fd1) (T : Bt mg) : FnOk P w K mg base CX0 2 f fd ["thing", "many"] (spRowOf K) := by
  have G1 : FnOk P w K mg base CX0 1 f1 fd1 ["thing"] (spRow K) := ok_is_row F1 T
  refine F.F.ok scIsRowOf (fun vs H Q E h => ?_) (fun cdv A outer s H vs Q E hr h => ?_)
  · obtain ⟨i, xs, n, rfl, _⟩ := h
    rfl
  · obtain ⟨i, xs, n, rfl, hp, k⟩ := h
    refine ⟨_, pss_one (ps_ret (pe_and (pe_call G1 hr (by rfl) F1.g F1.F.kp F1.b .nil pass0 (pa_cons (pv 0) pa_nil)) (pe_one (pe_cmpR op_eq (pe_callB call_len_seq (by rfl) T.len PySem.boot_len (pa_cons (pv 0) pa_nil)) (pv 1) (nomark _))))), ?_⟩
    refine ⟨_, rfl, _, _, rfl, hp, _, rfl, iteT ?_⟩
    refine ⟨_, rfl, _, _, rfl, .inr hp, _, rfl, rfl, ?_⟩
    have e : decide (V.int (xs.length : Int) = V.int n) = decide ((xs.length : Int) = n) := by
      rw [decide_eq_decide]
      constructor
      · intro h; injection h
      · intro h; rw [h]
    rw [e]
    exact k
theorem scIsFraction : FnScope ["thing"] ["thing"] (defScope sIsFraction) := ⟨rfl, rfl, rfl, by decide +kernel, rfl, by decide +kernel, by decide +kernel⟩
theorem ok_is_fraction {f f1 f2 f3 : Addr} {fd fd1 fd2 fd3 : FuncData} (F : Df K mg "is_fraction" sIsFraction ["thing"] f fd) (F1 : Df K mg "is_row_of" sIsRowOf ["thing", "many"] f1 fd1) (F2 : Df K mg "is_row" sIsRow ["thing"] f2 fd2)
    (F3 : Df K mg "is_whole" sIsWhole ["thing"] f3 fd3) (T : Bt mg) : FnOk P w K mg base CX0 3 f fd ["thing"] (spIsFr K) := by
  have G1 : FnOk P w K mg base CX0 2 f1 fd1 ["thing", "many"] (spRowOf K) := ok_is_row_of F1 F2 T
  have G3 : FnOk P w K mg base CX0 1 f3 fd3 ["thing"] (spWhole K) := ok_is_whole F3 T
  refine F.F.ok scIsFraction (fun vs H Q E h => ?_) (fun cdv A outer s H vs Q E hr h => ?_)
  · obtain ⟨p, x, rfl, _⟩ := h
    rfl
  · obtain ⟨p, x, rfl, hp, k⟩ := h
    have hr1 : Room 1 _ := hr.mono (by decide)
    refine ⟨_, pss_cons (ps_if (PW.pt (pw_or (pt_not (pt_val (pe_call G1 hr (by rfl) F1.g F1.F.kp F1.b .nil pass0 (pa_cons (pv 0) (pa_cons pe_int pa_nil))))) (pw_or (pt_not (pt_val (pe_call G3 hr1 (by rfl) F3.g F3.F.kp F3.b .nil pass0 (pa_cons (pe_fst 0) pa_nil)))) (pw_or1 (pt_not (pt_val (pe_call G3 hr1 (by rfl) F3.g F3.F.kp F3.b .nil pass0 (pa_cons (pe_snd 0) pa_nil))))))))
        (pss_one (ps_ret pe_bl)) pss_nil)
      (pss_one (ps_ret (pe_and (pe_cmpR op_ge (pe_snd 0) pe_int (nomark _)) (pe_one (pe_cmpR op_eq (pe_callBfun cr_gcd (by rfl) T.gcd (pa_cons (pe_fst 0) (pa_cons (pe_snd 0) pa_nil))) pe_int (nomark _)))))), ?_⟩
    refine ⟨_, rfl, _, _, _, rfl, hp, _, rfl, iteF ?_⟩
    refine ⟨p, x, rfl, hp, _, rfl, _, rfl, iteF ?_⟩
    refine ⟨p, x, rfl, hp, _, rfl, _, rfl, iteF ?_⟩
    refine ⟨p, x, rfl, hp, _, _, rfl, rfl, _, rfl, ?_⟩
    by_cases h1 : 1 ≤ x.2
    · rw [decide_eq_true h1]
      refine iteT ?_
      refine ⟨p, x, rfl, hp, p, x, rfl, hp, _, _, rfl, rfl, ?_⟩
      have e : decide (V.int ((Nat.gcd x.1.natAbs x.2.natAbs : Nat) : Int) = V.int 1) = decide (Fr x) := by
        rw [decide_eq_decide]
        constructor
        · intro h
          injection h with h
          refine ⟨h1, ?_⟩
          show Nat.gcd x.1.natAbs x.2.natAbs = 1
          omega
        · intro h
          have := h.2
          show V.int ((Int.gcd x.1 x.2 : Nat) : Int) = V.int 1
          rw [this]
          rfl
      rw [e]
      exact k
    · rw [decide_eq_false h1]
      refine iteF ?_
      rw [decide_eq_false (fun h : Fr x => h1 h.1)] at k
      exact k
theorem scMixed : FnScope ["cell", "k"] ["cell", "k"] (defScope sMixed) := ⟨rfl, rfl, rfl, by decide +kernel, rfl, by decide +kernel, by decide +kernel⟩
theorem ok_mixed {f : Addr} {fd : FuncData} (F : Df K mg "_law_mixed" sMixed ["cell", "k"] f fd) (T : Bt mg) : FnOk P w K mg base CX0 1 f fd ["cell", "k"] spMixed := by
  refine F.F.ok scMixed (fun vs H Q E h => ?_) (fun cdv A outer s H vs Q E hr h => ?_)
  · obtain ⟨c, k, rfl, _⟩ := h
    rfl
  · obtain ⟨c, k, rfl, k0, k1, q⟩ := h
    refine ⟨_, pss_cons (ps_set (i := 0) scMixed.nd rfl (Or.inl rfl) (pe_op op_mod (pe_callTy call_int1 (by rfl) T.int (by decide +kernel) (pa_cons (pv 0) pa_nil)) pe_int))
      (pss_one (ps_ret (pe_op op_mod (pe_op op_mul (pe_op op_mod (pe_op op_add (pe_op op_add
        (pe_op op_mul (pv 0) (pe_op op_add pe_int (pe_op op_mul (pe_op op_mul pe_int (pv 1)) (pv 1))))
        (pe_op op_mul pe_int (pv 1))) pe_int) pe_int) pe_int) pe_int))), ?_⟩
    have hc0 : 0 ≤ c % 2147483647 := Int.emod_nonneg _ (by decide)
    have hc1 : c % 2147483647 < 2147483647 := Int.emod_lt_of_pos _ (by decide)
    refine ⟨_, rfl, .inl ⟨c, rfl, _, _, rfl, rfl, (by show (0 : Int) < 2147483647; decide), ?_⟩⟩
    generalize hcc : c % 2147483647 = cc at *
    refine ⟨_, rfl, _, rfl, _, _, rfl, rfl, .inl ⟨by decide, by decide⟩, _, rfl, _, _, rfl, rfl, .inr ⟨by omega, by omega⟩, _, _, rfl, rfl, ?_⟩
    generalize 48271 + 2 * k * k = z
    refine ⟨_, _, rfl, rfl, .inl ⟨by omega, by omega⟩, _, rfl, _, _, rfl, rfl, .inl ⟨by decide, by decide⟩, _, _, rfl, rfl, _, _, rfl, rfl, _, _, rfl, rfl, (by show (0 : Int) < 2147483647; decide), ?_⟩
    generalize hy : (cc * z + 69621 * k + 11) = y
    have hy0 : 0 ≤ y % 2147483647 := Int.emod_nonneg _ (by decide)
    have hy1 : y % 2147483647 < 2147483647 := Int.emod_lt_of_pos _ (by decide)
    refine ⟨_, _, rfl, rfl, .inl ⟨by omega, by omega⟩, _, _, rfl, rfl, (by show (0 : Int) < 2147483629; decide), ?_⟩
    exact q _ (Int.emod_nonneg _ (by decide)) (Int.emod_lt_of_pos _ (by decide))
theorem dpInts (K : PySem.W.Frag) (H : Hp) : ∀ ns : List Int, DpAll K H (ns.map V.int) (ns.map PyData.int)
  | [] => .nil
  | n :: ns => .cons (.int n) (dpInts K H ns)
theorem cl0 : ∀ ns : List Int, PyData.canLayAll0 (ns.map PyData.int) = true
  | [] => rfl
  | n :: ns => by
    show (PyData.canLay0 (.int n) && PyData.canLayAll0 (ns.map PyData.int)) = true
    rw [cl0 ns]
    rfl
theorem dp0 : ∀ ns : List Int, PyData.depthAll (ns.map PyData.int) ≤ 1
  | [] => by decide
  | n :: ns => by
    have := dp0 ns
    simp [PyData.depthAll, PyData.depth] at *
    omega
theorem shInts (ns : List Int) : SeqAt.shaped (.list (ns.map PyData.int)) = true := by
  have h1 := cl0 ns
  have h2 := dp0 ns
  simp [SeqAt.shaped, PyData.canLay0, PyData.depth, h1]
  omega
theorem scBegin : FnScope ["script", "cells", "cell"] ["script"] (defScope sBegin) := ⟨rfl, rfl, rfl, by decide +kernel, rfl, by decide +kernel, by decide +kernel⟩
theorem ok_begin {f : Addr} {fd : FuncData} (F : Df K mg "_law_begin" sBegin ["script"] f fd) (T : Bt mg) : FnOk P w K mg base CX0 1 f fd ["script"] (spBegin K) := by
  refine F.F.ok scBegin (fun vs H Q E h => ?_) (fun cdv A outer s H vs Q E hr h => ?_)
  · obtain ⟨a, ns, rfl, _⟩ := h
    rfl
  · obtain ⟨a, ns, rfl, hS, hlen, k⟩ := h
    refine ⟨_, Evl.pss_cut (ps_set (i := 1) scBegin.nd rfl (Or.inl rfl) (pe_ifExp (pt_cmpR (op_neD hr.units) (pv 0) (pe_lst pa_nil) (nomark _)) (pe_callTy call_list_of (by rfl) T.list (by decide +kernel) (pa_cons (pv 0) pa_nil)) (pe_lst (pa_cons pe_int pa_nil))))
      (pss_one (ps_ret (pe_disp (pps_cons pe_str (pv 1) (pps_cons pe_str
        (pe_lc (own := [("cell", 2)]) (g := gName 2) (tt := tYes) rfl scBegin.nd (pi_list (pv 1)) (blkOk_by (N := ["script", "cells", "cell"]) (sc := defScope sBegin) (by decide +kernel)) (fun _ _ _ _ _ => pg_name (i := 2) scBegin.nd rfl (Or.inl rfl)) (fun _ _ _ _ _ => pts_nil)
          (fun _ _ _ _ _ => pe_ifExp (pt_cmpR op_ge (pv 2) (pe_op op_pow pe_int pe_int) (nomark _)) (pv 2) pe_int))
        (pps_cons pe_str pe_int (pps_cons pe_str pe_int pps_nil)))) (by rfl) (by rfl) (fun z => by cases z) (by decide)))), ?_⟩
    refine ⟨fun σ' H' => ∃ (c : Addr) (cs : List Int), σ' = [some (.ref a), some (.ref c), none] ∧ Same H H' ∧ H c = none ∧ H' c = some (.lst (cs.map V.int)) ∧ 0 < cs.length ∧ cs.length ≤ 64, ?_, ?_⟩
    · refine ⟨_, rfl, (by show 0 ≤ sizeLine; decide), fun q0 hq0 => ?_⟩
      refine ⟨.list (ns.map PyData.int), .list [], .lst ((Same.new hq0).seq hS) (dpInts _ _ ns), .lst (SqL.of upd_same) .nil, shInts ns, rfl, _, rfl, ?_⟩
      cases ns with
      | nil =>
        refine iteF ?_
        refine ⟨(by show 1 ≤ sizeLine; decide), fun c hc => ?_⟩
        exact ⟨c, [0], rfl, (Same.new hq0).trans (Same.new hc), (Same.new hq0).free hc, upd_same, by decide, by decide⟩
      | cons n ns =>
        refine iteT ?_
        refine ⟨_, rfl, a, _, rfl, .inl ((Same.new hq0).seq hS), fun c hc => ?_⟩
        exact ⟨c, n :: ns, rfl, (Same.new hq0).trans (Same.new hc), (Same.new hq0).free hc, upd_same, by simp, by omega⟩
    · rintro σ' H1 ⟨c, cs, rfl, s1, nc, hc, c0, c64⟩
      intro p hp
      have ncp : c ≠ p := ne_of_none hc hp
      have hcp : (upd H1 p (.dK [])) c = some (.lst (cs.map V.int)) := by rw [upd_ne ncp]; exact hc
      refine ⟨_, rfl, _, rfl, c, rfl, ⟨_, SqL.of hcp⟩, fun D hD => ?_⟩
      have ncD : c ≠ D := ne_of_none hcp hD
      have npD : p ≠ D := ne_of_none upd_same hD
      refine lc_list (K := K) (a := c) (xs := cs.map V.int) (fun i H' => ∃ acc : List Int, H' = upd (upd H1 p (.dK [])) D (.lst (acc.map V.int)) ∧ acc.length = i ∧ ∀ v ∈ acc, 0 ≤ v) ⟨[], rfl, rfl, fun v hv => by cases hv⟩ ?_ ?_ ?_
      · rintro i H' hi ⟨acc, rfl, _, _⟩
        exact SqL.of (by rw [upd_ne ncD]; exact hcp)
      · rintro i x H' hx ⟨acc, rfl, hl, h0⟩
        have hil : i < (cs.map V.int).length := (List.getElem?_eq_some_iff.mp hx).1
        rw [List.length_map] at hil
        obtain ⟨z, rfl⟩ : ∃ z, x = V.int z := by
          rw [List.getElem?_map] at hx
          cases e : cs[i]? with
          | none =>
            rw [e] at hx
            cases hx
          | some z =>
            rw [e] at hx
            exact ⟨z, (Option.some.inj hx).symm⟩
        refine ⟨rfl, ?_⟩
        dsimp only [tYes]
        rw [if_pos rfl]
        refine ⟨_, rfl, 10, 18, rfl, rfl, ⟨by decide, by decide, by decide⟩, _, _, rfl, rfl, _, rfl, ?_⟩
        by_cases hz : (10 : Int) ^ (18 : Int).toNat ≤ z
        · rw [decide_eq_true hz]
          refine iteT ⟨_, rfl, _, upd_same, ?_, acc ++ [z], ?_, ?_, ?_⟩
          · rw [List.length_map]; exact small1000 (by omega)
          · rw [upd_upd, List.map_append]; rfl
          · rw [List.length_append]; simp [hl]
          · intro v hv
            rcases List.mem_append.mp hv with q | q
            · exact h0 v q
            · have := List.mem_singleton.mp q
              have h18 : (0 : Int) ≤ (10 : Int) ^ (18 : Int).toNat := by decide
              omega
        · rw [decide_eq_false hz]
          refine iteF ⟨_, upd_same, ?_, acc ++ [0], ?_, ?_, ?_⟩
          · rw [List.length_map]; exact small1000 (by omega)
          · rw [upd_upd, List.map_append]; rfl
          · rw [List.length_append]; simp [hl]
          · intro v hv
            rcases List.mem_append.mp hv with q | q
            · exact h0 v q
            · have := List.mem_singleton.mp q
              omega
      · rintro H' ⟨acc, rfl, hl, h0⟩
        refine ⟨by rw [upd_ne npD]; exact upd_same, [(Sum.inr ("cells" : Str), V.ref c), (Sum.inr ("lefts" : Str), .ref D), (Sum.inr ("at" : Str), .int 0), (Sum.inr ("room" : Str), .int 0)], rfl, (by show 4 ≤ 15; decide), ?_⟩
        rw [stD_make]
        have hD1 : H1 D = none := (Same.new hp).free hD
        refine k p c D _ (s1.free hp) (s1.trans ?_) ?_
        · intro b o e
          rw [upd_ne (ne_of_none e hp), upd_ne (ne_of_none e hD1), upd_ne (ne_of_none e hp)]
          exact e
        · refine ⟨upd_same, ncD, cs, acc, ?_, ?_, ?_, c0, c64, h0⟩
          · rw [upd_ne ncp, upd_ne ncD]; exact hcp
          · rw [upd_ne npD.symm, upd_same]
          · rw [hl, List.length_map]
theorem scDraw : FnScope ["state", "many", "at", "place", "left", "number"] ["state", "many"] (defScope sDraw) := ⟨rfl, rfl, rfl, by decide +kernel, rfl, by decide +kernel, by decide +kernel⟩
theorem ok_draw {f f1 : Addr} {fd fd1 : FuncData} (F : Df K mg "_law_draw" sDraw ["state", "many"] f fd) (F1 : Df K mg "_law_mixed" sMixed ["cell", "k"] f1 fd1) (T : Bt mg) : FnOk P w K mg base CX0 2 f fd ["state", "many"] spDraw := by
  have G1 : FnOk P w K mg base CX0 1 f1 fd1 ["cell", "k"] spMixed := ok_mixed F1 T
  refine F.F.ok scDraw (fun vs H Q E h => ?_) (fun cdv A outer s H vs Q E hr h => ?_)
  · obtain ⟨d, c, l, k, m, rfl, _⟩ := h
    rfl
  · obtain ⟨d, c, l, n, m, rfl, S, m0, m1, n1, k⟩ := h
    have hu := hu_of hr
    refine ⟨_, pss_cons (ps_set (i := 2) scDraw.nd rfl (Or.inl rfl) (pe_dget hu (pv 0) pe_str (fun _ _ => rfl)))
      (pss_cons (ps_dput hu (pv 0) pe_str (pe_op op_add (pv 2) pe_int) rfl)
      (pss_cons (ps_set (i := 3) scDraw.nd rfl (Or.inl rfl) (pe_op op_mod (pe_callTy call_int1 (by rfl) T.int (by decide +kernel) (pa_cons (pv 2) pa_nil)) (pe_callB call_len_seq (by rfl) T.len PySem.boot_len (pa_cons (pe_dget hu (pv 0) pe_str (fun _ _ => rfl)) pa_nil))))
      (pss_cons (ps_set (i := 4) scDraw.nd rfl (Or.inl rfl) (pe_ix ix_list (pe_dget hu (pv 0) pe_str (fun _ _ => rfl)) (pv 3) (fun _ _ => rfl)))
      (pss_cons (ps_if (pt_cmpR op_gt (pv 4) pe_int (nomark _))
        (pss_cons (ps_asg (pe_op op_fdivW (pv 4) (pv 1)) (pg_sub (pe_dget hu (pv 0) pe_str (fun _ _ => rfl)) (pv 3) set_list))
        (pss_one (ps_ret (pe_op op_mod (pe_callTy call_int1 (by rfl) T.int (by decide +kernel) (pa_cons (pv 4) pa_nil)) (pv 1))))) pss_nil)
      (pss_cons (ps_set (i := 5) scDraw.nd rfl (Or.inl rfl) (pe_call G1 hr (by rfl) F1.g F1.F.kp F1.b .nil pass0 (pa_cons (pe_call G1 hr (by rfl) F1.g F1.F.kp F1.b .nil pass0 (pa_cons (pe_ix ix_list (pe_dget hu (pv 0) pe_str (fun _ _ => rfl)) (pv 3) (fun _ _ => rfl)) (pa_cons (pv 2) pa_nil))) (pa_cons (pe_op op_add pe_int (pv 2)) pa_nil))))
      (pss_one (ps_ret (pe_op op_mod (pe_op op_fdiv (pe_callTy call_int1 (by rfl) T.int (by decide +kernel) (pa_cons (pe_op op_add (pe_op op_mul (pv 5) pe_int) (pe_call G1 hr (by rfl) F1.g F1.F.kp F1.b .nil pass0 (pa_cons (pv 5) (pa_cons (pe_op op_add pe_int (pv 2)) pa_nil)))) pa_nil)) pe_int) (pv 1))))))))), ?_⟩
    obtain ⟨hd, ncl, cs, ls, hc, hl, hcl, c0, c64, hls⟩ := S
    have ndc : d ≠ c := ne_of hd hc (by intro z; cases z)
    have ndl : d ≠ l := ne_of hd hl (by intro z; cases z)
    refine ⟨_, rfl, d, _, rfl, (stD_at c l n) ▸ DGet.k (k := Sum.inr ("at" : Str)) hd, ?_⟩
    refine ⟨_, rfl, _, _, rfl, rfl, _, rfl, d, _, rfl, DPut.k (k := Sum.inr ("at" : Str)) hd (by show 4 < sizeLine; decide), ?_⟩
    rw [stD_put]
    have hd2 : (upd H d (.dK (stD c l ((n : Int) + 1)))) d = some (.dK (stD c l ((n + 1 : Nat) : Int))) := upd_same
    have hc2 : (upd H d (.dK (stD c l ((n : Int) + 1)))) c = some (.lst (cs.map V.int)) := by rw [upd_ne ndc.symm]; exact hc
    have hl2 : (upd H d (.dK (stD c l ((n : Int) + 1)))) l = some (.lst (ls.map V.int)) := by rw [upd_ne ndl.symm]; exact hl
    have fm2 : Fm d l H (upd H d (.dK (stD c l ((n : Int) + 1)))) := fun b o e nb _ => by rw [upd_ne nb]; exact e
    generalize upd H d (.dK (stD c l ((n : Int) + 1))) = H2 at *
    have el : ((n : Int) % ((cs.map V.int).length : Int)) = ((n % cs.length : Nat) : Int) := by
      rw [List.length_map]
      omega
    refine ⟨_, rfl, .inl ⟨_, rfl, _, rfl, d, _, rfl, (stD_cells c l _) ▸ DGet.k (k := Sum.inr ("cells" : Str)) hd2, c, _, rfl, .inl (SqL.of hc2), _, _, rfl, rfl, (by show (0 : Int) < ((cs.map V.int).length : Int); rw [List.length_map]; omega), ?_⟩⟩
    simp only [el]
    have hj : n % cs.length < cs.length := Nat.mod_lt _ c0
    generalize n % cs.length = j at *
    obtain ⟨y, hy⟩ : ∃ y, ls[j]? = some y := ⟨ls[j]'(by omega), by simp⟩
    obtain ⟨x, hx⟩ : ∃ x, cs[j]? = some x := ⟨cs[j]'(by omega), by simp⟩
    have y0 : 0 ≤ y := hls y (List.mem_of_getElem? hy)
    have hyv : atI (ls.map V.int) ((j : Nat) : Int) = some (.int y) := atI_nat (by rw [List.getElem?_map, hy]; rfl)
    have hxv : atI (cs.map V.int) ((j : Nat) : Int) = some (.int x) := atI_nat (by rw [List.getElem?_map, hx]; rfl)
    refine ⟨_, rfl, d, _, rfl, (stD_lefts c l _) ▸ DGet.k (k := Sum.inr ("lefts" : Str)) hd2, _, rfl, l, _, _, _, rfl, rfl, SqL.of hl2, hyv, ?_⟩
    refine ⟨_, rfl, _, _, rfl, rfl, _, rfl, ?_⟩
    by_cases hy1 : 0 < y
    · rw [decide_eq_true hy1]
      refine iteT ?_
      refine ⟨_, rfl, _, rfl, _, _, rfl, rfl, wide_div m0 m1 (by decide) (by decide), ?_⟩
      refine ⟨_, rfl, d, _, rfl, (stD_lefts c l _) ▸ DGet.k (k := Sum.inr ("lefts" : Str)) hd2, _, rfl, l, _, _, j, rfl, rfl, hl2, ?_, ?_⟩
      · rw [List.length_map]
        unfold ixN
        rw [if_pos (by omega), if_pos (by omega)]
        simp
      refine ⟨_, rfl, .inl ⟨_, rfl, _, rfl, _, _, rfl, rfl, m0, ?_⟩⟩
      refine k _ _ (Int.emod_nonneg _ (by omega)) (Int.emod_lt_of_pos _ m0) ⟨by rw [upd_ne ndl]; exact hd2, ncl, cs, ls.set j (y / m), by rw [upd_ne ncl]; exact hc2, ?_, by rw [List.length_set]; exact hcl, c0, c64, ?_⟩ ?_
      · rw [upd_same, List.map_set]
      · intro v hv
        rcases List.mem_or_eq_of_mem_set hv with q | q
        · exact hls v q
        · rw [q]; exact Int.ediv_nonneg y0 (by omega)
      · intro b o e n1 n2
        rw [upd_ne n2]
        exact fm2 b o e n1 n2
    · rw [decide_eq_false hy1]
      refine iteF ?_
      refine ⟨_, rfl, d, _, rfl, (stD_cells c l _) ▸ DGet.k (k := Sum.inr ("cells" : Str)) hd2, _, rfl, c, _, _, _, rfl, rfl, SqL.of hc2, hxv, _, rfl, x, n, rfl, by omega, by omega, fun r1 a0 a1 => ?_⟩
      refine ⟨_, rfl, _, _, rfl, rfl, _, _, rfl, by omega, by omega, fun r2 b0 b1 => ?_⟩
      refine ⟨_, rfl, _, _, rfl, rfl, .inl ⟨by omega, by omega⟩, _, rfl, _, rfl, _, _, rfl, rfl, _, _, rfl, by omega, by omega, fun r3 e0 e1 => ?_⟩
      refine ⟨_, _, rfl, rfl, .inl ⟨_, rfl, _, _, rfl, rfl, ⟨by decide, by decide⟩, _, rfl, _, _, rfl, rfl, m0, ?_⟩⟩
      exact k _ _ (Int.emod_nonneg _ (by omega)) (Int.emod_lt_of_pos _ m0) ⟨hd2, ncl, cs, ls, hc2, hl2, hcl, c0, c64, hls⟩ fm2
theorem scLawRatio : FnScope ["top", "bottom", "one", "other"] ["top", "bottom"] (defScope sLawRatio) := ⟨rfl, rfl, rfl, by decide +kernel, rfl, by decide +kernel, by decide +kernel⟩
theorem ok_law_ratio {f : Addr} {fd : FuncData} (F : Df K mg "_law_ratio" sLawRatio ["top", "bottom"] f fd) (T : Bt mg) : FnOk P w K mg base CX0 1 f fd ["top", "bottom"] spLowP := by
  refine F.F.ok scLawRatio (fun vs H Q E h => ?_) (fun cdv A outer s H vs Q E hr h => ?_)
  · obtain ⟨t, b, rfl, _⟩ := h
    rfl
  · obtain ⟨t, b, rfl, hb, h1, h2, k⟩ := h
    refine ⟨_, pss_cons (ps_par (i := 2) (j := 3) (by rfl) scLawRatio.nd rfl rfl (by decide) rfl rfl (pa_cons (pe_callB call_abs (by rfl) T.abs (by decide +kernel) (pa_cons (pv 0) pa_nil)) (pa_cons (pv 1) pa_nil)) (by rfl))
      (pss_cons (ps_while PassesOwn.never (pt_cmpR op_ne (pv 3) pe_int (nomark _)) (pss_one (ps_par (i := 2) (j := 3) (by rfl) scLawRatio.nd rfl rfl (by decide) rfl rfl (pa_cons (pv 3) (pa_cons (pe_op op_mod (pe_callTy call_int1 (by rfl) T.int (by decide +kernel) (pa_cons (pv 2) pa_nil)) (pv 3)) pa_nil)) (by rfl))))
      (pss_one (ps_ret (pe_tup (pa_cons (pe_op op_fdivX (pv 0) (pv 2)) (pa_cons (pe_op op_fdivX (pv 1) (pv 2)) pa_nil)))))), ?_⟩
    refine ⟨_, rfl, t, rfl, _, rfl, _, _, rfl, ?_⟩
    have ha : (if t < 0 then -t else t) = ((t.natAbs : Nat) : Int) := by split <;> omega
    refine while_by (fun σ H' => H' = H ∧ ∃ a c : Int, σ = [some (.int t), some (.int b), some (.int a), some (.int c)] ∧ 0 ≤ a ∧ 0 ≤ c ∧ Int.gcd a c = Int.gcd t b) (fun σ _ => match σ with | [_, _, _, some (.int c)] => c.natAbs | _ => 0) ?_ ?_ ?_
    · refine ⟨rfl, _, b, rfl, ?_, Int.le_of_lt hb, ?_⟩
      · rw [ha]; omega
      · rw [ha]
        show Nat.gcd ((t.natAbs : Nat) : Int).natAbs b.natAbs = Nat.gcd t.natAbs b.natAbs
        rw [Int.natAbs_natCast]
    · rintro σ H' ⟨rfl, a, c, rfl, a0, c0, e⟩
      refine ⟨_, rfl, rfl, _, rfl, ?_⟩
      by_cases hc : c = 0
      · subst hc
        refine iteNS rfl ?_
        have hg : a = cm t b := by
          have e2 : cm t b = (Int.gcd t b : Int) := if_neg (by omega)
          rw [e2, ← e, Int.gcd_zero_right]
          omega
        subst hg
        have hcn := cm_ne (t := t) (b := b) (by omega)
        have hz : (cm t b).natAbs.log2 < 9000 := by
          rw [cm_abs]
          have : Int.gcd t b ≤ b.natAbs := Nat.le_of_dvd (by omega) (Nat.gcd_dvd_right _ _)
          exact Nat.lt_of_lt_of_le (PySem.Flt.log2_lt_of (by decide) (Nat.lt_of_le_of_lt this h2)) (by decide)
        exact ⟨_, rfl, _, rfl, _, _, rfl, rfl, ⟨hcn, hz⟩, _, rfl, _, rfl, _, _, rfl, rfl, ⟨hcn, hz⟩, (by show 2 ≤ sizeLine; decide), fun p hp => k p hp⟩
      · rw [decide_eq_false (fun h => hc (by injection h))]
        refine iteT ?_
        have c1 : 0 < c := by omega
        refine ⟨_, rfl, _, rfl, .inl ⟨_, rfl, _, rfl, _, _, rfl, rfl, c1, _, _, rfl, ?_⟩⟩
        have m0 := Int.emod_nonneg a (by omega : c ≠ 0)
        have m1 := Int.emod_lt_of_pos a c1
        refine ⟨⟨rfl, c, a % c, rfl, c0, m0, ?_⟩, ?_⟩
        · rw [euclid_step a0 c1]; exact e
        · show (a % c).natAbs < c.natAbs
          omega
    · exact fun σ H' Q Q' i ⟨v, e, sc, kk, ek, q⟩ => ⟨v, e, sc, kk, ek, i _ _ q⟩
end
end CS
set_option Elab.async false
set_option maxRecDepth 100000
set_option maxHeartbeats 8000000
set_option linter.unusedVariables false
namespace CS
open PySem L2
section
variable {P : Program} {w : World} {K : PySem.W.Frag} {mg : Str → Option Value} {base : Heap}
end
end CS
set_option Elab.async false
set_option maxRecDepth 100000
set_option maxHeartbeats 8000000
set_option linter.unusedVariables false
namespace CS
open PySem L2
section
variable {P : Program} {w : World} {K : PySem.W.Frag} {mg : Str → Option Value} {base : Heap}
theorem dget_or {H : Hp} {d aN : Addr} {kvs : List (Key × V)} {f : List (Int × Fx)} (hd : H d = some (.dK kvs)) (hD : DPr K H kvs f) (hN : FT K H aN (0, 1)) (k : Int) : ∃ (o : Option V) (r : Addr), DGet H d (.int k) o ∧ o.getD (.ref aN) = .ref r ∧ FT K H r (lk f k) := by
  by_cases hm : k ∈ f.map (·.1)
  · obtain ⟨r, h1, h2⟩ := hD.val k hm
    refine ⟨some (.ref r), r, ?_, rfl, h2⟩
    rw [← h1]
    exact DGet.k (k := Sum.inl k) hd
  · have h1 := hD.non k hm
    refine ⟨none, aN, ?_, rfl, ?_⟩
    · rw [← h1]
      exact DGet.k (k := Sum.inl k) hd
    · rw [lk_none hm]
      exact hN
def spGatT (K : PySem.W.Frag) : Sp := fun vs H Q _ => ∃ p ws xs, vs = [.ref p] ∧ SqT K H p ws ∧ PrsAt K H ws xs ∧ AllF 90 xs ∧ xs.length ≤ 16 ∧ ∀ H' r ys, Same H H' → ShAt K H' r ys → IsS (gat [] xs) ys → Q (.ref r) H'
def spGatL (K : PySem.W.Frag) : Sp := fun vs H Q _ => ∃ p ws xs, vs = [.ref p] ∧ SqL K H p ws ∧ PrsAt K H ws xs ∧ AllF 90 xs ∧ xs.length ≤ 16 ∧ ∀ H' r ys, Same H H' → ShAt K H' r ys → IsS (gat [] xs) ys → Q (.ref r) H'
end
end CS
set_option Elab.async false
set_option maxRecDepth 100000
set_option maxHeartbeats 8000000
set_option linter.unusedVariables false
namespace CS
open PySem L2
section
variable {P : Program} {w : World} {K : PySem.W.Frag} {mg : Str → Option Value} {base : Heap}
def GoodP (a : Int × Fx) : Prop := -100 ≤ a.1 ∧ a.1 ≤ 100 ∧ Fr a.2 ∧ 0 < a.2.1
instance (a : Int × Fx) : Decidable (GoodP a) := by unfold GoodP; infer_instance
def spWW : Sp := fun vs H Q _ => ∃ i l m : Int, vs = [.int i, .int l, .int m] ∧ Q (.bl (decide (l ≤ i ∧ i ≤ m))) H
def spNum : Sp := fun vs H Q _ => ∃ i : Int, vs = [.int i] ∧ Q (.bl (decide (-100 ≤ i ∧ i ≤ 100))) H
def spWt (K : PySem.W.Frag) : Sp := fun vs H Q _ => ∃ p x, vs = [.ref p] ∧ FT K H p x ∧ Q (.bl (decide (Fr x ∧ 0 < x.1))) H
def spShP (K : PySem.W.Frag) : Sp := fun vs H Q _ => ∃ q r m x, vs = [.ref q] ∧ SqT K H q [.int m, .ref r] ∧ FT K H r x ∧ Q (.bl (decide (GoodP (m, x)))) H
def spAsc (K : PySem.W.Frag) : Sp := fun vs H Q _ => ∃ (a : Addr) (ns : List Int), vs = [.ref a] ∧ SqL K H a (ns.map V.int) ∧ ns.length ≤ 900 ∧ ∀ H', Same H H' → Q (.bl (decide (ns.Pairwise (· < ·)))) H'
def spIsSh (K : PySem.W.Frag) : Sp := fun vs H Q _ => ∃ p xs, vs = [.ref p] ∧ ShAt K H p xs ∧ xs.length ≤ 900 ∧ ∀ H', Same H H' → Q (.bl (decide (Shr xs))) H'
def spNeedSh (K : PySem.W.Frag) : Sp := fun vs H Q _ => ∃ p xs, vs = [.ref p] ∧ ShAt K H p xs ∧ Shr xs ∧ ∀ H', Same H H' → Q (.ref p) H'
def spNeedNum : Sp := fun vs H Q _ => ∃ i : Int, vs = [.int i] ∧ -100 ≤ i ∧ i ≤ 100 ∧ Q (.int i) H
def spTot (K : PySem.W.Frag) (f : List (Int × Fx) → Fx) : Sp := fun vs H Q _ => ∃ p xs, vs = [.ref p] ∧ ShAt K H p xs ∧ Shr xs ∧ AllF 90 xs ∧ ∀ H' r, Same H H' → FT K H' r (f xs) → Q (.ref r) H'
def spRest (K : PySem.W.Frag) : Sp := fun vs H Q _ => ∃ p xs k, vs = [.ref p, .int k] ∧ ShAt K H p xs ∧ Shr xs ∧ AllF 90 xs ∧ -100 ≤ k ∧ k ≤ 100 ∧ ∀ H' r, Same H H' → FT K H' r (frest xs k) → Q (.ref r) H'
theorem Shr.abs {xs : List (Int × Fx)} (h : Shr xs) : ∀ a ∈ xs, a.1.natAbs ≤ 200 := fun a ha => by
  have := h.2.1 a ha
  omega
theorem Shr.len {xs : List (Int × Fx)} (h : Shr xs) : xs.length ≤ 16 := by have := h.1; omega
theorem scIsWholeWithin : FnScope ["thing", "least", "most"] ["thing", "least", "most"] (defScope sIsWholeWithin) := ⟨rfl, rfl, rfl, by decide +kernel, rfl, by decide +kernel, by decide +kernel⟩
theorem ok_is_whole_within {f f1 : Addr} {fd fd1 : FuncData} (F : Df K mg "is_whole_within" sIsWholeWithin ["thing", "least", "most"] f fd) (D1 : Df K mg "is_whole" sIsWhole ["thing"] f1 fd1) (T : Bt mg) : FnOk P w K mg base CX0 2 f fd ["thing", "least", "most"] spWW := by
  have G1 : FnOk P w K mg base CX0 1 f1 fd1 ["thing"] (spWhole K) := ok_is_whole D1 T
  refine F.F.ok scIsWholeWithin (fun vs H Q E h => ?_) (fun cdv A outer s H vs Q E hr h => ?_)
  · obtain ⟨i, l, m, rfl, _⟩ := h
    rfl
  · obtain ⟨i, l, m, rfl, k⟩ := h
    refine ⟨_, pss_one (ps_ret (pe_and (pe_call G1 hr (by rfl) D1.g D1.F.kp D1.b .nil pass0 (pa_cons (pv 0) pa_nil)) (pe_and (pe_cmpR op_le (pv 1) (pv 0) (nomark _)) (pe_one (pe_cmpR op_le (pv 0) (pv 2) (nomark _)))))), ?_⟩
    refine ⟨_, rfl, _, rfl, _, rfl, iteT ?_⟩
    refine ⟨_, rfl, _, rfl, _, _, rfl, rfl, _, rfl, ?_⟩
    by_cases h1 : l ≤ i
    · rw [decide_eq_true h1]
      refine iteT ⟨_, rfl, _, rfl, _, _, rfl, rfl, ?_⟩
      have e : decide (i ≤ m) = decide (l ≤ i ∧ i ≤ m) := by simp [h1]
      rw [← e] at k
      exact k
    · rw [decide_eq_false h1]
      refine iteF ?_
      rw [decide_eq_false (fun h => h1 h.1)] at k
      exact k
theorem scIsNumber : FnScope ["thing"] ["thing"] (defScope sIsNumber) := ⟨rfl, rfl, rfl, by decide +kernel, rfl, by decide +kernel, by decide +kernel⟩
theorem ok_is_number {f f1 : Addr} {fd fd1 : FuncData} (F : Df K mg "is_number" sIsNumber ["thing"] f fd) (D1 : Df K mg "is_whole_within" sIsWholeWithin ["thing", "least", "most"] f1 fd1) (G1 : FnOk P w K mg base CX0 2 f1 fd1 ["thing", "least", "most"] spWW) : FnOk P w K mg base CX0 3 f fd ["thing"] spNum := by
  refine F.F.ok scIsNumber (fun vs H Q E h => ?_) (fun cdv A outer s H vs Q E hr h => ?_)
  · obtain ⟨i, rfl, _⟩ := h
    rfl
  · obtain ⟨i, rfl, k⟩ := h
    refine ⟨_, pss_one (ps_ret (pe_call G1 hr (by rfl) D1.g D1.F.kp D1.b .nil pass0 (pa_cons (pv 0) (pa_cons (pe_un un_neg pe_int) (pa_cons (pe_int) pa_nil))))), ?_⟩
    exact ⟨_, rfl, _, rfl, i, _, _, rfl, k⟩
theorem scIsWeight : FnScope ["thing"] ["thing"] (defScope sIsWeight) := ⟨rfl, rfl, rfl, by decide +kernel, rfl, by decide +kernel, by decide +kernel⟩
theorem ok_is_weight {f f1 : Addr} {fd fd1 : FuncData} (F : Df K mg "is_weight" sIsWeight ["thing"] f fd) (D1 : Df K mg "is_fraction" sIsFraction ["thing"] f1 fd1) (G1 : FnOk P w K mg base CX0 3 f1 fd1 ["thing"] (spIsFr K)) : FnOk P w K mg base CX0 4 f fd ["thing"] (spWt K) := by
  refine F.F.ok scIsWeight (fun vs H Q E h => ?_) (fun cdv A outer s H vs Q E hr h => ?_)
  · obtain ⟨p, x, rfl, _⟩ := h
    rfl
  · obtain ⟨p, x, rfl, hp, k⟩ := h
    refine ⟨_, pss_one (ps_ret (pe_and (pe_call G1 hr (by rfl) D1.g D1.F.kp D1.b .nil pass0 (pa_cons (pv 0) pa_nil)) (pe_one (pe_cmpR op_gt (pe_fst 0) pe_int (nomark _))))), ?_⟩
    refine ⟨_, rfl, p, x, rfl, hp, _, rfl, ?_⟩
    by_cases h1 : Fr x
    · rw [decide_eq_true h1]
      refine iteT ⟨p, x, rfl, hp, _, _, rfl, rfl, ?_⟩
      have e : decide (0 < x.1) = decide (Fr x ∧ 0 < x.1) := by simp [h1]
      rw [← e] at k
      exact k
    · rw [decide_eq_false h1]
      refine iteF ?_
      rw [decide_eq_false (fun h => h1 h.1)] at k
      exact k
theorem scIsSharePair : FnScope ["thing"] ["thing"] (defScope sIsSharePair) := ⟨rfl, rfl, rfl, by decide +kernel, rfl, by decide +kernel, by decide +kernel⟩
theorem ok_is_share_pair {f f1 f2 f3 : Addr} {fd fd1 fd2 fd3 : FuncData} (F : Df K mg "is_share_pair" sIsSharePair ["thing"] f fd) (D1 : Df K mg "is_row_of" sIsRowOf ["thing", "many"] f1 fd1) (G1 : FnOk P w K mg base CX0 2 f1 fd1 ["thing", "many"] (spRowOf K)) (D2 : Df K mg "is_number" sIsNumber ["thing"] f2 fd2) (G2 : FnOk P w K mg base CX0 3 f2 fd2 ["thing"] spNum)
    (D3 : Df K mg "is_weight" sIsWeight ["thing"] f3 fd3) (G3 : FnOk P w K mg base CX0 4 f3 fd3 ["thing"] (spWt K)) : FnOk P w K mg base CX0 5 f fd ["thing"] (spShP K) := by
  refine F.F.ok scIsSharePair (fun vs H Q E h => ?_) (fun cdv A outer s H vs Q E hr h => ?_)
  · obtain ⟨q, r, m, x, rfl, _⟩ := h
    rfl
  · obtain ⟨q, r, m, x, rfl, hq, hr2, k⟩ := h
    refine ⟨_, pss_one (ps_ret (pe_and (pe_call G1 (hr.mono (by decide)) (by rfl) D1.g D1.F.kp D1.b .nil pass0 (pa_cons (pv 0) (pa_cons (pe_int) pa_nil))) (pe_and (pe_call G2 (hr.mono (by decide)) (by rfl) D2.g D2.F.kp D2.b .nil pass0 (pa_cons (pe_ix ix_tup (pv 0) pe_int (fun _ _ => rfl)) pa_nil)) (pe_one (pe_call G3 hr (by rfl) D3.g D3.F.kp D3.b .nil pass0 (pa_cons (pe_ix ix_tup (pv 0) pe_int (fun _ _ => rfl)) pa_nil)))))), ?_⟩
    refine ⟨_, rfl, q, _, 2, rfl, hq, _, rfl, iteT ?_⟩
    refine ⟨_, rfl, q, _, 0, .int m, rfl, rfl, hq, atI_nat (j := 0) rfl, m, rfl, _, rfl, ?_⟩
    by_cases h1 : -100 ≤ m ∧ m ≤ 100
    · rw [decide_eq_true h1]
      refine iteT ⟨_, rfl, q, _, 1, .ref r, rfl, rfl, hq, atI_nat (j := 1) rfl, r, x, rfl, hr2, ?_⟩
      have e : decide (Fr x ∧ 0 < x.1) = decide (GoodP (m, x)) := by simp [GoodP, h1]
      rw [← e] at k
      exact k
    · rw [decide_eq_false h1]
      refine iteF ?_
      rw [decide_eq_false (fun h : GoodP (m, x) => h1 ⟨h.1, h.2.1⟩)] at k
      exact k
theorem cut1 (xs : List V) : cutV xs (some 1) none = xs.drop 1 := by
  unfold cutV
  have e1 : HT.sIx xs.length 0 (some 1) = min 1 xs.length := HT.sIx_nat xs.length 0 1
  rw [e1, HT.sIx_none]
  cases xs with
  | nil => rfl
  | cons a t =>
    have : min 1 (a :: t).length = 1 := by simp
    rw [this]
    simp
theorem scAscends : FnScope ["things", "low", "high"] ["things"] (defScope sAscends) := ⟨rfl, rfl, rfl, by decide +kernel, rfl, by decide +kernel, by decide +kernel⟩
theorem ok_ascends {f : Addr} {fd : FuncData} (F : Df K mg "ascends" sAscends ["things"] f fd) (T : Bt mg) : FnOk P w K mg base CX0 1 f fd ["things"] (spAsc K) := by
  refine F.F.ok scAscends (fun vs H Q E h => ?_) (fun cdv A outer s H vs Q E hr h => ?_)
  · obtain ⟨a, ns, rfl, _⟩ := h
    rfl
  · obtain ⟨a, ns, rfl, hS, hlen, k⟩ := h
    refine ⟨_, pss_one (ps_ret (pe_callB (cr_all rfl) (by rfl) T.all (by decide +kernel) (pa_cons (pe_lc (own := [("low", 1), ("high", 2)]) (g := gTup K 2 (gCons (gName 1) (gCons (gName 2) gNil))) (tt := tYes) rfl scAscends.nd (pi_zip (by rfl) T.zip (pa_cons (pv 0) (pa_cons (pe_slice sl_list (pv 0) (po_some pe_int) po_none) pa_nil))) (blkOk_by (N := ["things", "low", "high"]) (sc := defScope sAscends) (by decide +kernel)) (fun _ _ _ _ _ => pg_tup rfl (pgs_cons (pg_name (i := 1) scAscends.nd rfl (Or.inl rfl)) (pgs_cons (pg_name (i := 2) scAscends.nd rfl (Or.inl rfl)) pgs_nil))) (fun _ _ _ _ _ => pts_nil) (fun _ _ _ _ _ => pe_cmpR op_lt (pv 1) (pv 2) (nomark _))) pa_nil))), ?_⟩
    refine ⟨_, rfl, _, rfl, _, rfl, a, _, rfl, hS, fun b hb => ?_⟩
    rw [cut1]
    have k1 := Same.new (o := .lst ((ns.map V.int).drop 1)) hb
    have hB : (upd H b (.lst ((ns.map V.int).drop 1))) b = some (.lst ((ns.map V.int).drop 1)) := upd_same
    have hS1 := k1.seq hS
    generalize upd H b (.lst ((ns.map V.int).drop 1)) = H1 at *
    refine ⟨a, b, _, _, rfl, hS1, SqL.of hB, fun D hD => lc_it (walk_zip (xs := ns.map V.int) (ys := (ns.map V.int).drop 1) (n := ns.length - 1) (by simp)) (fun i H' => H' D = some (.lst (((List.zipWith (fun a b => decide (a < b)) ns (ns.drop 1)).take i).map V.bl)) ∧ Same H1 H') ⟨upd_same, Same.new hD⟩ (fun i H' _ ⟨_, s1⟩ => ⟨s1.seq hS1, SqL.of (s1 _ _ hB)⟩) ?_ ?_⟩
    · rintro i v H2 H3 hi ⟨h1, s1⟩ ⟨t, x, y, rfl, ht, rfl, hx, hy⟩
      have e1 : ns[i]? = some (ns[i]'(by omega)) := by simp
      have e2 : (ns.drop 1)[i]? = some (ns[i + 1]'(by omega)) := by
        rw [List.getElem?_drop]
        have : 1 + i = i + 1 := by omega
        rw [this]
        simp
      dsimp only at hx hy
      rw [List.getElem?_map, e1] at hx
      rw [← List.map_drop, List.getElem?_map, e2] at hy
      obtain rfl : V.int _ = x := Option.some.inj hx
      obtain rfl : V.int _ = y := Option.some.inj hy
      have k2 := Same.new (o := .tup [V.int (ns[i]'(by omega)), V.int (ns[i + 1]'(by omega))]) ht
      refine ⟨t, _, rfl, SqT.of upd_same, rfl, _, _, rfl, _, _, rfl, rfl, rfl, ?_⟩
      dsimp only [tYes]
      rw [if_pos rfl]
      refine ⟨_, rfl, _, rfl, _, _, rfl, rfl, _, k2 _ _ h1, small1000 ?_, ?_, ?_⟩
      · rw [List.length_map, List.length_take]; omega
      · rw [upd_same]
        have : (List.zipWith (fun a b => decide (a < b)) ns (ns.drop 1))[i]? = some (decide (ns[i]'(by omega) < ns[i + 1]'(by omega))) := by
          rw [List.getElem?_zipWith, e1, e2]
        rw [take_snoc this, List.map_append]
        rfl
      · exact same_upd hD (s1.trans k2)
    · rintro H2 ⟨h1, s1⟩
      rw [List.take_of_length_le (by rw [List.length_zipWith, List.length_drop]; omega)] at h1
      refine ⟨D, _, rfl, SqL.of h1, ?_⟩
      rw [asc_zip]
      exact k _ (k1.trans s1)
theorem scIsShare : FnScope ["thing", "pair", "number", "_"] ["thing"] (defScope sIsShare) := ⟨rfl, rfl, rfl, by decide +kernel, rfl, by decide +kernel, by decide +kernel⟩
theorem ok_is_share {f f1 f2 f3 : Addr} {fd fd1 fd2 fd3 : FuncData} {t8 : Tok} (F : Df K mg "is_share" sIsShare ["thing"] f fd) (D1 : Df K mg "is_row" sIsRow ["thing"] f1 fd1) (G1 : FnOk P w K mg base CX0 1 f1 fd1 ["thing"] (spRow K)) (D2 : Df K mg "is_share_pair" sIsSharePair ["thing"] f2 fd2) (G2 : FnOk P w K mg base CX0 5 f2 fd2 ["thing"] (spShP K))
    (D3 : Df K mg "ascends" sAscends ["things"] f3 fd3) (G3 : FnOk P w K mg base CX0 1 f3 fd3 ["things"] (spAsc K)) (g8 : mg "MOST_PAIRS" = some (.int 8 t8)) (T : Bt mg) : FnOk P w K mg base CX0 6 f fd ["thing"] (spIsSh K) := by
  refine F.F.ok scIsShare (fun vs H Q E h => ?_) (fun cdv A outer s H vs Q E hr h => ?_)
  · obtain ⟨p, xs, rfl, _⟩ := h
    rfl
  · obtain ⟨p, xs, rfl, ⟨vs, hp, hP⟩, hlen, k⟩ := h
    refine ⟨_, pss_cons (ps_if (PW.pt (pw_or (pt_not (pt_val (pe_call G1 (hr.mono (by decide)) (by rfl) D1.g D1.F.kp D1.b .nil pass0 (pa_cons (pv 0) pa_nil)))) (pw_or1 (pt_cmpR op_gt (pe_callB call_len_seq (by rfl) T.len PySem.boot_len (pa_cons (pv 0) pa_nil)) (pe_glob (v := .int 8) (by rfl) g8 ⟨_, rfl⟩) (nomark _))))) (pss_one (ps_ret pe_bl)) pss_nil)
      (pss_cons (ps_if (pt_not (pt_val (pe_callB (cr_all rfl) (by rfl) T.all (by decide +kernel) (pa_cons (pe_lc (own := [("pair", 1)]) (g := gName 1) (tt := tYes) rfl scIsShare.nd (pi_tup (pv 0)) (blkOk_by (N := ["thing", "pair", "number", "_"]) (sc := defScope sIsShare) (by decide +kernel)) (fun _ _ _ _ _ => pg_name (i := 1) scIsShare.nd rfl (Or.inl rfl)) (fun _ _ _ _ _ => pts_nil) (fun _ _ _ _ _ => pe_call G2 hr (by rfl) D2.g D2.F.kp D2.b .nil pass0 (pa_cons (pv 1) pa_nil))) pa_nil)))) (pss_one (ps_ret pe_bl)) pss_nil)
      (pss_one (ps_ret (pe_call G3 (hr.mono (by decide)) (by rfl) D3.g D3.F.kp D3.b .nil pass0 (pa_cons (pe_lc (own := [("number", 2), ("_", 3)]) (g := gTup K 2 (gCons (gName 2) (gCons (gName 3) gNil))) (tt := tYes) rfl scIsShare.nd (pi_tup (pv 0)) (blkOk_by (N := ["thing", "pair", "number", "_"]) (sc := defScope sIsShare) (by decide +kernel)) (fun _ _ _ _ _ => pg_tup rfl (pgs_cons (pg_name (i := 2) scIsShare.nd rfl (Or.inl rfl)) (pgs_cons (pg_name (i := 3) scIsShare.nd rfl (Or.inl rfl)) pgs_nil))) (fun _ _ _ _ _ => pts_nil) (fun _ _ _ _ _ => pv 2)) pa_nil))))), ?_⟩
    refine ⟨_, rfl, p, _, rfl, hp, _, rfl, iteF ?_⟩
    refine ⟨_, rfl, p, _, rfl, .inr hp, _, _, rfl, rfl, _, rfl, ?_⟩
    rw [hP.len]
    by_cases h8 : (8 : Int) < (xs.length : Int)
    · rw [decide_eq_true h8]
      refine iteT ?_
      have := k H (Same.refl H)
      rw [decide_eq_false (fun h : Shr xs => by have := h.1; omega)] at this
      exact this
    rw [decide_eq_false h8]
    refine iteF ?_
    refine ⟨_, rfl, p, rfl, ⟨_, hp⟩, fun D hD => lc_tup (K := K) (a := p) (xs := vs) (fun i H' => H' D = some (.lst (((xs.take i).map fun a => decide (GoodP a)).map V.bl)) ∧ Same H H') ⟨upd_same, Same.new hD⟩ (fun i H' _ ⟨_, s1⟩ => s1.tup hp) ?_ ?_⟩
    · rintro i v H' hi ⟨h1, s1⟩
      obtain ⟨q, r, m, x, rfl, hxi, hq, hr'⟩ := hP.get hi
      have hi2 : i < xs.length := (List.getElem?_eq_some_iff.mp hxi).1
      refine ⟨rfl, ?_⟩
      dsimp only [tYes]
      rw [if_pos rfl]
      refine ⟨_, rfl, q, r, m, x, rfl, s1.tup hq, s1.tup hr', _, h1, small1000 ?_, ?_, same_upd hD s1⟩
      · rw [List.length_map, List.length_map, List.length_take]; omega
      · rw [upd_same, take_snoc hxi, List.map_append, List.map_append]
        rfl
    · rintro H1 ⟨h1, s1⟩
      rw [hP.len, List.take_length] at h1
      refine ⟨D, _, rfl, SqL.of h1, _, rfl, ?_⟩
      by_cases hg : ∀ a ∈ xs, GoodP a
      · have e : ((xs.map fun a => decide (GoodP a)).all id) = true := by
          rw [List.all_map, List.all_eq_true]
          intro a ha
          exact decide_eq_true (hg a ha)
        rw [e]
        refine iteF ?_
        refine ⟨_, rfl, p, rfl, ⟨_, s1.tup hp⟩, fun D2 hD2 => lc_tup (K := K) (a := p) (xs := vs) (fun i H' => H' D2 = some (.lst (((xs.take i).map (·.1)).map V.int)) ∧ Same H1 H') ⟨upd_same, Same.new hD2⟩ (fun i H' _ ⟨_, s2⟩ => s2.tup (s1.tup hp)) ?_ ?_⟩
        · rintro i v H' hi ⟨h2, s2⟩
          obtain ⟨q, r, m, x, rfl, hxi, hq, hr'⟩ := hP.get hi
          have hi2 : i < xs.length := (List.getElem?_eq_some_iff.mp hxi).1
          refine ⟨q, _, rfl, s2.tup (s1.tup hq), rfl, _, _, rfl, _, _, rfl, rfl, rfl, ?_⟩
          dsimp only [tYes]
          rw [if_pos rfl]
          refine ⟨_, rfl, _, h2, small1000 ?_, ?_, same_upd hD2 s2⟩
          · rw [List.length_map, List.length_map, List.length_take]; omega
          · rw [upd_same, take_snoc hxi, List.map_append, List.map_append]
            rfl
        · rintro H2 ⟨h2, s2⟩
          rw [hP.len, List.take_length] at h2
          refine ⟨D2, xs.map (·.1), rfl, SqL.of h2, by rw [List.length_map]; exact hlen, fun H3 s3 => ?_⟩
          have := k H3 (s1.trans (s2.trans s3))
          have e2 : decide (Shr xs) = decide ((xs.map (·.1)).Pairwise (· < ·)) := by
            rw [decide_eq_decide]
            exact ⟨fun h => h.2.2, fun h => ⟨by omega, hg, h⟩⟩
          rw [e2] at this
          exact this
      · have e : ((xs.map fun a => decide (GoodP a)).all id) = false := by
          rw [Bool.eq_false_iff]
          intro h
          rw [List.all_map, List.all_eq_true] at h
          exact hg fun a ha => of_decide_eq_true (h a ha)
        rw [e]
        refine iteT ?_
        have := k H1 s1
        rw [decide_eq_false (fun h : Shr xs => hg h.2.1)] at this
        exact this
theorem scNeedShare : FnScope ["thing"] ["thing"] (defScope sNeedShare) := ⟨rfl, rfl, rfl, by decide +kernel, rfl, by decide +kernel, by decide +kernel⟩
theorem ok_need_share {f f1 : Addr} {fd fd1 : FuncData} (F : Df K mg "need_share" sNeedShare ["thing"] f fd) (D1 : Df K mg "is_share" sIsShare ["thing"] f1 fd1) (G1 : FnOk P w K mg base CX0 6 f1 fd1 ["thing"] (spIsSh K)) : FnOk P w K mg base CX0 7 f fd ["thing"] (spNeedSh K) := by
  refine F.F.ok scNeedShare (fun vs H Q E h => ?_) (fun cdv A outer s H vs Q E hr h => ?_)
  · obtain ⟨p, xs, rfl, _⟩ := h
    rfl
  · obtain ⟨p, xs, rfl, hp, hx, k⟩ := h
    refine ⟨_, pss_cons (ps_if (pt_not (pt_val (pe_call G1 hr (by rfl) D1.g D1.F.kp D1.b .nil pass0 (pa_cons (pv 0) pa_nil)))) (pss_one ps_never) pss_nil) (pss_one (ps_ret (pv 0))), ?_⟩
    refine ⟨_, rfl, p, xs, rfl, hp, by have := hx.1; omega, fun H' s' => ⟨_, rfl, ?_⟩⟩
    rw [decide_eq_true hx]
    exact iteF ⟨_, rfl, k _ s'⟩
end
end CS
set_option Elab.async false
set_option maxRecDepth 100000
set_option maxHeartbeats 4000000
set_option linter.unusedVariables false
/-! A function object as a value: what its call without arguments does is told by a promise over the abstract heap, in which the cells that it captured are tracked, too. -/
namespace CS
open PySem PySem.Spec PyProof.Rows L2 LamX
/-- the function object at f -/
def FunO (f : Addr) (fd : FuncData) : HO := .ext fun h => ∃ od sl, h.get? f = some (⟨.type "function", od, .func fd, sl⟩ : Obj)
/-- the very object at c -/
def CellX (c : Addr) (o : Obj) : HO := .ext fun h => h.get? c = some o
theorem funO_at {P : Program} {w : World} {H : Hp} {h : Heap} {f : Addr} {fd : FuncData} (ok : HOk P w H h) (e : H f = some (FunO f fd)) : ∃ od sl, h.get? f = some (⟨.type "function", od, .func fd, sl⟩ : Obj) := by
  have x : ObjOk P w H h f (FunO f fd) := ok f _ e
  exact x.1
theorem cellX_at {P : Program} {w : World} {H : Hp} {h : Heap} {c : Addr} {o : Obj} (ok : HOk P w H h) (e : H c = some (CellX c o)) : h.get? c = some o := by
  have x : ObjOk P w H h c (CellX c o) := ok c _ e
  exact x.1
theorem cellX_ok {P : Program} {w : World} {H : Hp} {h : Heap} {c : Addr} {o : Obj} (e : h.get? c = some o) : ObjOk P w H h c (CellX c o) := ⟨e, ⟨o, e⟩, fun _ _ z k => k _ z⟩
/-- with the objects of l tracked, without them -/
def addC (l : Addr → Option Obj) (H : Hp) : Hp := fun b => match l b with
  | some o => some (CellX b o)
  | none => H b
def Free (l : Addr → Option Obj) (H : Hp) : Prop := ∀ b o, l b = some o → H b = none
def Cin (l : Addr → Option Obj) (H : Hp) : Prop := ∀ b o, l b = some o → H b = some (CellX b o)
def subC (l : Addr → Option Obj) (H : Hp) : Hp := fun b => if (l b).isSome then none else H b
section
variable {l : Addr → Option Obj} {H H2 : Hp} {b : Addr} {o : Obj}
theorem addC_in (e : l b = some o) : addC l H b = some (CellX b o) := by
  unfold addC
  rw [e]
theorem addC_out (e : l b = none) : addC l H b = H b := by
  unfold addC
  rw [e]
theorem subC_in (e : l b = some o) : subC l H b = none := by
  unfold subC
  rw [e]
  rfl
theorem subC_out (e : l b = none) : subC l H b = H b := by
  unfold subC
  rw [e]
  rfl
theorem cin_add : Cin l (addC l H) := fun _ _ e => addC_in e
theorem free_sub : Free l (subC l H) := fun _ _ e => subC_in e
theorem sub_add (F : Free l H) : subC l (addC l H) = H := by
  funext b
  cases e : l b with
  | none => rw [subC_out e, addC_out e]
  | some o => rw [subC_in e, F b o e]
theorem add_sub (C : Cin l H) : addC l (subC l H) = H := by
  funext b
  cases e : l b with
  | none => rw [addC_out e, subC_out e]
  | some o => rw [addC_in e, C b o e]
theorem Cin.out (C : Cin l H) {u : HO} (e : H b = some u) (n : ∀ c o, u ≠ CellX c o) : l b = none := by
  cases q : l b with
  | none => rfl
  | some o =>
    have := C b o q
    rw [e] at this
    exact absurd (Option.some.inj this) (n b o)
theorem Free.out (F : Free l H) {u : HO} (e : H b = some u) : l b = none := by
  cases q : l b with
  | none => rfl
  | some o =>
    rw [F b o q] at e
    cases e
theorem cx_tup {c : Addr} {o : Obj} {xs : List V} : (HO.tup xs) ≠ CellX c o := fun z => by
  unfold CellX at z
  cases z
theorem cx_frz {c : Addr} {o o2 : Obj} {u : HO} : (HO.frz o2 u) ≠ CellX c o := fun z => by
  unfold CellX at z
  cases z
theorem cx_tbl {c : Addr} {o : Obj} {ps : Array Value} : (HO.tbl ps) ≠ CellX c o := fun z => by
  unfold CellX at z
  cases z
theorem sub_none (n : H b = none) : subC l H b = none := by
  unfold subC
  split
  · rfl
  · exact n
end
section
variable {P : Program} {w : World} {l : Addr → Option Obj} {H H2 : Hp} {h h' : Heap} {fs : List Addr}
theorem hok_sub (C : Cin l H) (ok : HOk P w H h) : HOk P w (subC l H) h := fun b u e => by
  have hb : l b = none := free_sub.out e
  rw [subC_out hb] at e
  refine (ok b u e).stay (fun _ _ _ q => q) (fun c hc => ?_) (fun c xs hc => ?_)
  · rw [subC_out (C.out hc fun _ _ z => by unfold CellX at z; cases z)]
    exact hc
  · rw [subC_out (C.out hc fun _ _ => cx_tup)]
    exact hc
theorem hok_add (F : Free l H2) (ok : HOk P w H2 h) (k : ∀ b o, l b = some o → h.get? b = some o) : HOk P w (addC l H2) h := fun b u e => by
  cases q : l b with
  | some o =>
    rw [addC_in q] at e
    cases e
    exact cellX_ok (k b o q)
  | none =>
    rw [addC_out q] at e
    refine (ok b u e).stay (fun _ _ _ q => q) (fun c hc => ?_) (fun c xs hc => ?_)
    · rw [addC_out (F.out hc)]
      exact hc
    · rw [addC_out (F.out hc)]
      exact hc
/-- the step of a body, told with the cells -/
theorem un_add (C : Cin l H) (F : Free l H2) (u : Un fs [] (subC l H) H2 h h') : Un fs [] H (addC l H2) h h' where
  keep := fun b o q n hb hx => u.keep b o q (sub_none n) hb hx
  slot := fun b o q n hb hx => u.slot b o q (sub_none n) hb hx
  free := fun b o q n hx => by
    have e : l b = none := by
      cases z : l b with
      | none => rfl
      | some o2 =>
        rw [C b o2 z] at n
        cases n
    rw [addC_out e]
    exact u.free b o q (sub_none n) hx
  there := u.there
  tups := fun b xs e => by
    have q := C.out e fun _ _ => cx_tup
    rw [addC_out q]
    exact u.tups b xs (by rw [subC_out q]; exact e)
  frzs := fun b o2 x e => by
    have q := C.out e fun _ _ => cx_frz
    rw [addC_out q]
    exact u.frzs b o2 x (by rw [subC_out q]; exact e)
  tbls := fun b ps e => by
    have q := C.out e fun _ _ => cx_tbl
    rw [addC_out q]
    exact u.tbls b ps (by rw [subC_out q]; exact e)
/-- .. and a caller's, told without them -/
theorem un_sub (F : Free l H) (C : Cin l H2) (hk : HOk P w H2 h') (hh : ∀ b o, l b = some o → h.get? b = some o) (u : Un fs [] (addC l H) H2 h h') : Un fs [] H (subC l H2) h h' where
  keep := fun b o q n hb hx => by
    cases z : l b with
    | none => exact u.keep b o q (by rw [addC_out z]; exact n) hb hx
    | some o2 =>
      have e := hh b o2 z
      rw [q] at e
      cases e
      exact cellX_at hk (C b _ z)
  slot := fun b o q n hb hx => by
    cases z : l b with
    | none => exact u.slot b o q (by rw [addC_out z]; exact n) hb hx
    | some o2 =>
      have e := hh b o2 z
      rw [q] at e
      cases e
      exact ⟨o.slots, cellX_at hk (C b _ z)⟩
  free := fun b o q n hx => by
    cases z : l b with
    | none => exact sub_none (u.free b o q (by rw [addC_out z]; exact n) hx)
    | some o2 => exact subC_in z
  there := u.there
  tups := fun b xs e => by
    have q := F.out e
    have := u.tups b xs (by rw [addC_out q]; exact e)
    rw [subC_out q]
    exact this
  frzs := fun b o2 x e => by
    have q := F.out e
    have := u.frzs b o2 x (by rw [addC_out q]; exact e)
    rw [subC_out q]
    exact this
  tbls := fun b ps e => by
    have q := F.out e
    have := u.tbls b ps (by rw [addC_out q]; exact e)
    rw [subC_out q]
    exact this
/-- an exception that leaves a body, told with the cells -/
theorem cx_add {outer : List Env} {s s' : Shared} {E : XK} {u : Value} (C : Cin l H) (ok : HOk P w H s.heap) (nf : ∀ b ∈ frs outer, H b = none) (c : L2.CX P w outer (subC l H) s (fun cls d H' => Free l H' → E cls d (addC l H')) u s') : L2.CX P w outer H s E u s' := by
  obtain ⟨a, B, H', cls, d, rfl, fl, hok, ub, na, os, ag, hE⟩ := c
  have hh : ∀ b o, l b = some o → s.heap.get? b = some o := fun b o e => cellX_at ok (C b o e)
  have nfr : ∀ b o, l b = some o → b ∉ frs outer := fun b o e z => by
    have := nf b z
    rw [C b o e] at this
    cases this
  have F : Free l H' := fun b o e => ub.free b o (hh b o e) (subC_in e)
  have kB : ∀ b o, l b = some o → B.get? b = some o := fun b o e => ub.keep b o (hh b o e) (subC_in e) (nfr b o e)
  refine ⟨a, B, addC l H', cls, d, rfl, fl, hok_add F hok kB, ⟨fun b o q n hb => ub.keep b o q (sub_none n) hb, ub.slot, fun b o q n => ?_, ub.there, fun b xs e => ?_, fun b o2 x e => ?_, fun b ps e => ?_⟩, ?_, os, ag, hE F⟩
  · have e : l b = none := by
      cases z : l b with
      | none => rfl
      | some o2 =>
        rw [C b o2 z] at n
        cases n
    rw [addC_out e]
    exact ub.free b o q (sub_none n)
  · have q := C.out e fun _ _ => cx_tup
    rw [addC_out q]
    exact ub.tups b xs (by rw [subC_out q]; exact e)
  · have q := C.out e fun _ _ => cx_frz
    rw [addC_out q]
    exact ub.frzs b o2 x (by rw [subC_out q]; exact e)
  · have q := C.out e fun _ _ => cx_tbl
    rw [addC_out q]
    exact ub.tbls b ps (by rw [subC_out q]; exact e)
  · cases z : l a with
    | none => rw [addC_out z]; exact na
    | some o =>
      have e1 := kB a o z
      have e2 : B.get? a = none := fl.2.1
      rw [e1] at e2
      cases e2
end
/-! what a function object's call does -/
abbrev Act := Addr → Hp → VK → XK → Prop
def ActOk (P : Program) (w : World) (K : PySem.W.Frag) (mg : Str → Option Value) (base : Heap) (k : Nat) (act : Act) : Prop :=
  ∀ (f : Addr) (A : Around) (outer : List Env) (s : Shared) (H : Hp) (Q : VK) (E : XK), Room k A → Env0 P w K mg base A outer s H → act f H Q E →
    (∃ fd, H f = some (FunO f fd)) ∧ codeAny (model P w) A (.call (.ref f) ⟨[], []⟩) (CR (L2.CX P w) outer P w H s Q E) s
section
variable {X : Cx} {act : Act} {k i : Nat} {x : Str} {E : L2.St → XK} {p pos : Pos}
def tAct (act : Act) (i : Nat) (E : L2.St → XK) : TE := fun σ H Q => ∃ f, σ[i]? = some (some (.ref f)) ∧ act f H Q (E σ)
/-- x(), x a name that holds such an object -/
theorem pe_act0 (ha : ActOk X.prog X.w X.K X.mg X.base k act) (hr : Room k X.A) (hx : ∀ σ, PassesAt (L2.CX X.prog X.w) X σ (E σ)) (hN : X.N[i]? = some x) (hv : Vis X.env.scope x) (hd : (x == ("__debug__" : Str)) = false := by decide) (hcd : (x == ("__classdict__" : Str)) = false := by decide) :
    PE X (.Call (.Name x p) [] [] pos) (tAct act i E) := by
  refine ⟨fun pins s σ H Q I h => ?_⟩
  obtain ⟨f, hs, q⟩ := h
  obtain ⟨⟨fd, hf⟩, hc⟩ := ha f X.A X.stack s H Q (E σ) hr I.env0 q
  have hv2 := (pe_var (pos := p) hN hv hd hcd).run pins s σ H (fun v H1 => v = .ref f ∧ H1 = H ∧ act f H Q (E σ)) I ⟨.ref f, hs, rfl, rfl, q⟩
  refine wpAny_Call_Name_kw (thn hv2 fun u s1 ⟨v, H1, I1, r1, ev, eH, q1⟩ => ?_)
  subst ev
  subst eH
  obtain rfl : u = Value.ref f := r1
  obtain ⟨⟨fd, hf⟩, hc⟩ := ha f X.A X.stack s1 H1 Q (E σ) hr I1.env0 q1
  obtain ⟨od, sl, ho⟩ := funO_at I1.hok hf
  refine PySem.W.callWith_F0 (first := []) ⟨_, od, _, sl, ho⟩ ?_
  show wpAny _ _ (call (.ref f) []) _ _ _
  refine wpAny_call (codeAny_mono hc fun r s' hq => ?_)
  match r with
  | .error er => exact hx σ pins H1 s1 er s' I1 hq
  | .ok (.ret u) => exact I1.after hq
  | .ok .next => exact hq.elim
  | .ok .brk => exact hq.elim
  | .ok .cont => exact hq.elim
end
/-! a lambda's call -/
/-- the scope of a lambda whose own names (its parameters) are none of N -/
structure LScope (sc scope : Scope) (N : List Str) : Prop where
  kind : scope.kind = .function
  co : scope.isCoroutine = false
  gen : scope.isGenerator = false
  cell : ∀ y ∈ scope.names, y.2 ≠ .cell
  own : ∀ y ∈ scope.names, y.2 = .local → y.1 ∉ N
  free : ∀ y ∈ scope.names, y.2 = .free → sc.names.lookup y.1 = some .cell ∨ sc.names.lookup y.1 = some .free
theorem LScope.has {X : Cx} {scope : Scope} {N : List Str} (L : LScope X.env.scope scope N) (ok : X.Ok) : ∀ y ∈ scope.names, y.2 = .free → ∃ c, X.env.cells.lookup y.1 = some c := fun y hy e =>
  (L.free y hy e).elim (fun k => ok.has _ (.inl k)) fun k => ok.has _ (.inr k)
abbrev clo (X : Cx) (scope : Scope) : List (Str × Addr) := cloFrom X.env.cells scope.names []
abbrev lfd (X : Cx) (scope : Scope) (params : Arguments) (body : Expr) (c' : Addr) (dV doc pm ctv : Value) : FuncData :=
  PySem.W.kdv_fn "<lambda>" (X.env.qual ++ "<lambda>") params (.expr body) scope (clo X scope) dV doc pm (.ref c') ctv
/-- the objects of l are the captured cells, with what the slots tell -/
structure Held (X : Cx) (scope : Scope) (σ : L2.St) (l : Addr → Option Obj) : Prop where
  all : ∀ y c, (clo X scope).lookup y = some c → ∃ o v, l c = some o ∧ o.data = .cell v
  val : ∀ (i : Nat) (x : Str) (v : V), X.N[i]? = some x → σ[i]? = some (some v) → scope.names.lookup x = some .free → ∃ c o u, (clo X scope).lookup x = some c ∧ l c = some o ∧ o.data = .cell (some u) ∧ RelV v u
section
variable {X : Cx} {scope : Scope} {σ : L2.St} {l : Addr → Option Obj} {params : Arguments} {body : Expr} {f c' : Addr} {dV doc pm ctv : Value} {k : Nat} {binds : List (Str × Value)} {E : XK} {tb : TE}
theorem lam_inv {A : Around} {outer : List Env} {s : Shared} {H : Hp} {h₁ : Heap} {tk : Nat} (ok : X.Ok) (L : LScope X.env.scope scope X.N) (V : Held X scope σ l) (hlen : σ.length = X.N.length) (C : Cin l H) (e0 : Env0 X.prog X.w X.K X.mg X.base A outer s H) (hd : A.handled = none)
    (hns : h₁.Ns s.heap.objs.size fun y => binds.reverse.lookup y) (kp : ∀ b o, s.heap.get? b = some o → h₁.get? b = some o) : Inv (lamCx X A outer s (subC l H) E scope f c') [] σ (subC l H) { s with heap := h₁, toks := tk } := by
  have hfree := L.has ok
  have at_ : ∀ {c o}, l c = some o → s.heap.get? c = some o := fun {c o} e => cellX_at e0.hok (C c o e)
  have hs := hok_sub C e0.hok
  refine {
    ok := {
      mod := e0.mod, kind := L.kind, glob := rfl, blt := rfl, above := Nat.le_refl _
      inj := fun y z c e1 e2 => ok.inj y z c (NdefX.clo_cm hfree e1) (NdefX.clo_cm hfree e2)
      has := fun y hy => ?_
      cab := fun y c z _ => absurd (show false = true from z) (by decide)
      hd := fun _ => hd
      frames := Around.frames_deeper e0.frames
      stk := .inr ⟨rfl, rfl⟩
      exf := fun b z => absurd (show b ∈ ([] : List Addr) from z) (by simp)
      bs := fun b o e => ⟨(e0.bs b o e).1, sub_none (e0.bs b o e).2⟩
      bsz := e0.bsz
      noex := fun b _ _ z => absurd (show b ∈ ([] : List Addr) from z) (by simp)
      exfs := fun b z => absurd (show b ∈ ([] : List Addr) from z) (by simp)
      funs := e0.funs
      frf := fun b hb => sub_none (e0.frf b hb) }
    os := rfl
    bare := e0.bare
    base := Un.kept kp
    loc := ⟨_, hns, fun i y v e1 e2 e3 => ?_⟩
    cell := fun y c e => ?_
    free := hs.fresh (Nat.le_refl _)
    freeC := fun y c e => ?_
    pin := fun q hq => absurd (show q ∈ ([] : List (Addr × Obj)) ++ [] from hq) (by simp)
    hok := hs.kept kp
    len := hlen }
  · have hy : scope.names.lookup y = some .cell ∨ scope.names.lookup y = some .free := hy
    rcases hy with hy | hy
    · exact absurd rfl (L.cell _ (PySem.mem_of_lookup hy))
    · obtain ⟨c, hc⟩ := hfree _ (PySem.mem_of_lookup hy) rfl
      exact ⟨c, NdefX.clo_has hfree (PySem.mem_of_lookup hy) hc⟩
  · have e3 : Vis scope y := e3
    have e1 : X.N[i]? = some y := e1
    rcases e3 with q | q | q
    · exact absurd (List.mem_of_getElem? e1) (L.own _ (PySem.mem_of_lookup q) rfl)
    · exact absurd rfl (L.cell _ (PySem.mem_of_lookup q))
    · obtain ⟨c, o, u, h1, h2, h3, r⟩ := V.val i y v e1 e2 q
      exact ⟨u, r, .inr ⟨.inr q, c, h1, o, kp _ _ (at_ h2), h3⟩⟩
  · obtain ⟨o, v, h1, h2⟩ := V.all y c e
    exact ⟨v, o, kp _ _ (at_ h1), h2⟩
  · obtain ⟨o, v, h1, h2⟩ := V.all y c e
    exact subC_in h1
/-- how its parameters are bound where nothing is passed -/
def BindL (X : Cx) (scope : Scope) (params : Arguments) (body : Expr) (dV : Value) (H : Hp) : Prop := ∀ (P : Program) (w : World) (s : Shared) (c' : Addr) (doc pm ctv : Value), HOk P w H s.heap →
  ∃ binds, BindsTo s (lfd X scope params body c' dV doc pm ctv) ⟨[], []⟩ binds ∧ ∀ y ∈ binds, scope.names.lookup y.1 = some .local
/-- what such an object's call does: the body's reading, over what is tracked but the cells -/
def lact (X : Cx) (scope : Scope) (params : Arguments) (body : Expr) (σ : L2.St) (l : Addr → Option Obj) (tb : XK → TE) : Act := fun f H Q E =>
  ∃ (c' : Addr) (dV doc pm ctv : Value) (H1 : Hp) (Q0 : VK) (E0 : XK), H = addC l H1 ∧ Free l H1 ∧ H1 f = some (FunO f (lfd X scope params body c' dV doc pm ctv)) ∧ H1 c' = some (CodeO c' (X.env.qual ++ "<lambda>")) ∧
    BindL X scope params body dV H ∧ tb E0 σ H1 Q0 ∧ (∀ v H2, Free l H2 → Q0 v H2 → Q v (addC l H2)) ∧ ∀ cls d H2, Free l H2 → E0 cls d H2 → E cls d (addC l H2)
theorem lact_ok {tb : XK → TE} (ok : X.Ok) (L : LScope X.env.scope scope X.N) (V : Held X scope σ l) (hlen : σ.length = X.N.length)
    (hb : ∀ (A : Around) (outer : List Env) (s : Shared) (H : Hp) (E : XK) (f c' : Addr), Room k (A.deeper (lamEnv X scope s.heap.objs.size f c')) → PE (lamCx X A outer s H E scope f c') body (tb E)) :
    ActOk X.prog X.w X.K X.mg X.base (k + 1) (lact X scope params body σ l tb) := by
  intro f A outer s H Q E hr e0 h
  obtain ⟨c', dV, doc, pm, ctv, H1, Q0, E0, rfl, F, hf, hc, hbind, q, hQ, hE⟩ := h
  have hf2 : addC l H1 f = some (FunO f (lfd X scope params body c' dV doc pm ctv)) := by rw [addC_out (F.out hf)]; exact hf
  have hc2 : addC l H1 c' = some (CodeO c' (X.env.qual ++ "<lambda>")) := by rw [addC_out (F.out hc)]; exact hc
  refine ⟨⟨_, hf2⟩, ?_⟩
  obtain ⟨od, sl, ho⟩ := funO_at e0.hok hf2
  have C : Cin l (addC l H1) := cin_add
  have es : subC l (addC l H1) = H1 := sub_add F
  obtain ⟨binds, hbi, hloc⟩ := hbind _ _ s c' doc pm ctv e0.hok
  refine PySem.W.kla_callFunE hr.depth ho rfl L.co L.gen rfl (NdefX.codeO_at e0.hok hc2) (hbi _ _ _ _ ?_)
  refine wpAny_newFunctionEnv L.cell hloc (fun h₁ hns hsb => ⟨((e0.mod.nolimit).keeps fun b o e => (e0.bs b o e).1).fresh _ hsb, ?_⟩) L.kind
  show codeAny _ _ (.expr body (lamEnv X scope s.heap.objs.size f c')) _ _
  have kp : ∀ b o, s.heap.get? b = some o → h₁.get? b = some o := fun b o e => hsb.extBut b o (Nat.ne_of_lt (Heap.lt_size e)) (Heap.get?_push_of_some _ e)
  have I := lam_inv (E := E0) (f := f) (c' := c') (tk := s.toks + binds.length) ok L V hlen C e0 hr.hd hns kp
  rw [es] at I
  have nfr : ∀ b ∈ frs outer, addC l H1 b = none := e0.frf
  have cx : ∀ {e : Value} {s3 : Shared}, L2.CX X.prog X.w outer H1 s E0 e s3 → L2.CX X.prog X.w outer (addC l H1) s E e s3 := fun {e s3} hx => by
    refine cx_add C e0.hok nfr ?_
    rw [es]
    obtain ⟨a, B, H', cls, d, x1, x2, x3, x4, x5, x6, x7, x8⟩ := hx
    exact ⟨a, B, H', cls, d, x1, x2, x3, x4, x5, x6, x7, fun F' => hE cls d H' F' x8⟩
  refine PySem.W.kla_codeExpr (wpAny_mono ((hb A outer s H1 E0 f c' (hr.deeper _)).run [] _ σ H1 Q0 I q) (fun u s2 hq => ?_) fun e s2 he => wpAny_mono he (fun _ _ hx => cx hx) fun _ _ hx => cx hx)
  obtain ⟨v, H2, I2, r, q2⟩ := hq
  have F2 : Free l H2 := fun b o e => I2.base.free b o (cellX_at e0.hok (C b o e)) (F b o e) (by intro z; cases z)
  have un : Un (frs outer) [] (subC l (addC l H1)) H2 s.heap s2.heap := by rw [es]; exact I2.base
  refine ⟨v, addC l H2, I2.os, I2.bare, un_add C F2 un, hok_add F2 I2.hok fun b o e => ?_, r, hQ v H2 F2 q2⟩
  refine I2.base.keep b o (cellX_at e0.hok (C b o e)) (F b o e) (fun z => ?_) (by intro z; cases z)
  have := nfr b z
  rw [C b o e] at this
  cases this
end
end CS
set_option Elab.async false
set_option maxRecDepth 100000
set_option maxHeartbeats 4000000
set_option linter.unusedVariables false
namespace CS
open PySem PySem.Spec PyProof.Rows L2 LamX
/-! the making of such an object; a def that is handed it -/
theorem funO_ok {P : Program} {w : World} {H : Hp} {h : Heap} {f : Addr} {fd : FuncData} {od : Option Addr} {sl : Array (Option Value)} (e : h.get? f = some (⟨.type "function", od, .func fd, sl⟩ : Obj)) : ObjOk P w H h f (FunO f fd) :=
  ⟨⟨od, sl, e⟩, ⟨_, e⟩, fun _ _ ⟨a, b, z⟩ k => ⟨a, b, k _ z⟩⟩
/-- one more code object of the name q in the table -/
theorem tabs_more {T : List (Addr × Str)} {H : Hp} {P c' : Addr} {q : Str} {ps : Array Value} {pos : Pos} (hT : Tabs T H) (hP : H P = some (.tbl ps)) (ht : TriplesOk ps.toList) (hn : H c' = none) (hu : ∀ p ∈ T, p.1 = P → p.2 = q) :
    Tabs T (upd (upd H P (.tbl (ps ++ #[rawInt pos.line, rawInt pos.col, .ref c']))) c' (CodeO c' q)) := by
  have nP : P ≠ c' := ne_of_none hP hn
  rintro ⟨B, z⟩ hp
  obtain ⟨bs, b1, b2, b3⟩ := hT _ hp
  have nB : B ≠ c' := ne_of_none b1 hn
  have old : ∀ c, H c = some (CodeO c z) → upd (upd H P (.tbl (ps ++ #[rawInt pos.line, rawInt pos.col, .ref c']))) c' (CodeO c' q) c = some (CodeO c z) := fun c hc => by
    rw [upd_ne (ne_of_none hc hn), upd_ne (fun y => by rw [y, hP] at hc; exact codeO_ne _ (Option.some.inj hc).symm)]
    exact hc
  by_cases e : B = P
  · subst e
    obtain rfl : z = q := hu _ hp rfl
    rw [show H B = _ from b1] at hP
    cases hP
    refine ⟨_, by show upd _ _ _ B = _; rw [upd_ne nB, upd_same], ?_, fun p2 cv hcv => ?_⟩
    · rw [Array.toList_append]
      exact PySem.TriplesOk_snoc _ _ _ _ b2
    · rw [Array.toList_append] at hcv
      rcases among_app _ b2 hcv with y | y
      · obtain ⟨c, rfl, hc⟩ := b3 p2 cv y
        exact ⟨c, rfl, old c hc⟩
      · exact ⟨c', y, upd_same⟩
  · refine ⟨bs, by show upd _ _ _ B = _; rw [upd_ne nB, upd_ne e]; exact b1, b2, fun p2 cv hcv => ?_⟩
    obtain ⟨c, rfl, hc⟩ := b3 p2 cv hcv
    exact ⟨c, rfl, old c hc⟩
section
variable {X : Cx} {pins : List (Addr × Obj)} {σ : L2.St} {H : Hp} {s : Shared} {scope : Scope} {params : Arguments} {body : Expr}
/-- the object alone is new -/
theorem fun_new {c' : Addr} {dV doc pm ctv : Value} {tk : Nat} (I : Inv X pins σ H s) : Inv X pins σ (upd H s.heap.objs.size (FunO s.heap.objs.size (lfd X scope params body c' dV doc pm ctv))) { s with heap := s.heap.push (PySem.W.kdv_obj "<lambda>" (X.env.qual ++ "<lambda>") params (.expr body) scope (clo X scope) dV doc pm c' ctv), toks := tk } :=
  I.laid (fun b u e => Heap.get?_push_of_some _ e) (Nat.le_refl _) (funO_ok (Heap.get?_push_size _ rfl))
/-- what is known behind the making -/
def Made (X : Cx) (scope : Scope) (params : Arguments) (body : Expr) (T : List (Addr × Str)) (H : Hp) (dV : Value) (f : Addr) (H1 : Hp) : Prop :=
  ExtN H H1 ∧ Tabs T H1 ∧ H f = none ∧ ∃ (c' : Addr) (doc pm ctv : Value), H1 f = some (FunO f (lfd X scope params body c' dV doc pm ctv)) ∧ H1 c' = some (CodeO c' (X.env.qual ++ "<lambda>"))
theorem lam_made {T : List (Addr × Str)} {c P : Addr} {pos : Pos} {dV : Value} {E : Value → Shared → Prop} {Q : Value → Shared → Prop} (I : Inv X pins σ H s) (TB : TabB X.base X.mg c P) (hcode : X.env.code = .ref c) (hm : (P, X.env.qual ++ "<lambda>") ∈ T)
    (hu : ∀ p ∈ T, p.1 = P → p.2 = X.env.qual ++ "<lambda>") (hT : Tabs T H) (hfree : ∀ y ∈ scope.names, y.2 = .free → ∃ c, X.env.cells.lookup y.1 = some c) (h : ∀ f H1 s', Inv X pins σ H1 s' → Made X scope params body T H dV f H1 → Q (.ref f) s') :
    wpAny (model X.prog X.w) X.A (makeTail "<lambda>" (X.env.qual ++ "<lambda>") params (.expr body) scope X.env dV .none none pos pos.line) Q E s := by
  obtain ⟨ps, hP, ht, ha⟩ := hT _ hm
  have gP : s.heap.get? P = some (PySem.W.tabObj ps) := I.hok P _ hP
  cases hc : codeAmong pos ps.toList with
  | some cv =>
    obtain ⟨c', rfl, hc'⟩ := ha pos cv hc
    refine PySem.W.kdv_makeTailHit (closure_ok hfree) I.ok.glob (I.mod.glob.keeps I.bk) hcode (TB.code.keeps I.bk) gP ht hc (TB.bm.keeps I.bk) fun ctv doc h' tk hx hge => ?_
    have I1 : Inv X pins σ H { s with heap := h', toks := tk } := I.kept hx
    have n1 : H h'.objs.size = none := I1.hok.fresh (Nat.le_refl _)
    refine h _ _ _ (fun_new (c' := c') (tk := tk) I1) ⟨fun b o e _ => by rw [upd_ne (ne_of_none e n1)]; exact e, hT.ext fun b o e => by rw [upd_ne (ne_of_none e n1)]; exact e, n1, c', doc, _, ctv, upd_same, by rw [upd_ne (ne_of_none hc' n1)]; exact hc'⟩
  | none =>
    refine PySem.W.kdv_makeTail (closure_ok hfree) I.ok.glob (I.mod.glob.keeps I.bk) hcode (TB.code.keeps I.bk) gP ht hc TB.gP (TB.bm.keeps I.bk) fun c' ctv doc h' tk hx hge _ hrec htb => ?_
    obtain ⟨c2, oc, vs, t, e2, r1, r2, r3⟩ := hrec
    cases e2
    have nC : H c' = none := I.hok.fresh hge
    have I1 := inv_table (t' := tk) I hP (fun b o hb e => hx b o hb e) htb hge ⟨oc, vs, t, r1, r2, r3⟩
    have n1 := I1.hok.fresh (a := h'.objs.size) (Nat.le_refl _)
    have T1 := tabs_more (pos := pos) hT hP ht nC hu
    have X1 : ExtN H (upd (upd H P (.tbl (ps ++ #[rawInt pos.line, rawInt pos.col, .ref c']))) c' (CodeO c' (X.env.qual ++ "<lambda>"))) := fun b o e n => by
      rw [upd_ne (ne_of_none e nC), upd_ne (fun y => by rw [y, hP] at e; cases e; exact n _ rfl)]
      exact e
    have hc' : upd (upd H P (.tbl (ps ++ #[rawInt pos.line, rawInt pos.col, .ref c']))) c' (CodeO c' (X.env.qual ++ "<lambda>")) c' = some (CodeO c' (X.env.qual ++ "<lambda>")) := upd_same
    have nH : H h'.objs.size = none := by
      by_cases y : h'.objs.size = c'
      · rw [y]; exact nC
      · by_cases y2 : h'.objs.size = P
        · rw [y2, upd_ne (ne_of_none hP nC), upd_same] at n1
          cases n1
        · rw [upd_ne y, upd_ne y2] at n1
          exact n1
    generalize upd (upd H P (.tbl (ps ++ #[rawInt pos.line, rawInt pos.col, .ref c']))) c' (CodeO c' (X.env.qual ++ "<lambda>")) = H2 at *
    refine h _ _ _ (fun_new (c' := c') (tk := tk) I1) ⟨X1.trans fun b o e _ => by rw [upd_ne (ne_of_none e n1)]; exact e, T1.ext fun b o e => by rw [upd_ne (ne_of_none e n1)]; exact e, nH, c', doc, _, ctv, upd_same, by rw [upd_ne (ne_of_none hc' n1)]; exact hc'⟩
/-- lambda: body -/
def tLamV (X : Cx) (scope : Scope) (params : Arguments) (body : Expr) (T : List (Addr × Str)) : TE := fun _ H Q => Tabs T H ∧ ∀ f H1 dV, Made X scope params body T H dV f H1 → BindL X scope params body dV H1 → Q (.ref f) H1
theorem Made.of_ext {T : List (Addr × Str)} {H0 H1 : Hp} {dV : Value} {f : Addr} (e : ∀ b o, H b = some o → H0 b = some o) (n : ∀ b, H0 b = none → H b = none) (m : Made X scope params body T H0 dV f H1) : Made X scope params body T H dV f H1 :=
  ⟨(ExtN.of e).trans m.1, m.2.1, n _ m.2.2.1, m.2.2.2⟩
theorem pe_lam0 {T : List (Addr × Str)} {c P : Addr} {pos : Pos} (TB : TabB X.base X.mg c P) (hcode : X.env.code = .ref c) (hm : (P, X.env.qual ++ "<lambda>") ∈ T)
    (hu : ∀ p ∈ T, p.1 = P → p.2 = X.env.qual ++ "<lambda>") (L : LScope X.env.scope scope X.N) (hp : params = ⟨[], [], none, [], [], none, []⟩) : PE X (.Lambda params body scope pos) (tLamV X scope params body T) := by
  subst hp
  refine ⟨fun pins s σ H Q I ⟨hT, h⟩ => ?_⟩
  refine PySem.W.kla_eval rfl ?_
  rw [makeFunction_eq]
  simp only [List.zip_nil_right, List.filterMap_nil, List.isEmpty_nil, if_true, pure_bind]
  refine lam_made I TB hcode hm hu hT (L.has I.ok) fun f H1 s' I1 m => ⟨.ref f, H1, I1, rfl, h f H1 .none m fun P w s c' doc pm ctv _ => ⟨[], .of_eq rfl, fun _ z => nomatch z⟩⟩
theorem pe_lam1 {T : List (Addr × Str)} {c P : Addr} {pos p1 p2 : Pos} {x : Str} {i : Int} {j : Nat} (TB : TabB X.base X.mg c P) (hcode : X.env.code = .ref c) (hm : (P, X.env.qual ++ "<lambda>") ∈ T)
    (hu : ∀ p ∈ T, p.1 = P → p.2 = X.env.qual ++ "<lambda>") (L : LScope X.env.scope scope X.N) (hx : scope.names.lookup x = some .local) (hp : params = ⟨[], [⟨x, none, p1⟩], none, [], [], none, [.Constant (.int i) j p2]⟩) : PE X (.Lambda params body scope pos) (tLamV X scope params body T) := by
  subst hp
  refine ⟨fun pins s σ H Q I ⟨hT, h⟩ => ?_⟩
  refine PySem.W.kdv_lam rfl rfl (evalAll_cons ?_)
  have h0 := (pe_int (X := X) (i := i) (j := j) (pos := p2)).run pins s σ H (fun v H1 => v = .int i ∧ H1 = H) I ⟨rfl, rfl⟩
  refine thn h0 fun u s1 ⟨v, H1, I1, r, ev, eH⟩ => ?_
  subst ev
  subst eH
  obtain ⟨t, rfl⟩ := r
  refine evalAll_nil ?_
  rw [makeFunction_eq]
  simp only [List.zip_nil_right, List.filterMap_nil, List.isEmpty_nil, if_true, pure_bind, List.isEmpty_cons, Bool.false_eq_true, if_false]
  refine wpAny_bind (wpAny_newTextTuple ?_)
  have nd : H1 s1.heap.objs.size = none := I1.hok.fresh (Nat.le_refl _)
  have I2 : Inv X pins σ (upd H1 s1.heap.objs.size (.tup [.int i])) { s1 with heap := s1.heap.push { cls := .type "tuple", data := .seq [Value.int i t].toArray } } :=
    I1.laid (t' := s1.toks) (fun b u e => Heap.get?_push_of_some _ e) (Nat.le_refl _) ⟨by show 1 ≤ sizeLine; decide, [Value.int i t], .cons ⟨t, rfl⟩ .nil, ⟨_, Heap.get?_push_size _ rfl, rfl, _, rfl⟩⟩
  have e2 : ∀ b o, H1 b = some o → upd H1 s1.heap.objs.size (.tup [.int i]) b = some o := fun b o e => by
    rw [upd_ne (ne_of_none e nd)]
    exact e
  have hT2 := hT.ext e2
  have ht : upd H1 s1.heap.objs.size (.tup [.int i]) s1.heap.objs.size = some (.tup [.int i]) := upd_same
  have n2 : ∀ b, upd H1 s1.heap.objs.size (.tup [.int i]) b = none → H1 b = none := fun b z => NdefX.upd_none z
  generalize upd H1 s1.heap.objs.size (.tup [.int i]) = H2 at *
  refine lam_made I2 TB hcode hm hu hT2 (L.has I2.ok) fun f H3 s' I3 m => ⟨.ref f, H3, I3, rfl, h f H3 _ (m.of_ext e2 n2) fun P w s c' doc pm ctv ok => ?_⟩
  have ht3 : H3 s1.heap.objs.size = some (.tup [.int i]) := m.1 _ _ ht fun _ z => by cases z
  obtain ⟨_, its, vs, o, h1, h2, n, h3⟩ := (show ObjOk P w H3 s.heap s1.heap.objs.size (.tup [.int i]) from ok _ _ ht3)
  cases vs with
  | @cons _ u _ ur ra rw' =>
    cases rw'
    exact ⟨[(x, u)], .of_defaults rfl h1 h3 rfl (by simp), fun y hy => by
      rw [List.mem_singleton.mp hy]
      exact hx⟩
end
section
variable {X : Cx} {scope : Scope} {params : Arguments} {body : Expr} {k : Nat}
/-- the captured cells' objects, now -/
def heldNow (X : Cx) (scope : Scope) (h : Heap) : Addr → Option Obj := fun c => if (clo X scope).any (fun p => decide (p.2 = c)) then h.get? c else none
theorem held_mem {h : Heap} {c : Addr} {o : Obj} (e : heldNow X scope h c = some o) : (∃ y, (y, c) ∈ clo X scope) ∧ h.get? c = some o := by
  unfold heldNow at e
  split at e
  · rename_i q
    obtain ⟨⟨y, c2⟩, hp, z⟩ := List.any_eq_true.mp q
    exact ⟨⟨y, of_decide_eq_true z ▸ hp⟩, e⟩
  · cases e
theorem held_in {h : Heap} {y : Str} {c : Addr} (e : (clo X scope).lookup y = some c) : heldNow X scope h c = h.get? c := by
  unfold heldNow
  rw [if_pos (List.any_eq_true.mpr ⟨(y, c), PySem.mem_of_lookup e, decide_eq_true rfl⟩)]
theorem clo_mem (L : LScope X.env.scope scope X.N) (ok : X.Ok) {y : Str} {c : Addr} (e : (y, c) ∈ clo X scope) : X.env.cells.lookup y = some c := by
  rcases cloFrom_mem e with hm | ⟨h1, h2⟩
  · cases hm
  · obtain ⟨c1, hc⟩ := L.has ok _ h1 rfl
    have hc : X.env.cells.lookup y = some c1 := hc
    rw [h2, hc]
    rfl
theorem held_of {pins : List (Addr × Obj)} {σ : L2.St} {H : Hp} {s : Shared} (L : LScope X.env.scope scope X.N) (I : Inv X pins σ H s) : Held X scope σ (heldNow X scope s.heap) ∧ Free (heldNow X scope s.heap) H := by
  have hfree := L.has I.ok
  refine ⟨⟨fun y c e => ?_, fun i x v e1 e2 e3 => ?_⟩, fun c o e => ?_⟩
  · obtain ⟨v, o, ho, hd⟩ := I.cell y c (NdefX.clo_cm hfree e)
    exact ⟨o, v, by rw [held_in e]; exact ho, hd⟩
  · obtain ⟨m, hn, hl⟩ := I.loc
    have hm := PySem.mem_of_lookup e3
    have hvis : Vis X.env.scope x := (L.free _ hm rfl).elim (fun k => .inr (.inl k)) fun k => .inr (.inr k)
    obtain ⟨u, r, lo⟩ := hl i x v e1 e2 hvis
    rcases lo with ⟨k, _⟩ | ⟨_, c, ec, o, ho, hd⟩
    · rcases L.free _ hm rfl with k2 | k2 <;> (rw [show X.env.kindOf x = _ from k2] at k; cases k)
    · have e4 := NdefX.clo_has hfree hm ec
      exact ⟨c, o, u, e4, by rw [held_in e4]; exact ho, hd, r⟩
  · obtain ⟨⟨y, hy⟩, _⟩ := held_mem e
    exact I.freeC y c (clo_mem L I.ok hy)
/-- what a def makes of the exceptions of what it is handed, is the same with cells tracked -/
def Nat1 (Wx : Value → Option Addr → Hp → VK → Prop) : Prop := ∀ (l : Addr → Option Obj) (cls : Value) (d : Option Addr) (H : Hp) (Q : VK), Free l H → Wx cls d H Q → Wx cls d (addC l H) (fun v H2 => Cin l H2 ∧ Q v (subC l H2))
/-- the promise of a def that calls what it is handed, gives out what that gives, and makes Wx of its exceptions -/
def spGive (Wx : Value → Option Addr → Hp → VK → Prop) (act : Act) : Sp := fun vs H Q _ => ∃ f, vs = [.ref f] ∧ act f H Q (fun cls d H' => Wx cls d H' Q)
/-- x(lambda: body) -/
theorem pe_give {Wx : Value → Option Addr → Hp → VK → Prop} {T : List (Addr × Str)} {x a : Str} {g : Addr} {fd : FuncData} {j : Nat} {tb : XK → TE} {p lpos pos : Pos} (nat : Nat1 Wx)
    (G : ∀ act, ActOk X.prog X.w X.K X.mg X.base (k + 1) act → FnOk X.prog X.w X.K X.mg X.base CX0 j g fd [a] (spGive Wx act)) (hr : Room j X.A) (hg : Gl X x) (hm : X.mg x = some (.ref g)) (hk : PySem.W.keepIn X.K (.ref g) = true) (hb : Binds X.K fd [a] [])
    (hfn : ∀ y, X.fn y = true) (L : LScope X.env.scope scope X.N) (he : PE X (.Lambda params body scope lpos) (tLamV X scope params body T))
    (hbody : ∀ (A : Around) (outer : List Env) (s : Shared) (H : Hp) (E : XK) (f c' : Addr), Room k (A.deeper (lamEnv X scope s.heap.objs.size f c')) → PE (lamCx X A outer s H E scope f c') body (tb E)) (hdb : (x == ("__debug__" : Str)) = false := by decide) :
    PE X (.Call (.Name x p) [.Lambda params body scope lpos] [] pos) (fun σ H Q => Tabs T H ∧ ∀ H1, ExtN H H1 → Tabs T H1 → tb (fun cls d H2 => Wx cls d H2 Q) σ H1 Q) := by
  refine ⟨fun pins s σ H Q I ⟨hT, h⟩ => ?_⟩
  refine wpAny_Call_Name_kw (ld_glob I hg hm ?_ hdb)
  refine PySem.W.callWith_K (h₀ := X.base) I.ok.mod.kin hk (thn ((pa_cons he pa_nil).run pos pins s σ H (fun vs H1 => ∃ f dV, vs = [.ref f] ∧ Made X scope params body T H dV f H1 ∧ BindL X scope params body dV H1) I ⟨hT, fun f H1 dV m b => ⟨f, dV, rfl, m, b⟩⟩) fun us s1 ⟨vs, H1, I1, r, f, dV, ev, m, bl⟩ => ⟨I1.kIn, ?_⟩) rfl rfl
  subst ev
  obtain ⟨V, F⟩ := held_of L I1
  obtain ⟨x1, t1, nf, c', doc, pm, ctv, hf, hc⟩ := m
  have q := h H1 x1 t1
  have hh : ∀ b o, heldNow X scope s1.heap b = some o → s1.heap.get? b = some o := fun b o e => (held_mem e).2
  have cell_hi : ∀ b o, heldNow X scope s1.heap b = some o → X.s_0.heap.objs.size ≤ b := fun b o e => by
    obtain ⟨⟨y, hy⟩, _⟩ := held_mem e
    exact I.ok.cab y b (hfn y) (clo_mem L I.ok hy)
  have cell_ne : ∀ b o, heldNow X scope s1.heap b = some o → b ≠ X.env.locals := fun b o e => by
    obtain ⟨⟨y, hy⟩, _⟩ := held_mem e
    exact I1.cne y b (clo_mem L I.ok hy)
  have okA := hok_add F I1.hok hh
  generalize heldNow X scope s1.heap = l at *
  have A := lact_ok (params := params) (body := body) I.ok L V I1.len hbody
  have e0 := I1.env0
  have none_of : ∀ b, H1 b = none → l b = none → addC l H1 b = none := fun b n e => by rw [addC_out e]; exact n
  have lbase : ∀ b o, X.base.get? b = some o → l b = none := fun b o e => by
    cases z : l b with
    | none => rfl
    | some o2 => exact absurd (Nat.lt_of_lt_of_le (Heap.lt_size e) I.ok.bsz) (Nat.not_lt.mpr (cell_hi b o2 z))
  have lfr : ∀ b ∈ frs X.stack, l b = none := fun b hb => by
    cases z : l b with
    | none => rfl
    | some o2 =>
      rcases List.mem_cons.mp (I1.stkSub b hb) with y | y
      · exact absurd y (cell_ne b o2 z)
      · obtain ⟨_, ob, hob, _⟩ := I1.ok.funs.mem y
        exact absurd (Heap.lt_size hob) (Nat.not_lt.mpr (cell_hi b o2 z))
  have e1 : Env0 X.prog X.w X.K X.mg X.base X.A X.stack s1 (addC l H1) := ⟨e0.frames, e0.mod, fun b o e => ⟨(e0.bs b o e).1, none_of b (e0.bs b o e).2 (lbase b o e)⟩, e0.bsz, e0.funs, fun b hb => none_of b (e0.frf b hb) (lfr b hb), okA, e0.bare⟩
  have hsp : spGive Wx (lact X scope params body σ l tb) [.ref f] (addC l H1) (fun v H2 => Cin l H2 ∧ Q v (subC l H2)) (fun _ _ _ => False) := by
    refine ⟨f, rfl, c', dV, doc, pm, ctv, H1, Q, _, rfl, F, hf, hc, fun P w s c' doc pm ctv ok => ?_, q, fun v H2 F2 q2 => ⟨cin_add, by rw [sub_add F2]; exact q2⟩, fun cls d H2 F2 q2 => nat l cls d H2 Q F2 q2⟩
    have := hok_sub (l := l) cin_add ok
    rw [sub_add F] at this
    exact bl P w s c' doc pm ctv this
  refine wpAny_call (codeAny_mono ((G _ A).run X.A X.stack s1 (addC l H1) ⟨us, []⟩ (us ++ []) [.ref f] _ _ hr e1 (hb s1 us I1.kIn (by rw [List.append_nil, ← r.length]; rfl)) (by rw [List.append_nil]; exact r) hsp) fun r s' hq => ?_)
  match r with
  | .error er => exact hq.elim
  | .ok (.ret u) =>
    obtain ⟨v, H2, os, bare, un, hok, r2, C2, q2⟩ := hq
    exact ⟨v, subC l H2, I1.call' (ch := []) os (un_sub F C2 hok hh un) (hok_sub C2 hok) bare (fun b z => absurd z (by simp)), r2, q2⟩
  | .ok .next => exact hq.elim
  | .ok .brk => exact hq.elim
  | .ok .cont => exact hq.elim
end
end CS
set_option Elab.async false
set_option maxRecDepth 100000
set_option maxHeartbeats 4000000
set_option linter.unusedVariables false
/-! An exception class of the program's own over any built-in one, whose __init__ stores its one argument. -/
namespace CS
open PySem PySem.Spec PyProof.Rows L2
/-- what the written part says of it: x its name, f the field, bmB the built-in classes above -/
structure OwnX (K : PySem.W.Frag) (mg : Str → Option Value) (x f : Str) (C fI : Addr) (bmB : List Value) (newId : String) : Prop where
  gC : mg x = some (.ref C)
  ini : PySem.W.excInitIn K C bmB newId = true
  ovr : PySem.W.excOver K C bmB = true
  sa : PySem.W.findIn K (.ref C) "__setattr__" = some (some (.builtin "object.__setattr__"))
  tk : PySem.W.takerIn K C f = some none
  xf : XfC K C
  noF : PySem.W.findIn K (.ref C) f = some none
  iC : PySem.W.findIn K (.ref C) "__init__" = some (some (.ref fI))
  tI : PySem.W.typeIn K (.ref fI) = some (.type "function")
  kC : PySem.W.keepIn K (.ref C) = true
  tyC : PySem.W.typeIn K (.ref C) = some (.type "type")
section
variable {X : Cx} {pins : List (Addr × Obj)} {σ : L2.St} {H : Hp} {s : Shared} {a C fI : Addr} {x f : Str} {y : V} {u : Value} {bmB : List Value} {B newId initId : String}
/-- what the store leaves -/
def Stored (H : Hp) (a C : Addr) (f : Str) (y : V) (dx : Addr) (H' : Hp) : Prop := H dx = none ∧ dx ≠ a ∧ H' a = some (exo a C (some dx)) ∧ H' dx = some (exd dx [(f, y)]) ∧ ∀ b, b ≠ a → b ≠ dx → H' b = H b
theorem put_new {A : Around} {Q : Unit → Shared → Prop} {E : Value → Shared → Prop} (SF : StoreFacts B bmB "object.__setattr__" "object") (T : OwnX X.K X.mg x f C fI bmB newId) (I : Inv X pins σ H s) (e : H a = some (exo a C none)) (ry : RelV y u)
    (h : ∀ dx H' s', Stored H a C f y dx H' → Inv X pins σ H' s' → Q () s') : wpAny (model X.prog X.w) A (setAttr (.ref a) f u) Q E s := by
  obtain ⟨t1, ho⟩ := exo_at I.hok e
  obtain ⟨hp, g, d, t, os⟩ := s
  have hnd : H hp.objs.size = none := I.hok.fresh (Nat.le_refl _)
  have lt : a < hp.objs.size := Heap.lt_size ho
  have dne : hp.objs.size ≠ a := Nat.ne_of_gt lt
  obtain ⟨cd, hc, hd⟩ := PySem.W.any_some T.xf.hdC
  refine PySem.W.set_plain I.kIn (od := none) ⟨ho, rfl, rfl, trivial⟩ T.sa ?_
  refine PySem.W.osa_openX SF I.kIn (od := none) ⟨ho, rfl, rfl, trivial⟩ T.ovr T.tk fun b => ?_
  refine wpAny_bind (wpAny_pure (wpAny_bind (PySem.W.instanceDict_exc ho (PySem.W.looks_clsIn I.kIn hc) hd ?_)))
  have e1 : (hp.push (PySem.W.dictOf [] 0)).get? hp.objs.size = some (PySem.W.dictOf [] 0) := Heap.get?_push_size _ rfl
  have n1 : (hp.push (PySem.W.dictOf [] 0)).Ns hp.objs.size (fun _ => none) := ⟨_, _, _, e1, rfl, fun q hq => absurd hq (by simp), fun _ => rfl⟩
  have I1 : Inv X pins σ (upd H hp.objs.size (exd hp.objs.size [])) ⟨hp.push (PySem.W.dictOf [] 0), g, d, t, os⟩ := I.laid (fun b o q => Heap.get?_push_of_some _ q) (Nat.le_refl _) (exd_ok (Heap.Ns1.of_empty n1) fun _ => True.intro)
  have ea : upd H hp.objs.size (exd hp.objs.size []) a = some (exo a C none) := by rw [upd_ne (Ne.symm dne)]; exact e
  have ho1 := Heap.get?_push_of_some (PySem.W.dictOf [] 0) ho
  have ho2 := Heap.get?_update_self (fun o : Obj => { o with dict := some hp.objs.size }) ho1 rfl
  have I2 := I1.write (x := a) (e := a) (o := exo a C (some hp.objs.size)) (t' := t) (h' := (hp.push (PySem.W.dictOf [] 0)).update a fun o => { o with dict := some hp.objs.size }) (by rw [ea]; exact True.intro) (.inl rfl)
    (fun b o hb q => by rw [Heap.get?_update_other _ _ (Ne.symm hb)]; exact q) ⟨_, ho2⟩ (exo_ok ho2)
  have n2 : ((hp.push (PySem.W.dictOf [] 0)).update a fun o => { o with dict := some hp.objs.size }).Ns hp.objs.size (fun _ => none) :=
    ⟨_, _, _, by rw [Heap.get?_update_other _ _ (Ne.symm dne)]; exact e1, rfl, fun q hq => absurd hq (by simp), fun _ => rfl⟩
  have ed : upd (upd H hp.objs.size (exd hp.objs.size [])) a (exo a C (some hp.objs.size)) hp.objs.size = some (exd hp.objs.size []) := by rw [upd_ne dne, upd_same]
  show wpAny _ _ (Builtin.ObjectAttr.storeInDict hp.objs.size _ f u) _ _ _
  refine PySem.HandSPX.store_in_new n2 fun h3 tk3 hn3 hs3 => ?_
  obtain ⟨o3, es3, ep3, q3, r3⟩ := id hn3
  have I3 := I2.write (x := hp.objs.size) (e := hp.objs.size) (o := exd hp.objs.size [(f, y)]) (t' := tk3) (h' := h3) (by rw [ed]; exact True.intro) (.inl rfl) (fun b o hb q => (hs3.2 b hb).trans q) ⟨_, q3⟩
    (exd_ok hn3 (relO_put (fs := []) ry fun g => True.intro))
  exact h _ _ _ ⟨hnd, dne, by rw [upd_ne (Ne.symm dne), upd_same], upd_same, fun b h1 h2 => by rw [upd_ne h2, upd_ne h1, upd_ne h2]⟩ I3
/-- self.f = e, self an exception that has no field yet -/
def tPut (C : Addr) (f : Str) (to te : TE) : TS := fun D σ H => te σ H fun y H1 => to σ H1 fun x H2 => ∃ a, x = .ref a ∧ H2 a = some (exo a C none) ∧ ∀ dx H', Stored H2 a C f y dx H' → D.nx σ H'
theorem ps_put {o e : Expr} {to te : TE} {p' pos : Pos} (SF : StoreFacts B bmB "object.__setattr__" "object") (T : OwnX X.K X.mg x f C fI bmB newId) (ho : PE X o to) (he : PE X e te) (hs : swapsWith e (some (.Attribute o f p')) pos.line X.env = pure false := by rfl) : PS X (.Assign [.Attribute o f p'] e pos) (tPut C f to te) := by
  refine ⟨fun pins s σ H D I h => plainObj_wpAny_Assign_Attribute (thn (he.run pins s σ H _ I h) fun v s1 ⟨y, H1, I1, r1, q1⟩ => thn (ho.run pins s1 σ H1 _ I1 q1) fun w2 s2 ⟨z, H2, I2, r2, a, ez, ea, q⟩ => ?_) hs⟩
  subst ez
  obtain rfl : w2 = Value.ref a := r2
  exact put_new SF T I2 ea r1 fun dx H' s' st J => ⟨σ, H', J, q dx H' st⟩
/-- the promise of such an __init__ -/
def spPut (C : Addr) (f : Str) : Sp := fun vs H Q _ => ∃ a y, vs = [.ref a, y] ∧ H a = some (exo a C none) ∧ ∀ dx H', Stored H a C f y dx H' → Q .non H'
theorem ok_put {P : Program} {w : World} {K : PySem.W.Frag} {mg : Str → Option Value} {base : Heap} {st : Stmt} {qual : Str} {fd : FuncData} {p1 p2 p3 p4 : Pos} (SF : StoreFacts B bmB "object.__setattr__" "object") (T : OwnX K mg x f C fI bmB newId)
    (F : Fun K "__init__" qual st fI fd) (S : FnScope ["self", f] ["self", f] (defScope st)) (hb : defBody st = [.Assign [.Attribute (.Name "self" p1) f p2] (.Name f p3) p4]) (hf : (defScope st).names.lookup f = some .local) (hs : (defScope st).names.lookup ("self" : Str) = some .local)
    (hd : (f == ("__debug__" : Str)) = false) (hcd : (f == ("__classdict__" : Str)) = false) (hsw : ∀ env : Env, swapsWith (.Name f p3) (some (.Attribute (.Name "self" p1) f p2)) p4.line env = pure false) : FnOk P w K mg base CX0 1 fI fd ["self", f] (spPut C f) := by
  refine F.ok S (fun vs H Q E h => ?_) (fun cdv A outer s H vs Q E hr h => ?_)
  · obtain ⟨a, y, rfl, _⟩ := h
    rfl
  · obtain ⟨a, y, rfl, ea, k⟩ := h
    rw [hb]
    refine ⟨_, pss_one (ps_put SF T (pe_var (i := 0) rfl (.inl hs) (by decide) (by decide)) (pe_var (i := 1) rfl (.inl hf) hd hcd) (hsw _)), ?_⟩
    exact ⟨_, rfl, _, rfl, a, rfl, ea, fun dx H' st => k dx H' st⟩
/-- C(e) as an exception that is raised -/
def tMkX (C : Addr) (f : Str) (ta : TA) : L2.St → Hp → XK → Prop := fun σ H Q => ta σ H fun vs H1 => ∃ v, vs = [v] ∧ ∀ d, H1 d = none → Q (.ref C) (some d) (upd H1 d (.xd [(f, v)]))
theorem pmk_own1 {e : Expr} {ta : TA} {p pos : Pos} {k : Nat} {fd : FuncData} (FB : ExcBaseFacts B newId initId bmB) (T : OwnX X.K X.mg x f C fI bmB newId) (G : FnOk X.prog X.w X.K X.mg X.base CX0 k fI fd ["self", f] (spPut C f)) (hb : Binds X.K fd ["self", f] []) (hr : Room (k + 1) X.A) (hg : Gl X x) (ha : PA X [e] ta)
    (hdb : (x == ("__debug__" : Str)) = false := by decide) (he : starEach [e] X.env = (false, eval e X.env) :: starEach [] X.env := by rfl) (hpl : (backTo pos (starEach [] X.env)).any (·.1) = false := by rfl) : PMk X (.Call (.Name x p) [e] [] pos) (tMkX C f ta) := fun pins s σ H Q I h => by
  refine wpAny_Call_Name_kw (ld_glob I hg T.gC (PySem.W.callWith_K (h₀ := X.base) I.ok.mod.kin T.kC (thn (ha.run pos pins s σ H _ I h) fun us s1 ⟨vs, H1, I1, r1, v, ev, q⟩ => ⟨I1.kIn, ?_⟩) he hpl) hdb)
  subst ev
  obtain ⟨nm, N, qn, bs, bm, hdct, sn, sub, ab, col, dd, k0, k1, k2, k3, k5, hC, hT⟩ := PySem.W.excInit_of I1.kIn T.ini
  have hus : us.length ≤ sizeLine := by
    rw [← r1.length]
    show 1 ≤ sizeLine
    decide
  obtain ⟨hp, g, dr, tk, os⟩ := s1
  obtain ⟨a, ea⟩ : ∃ a, a = hp.objs.size + 1 := ⟨_, rfl⟩
  obtain ⟨h2, eh⟩ : ∃ h2, h2 = (hp.push (PySem.W.kdv_tup us)).push (PySem.HandSPX.excO C hp.objs.size) := ⟨_, rfl⟩
  have big : hp.objs.size ≤ a := by rw [ea]; exact Nat.le_succ _
  have kp : ∀ b o, hp.get? b = some o → h2.get? b = some o := fun b o z => by
    rw [eh]
    exact Heap.get?_push_of_some _ (Heap.get?_push_of_some _ z)
  have at_ : h2.get? a = some (PySem.HandSPX.excO C hp.objs.size) := by
    rw [eh, ea]
    heap_get
  have na : H1 a = none := I1.hok.fresh big
  have I2 : Inv X pins σ (upd H1 a (exo a C none)) ⟨h2, g, dr, tk, os⟩ := I1.laid (t' := tk) kp big (exo_ok at_)
  have hsp : spPut C f [.ref a, v] (upd H1 a (exo a C none)) (fun v2 H2 => v2 = .non ∧ ∃ dx, Stored (upd H1 a (exo a C none)) a C f v dx H2) (fun _ _ _ => False) := ⟨a, v, rfl, upd_same, fun dx H' st => ⟨rfl, dx, st⟩⟩
  have run := G.run (A := X.A.under (.builtin "type.__call__" ⟨.ref C :: us, []⟩)) (outer := X.stack) (s := ⟨h2, g, dr, tk, os⟩) (args := ⟨.ref a :: us, []⟩) (us := .ref a :: us) (vs := [.ref a, v]) (Q := _) (E := fun _ _ _ => False) (H := upd H1 a (exo a C none)) (hr.make C us []) (I2.env0.make C us [])
    (by have := hb ⟨h2, g, dr, tk, os⟩ (.ref a :: us) I2.kIn (by rw [List.append_nil, List.length_cons, ← r1.length]; rfl); rw [List.append_nil] at this; exact this) (.cons rfl r1) hsp
  show wpAny _ _ (call (.ref C) us) _ _ _
  refine wpAny_call (PySem.HandSPX.call_own FB hT hC (PySem.W.looks_findIn I1.kIn T.iC) (fun self => PySem.W.bind_fn I1.kIn self T.tI) hus ?_)
  rw [← ea, ← eh]
  refine codeAny_mono run fun r s' hq => ?_
  match r with
  | .error er => exact hq.elim
  | .ok .next => exact hq.elim
  | .ok .brk => exact hq.elim
  | .ok .cont => exact hq.elim
  | .ok (.ret z) =>
    obtain ⟨v2, H2, os2, bare2, un2, hok2, rv, ev2, dx, st1, st2, st3, st4, st5⟩ := hq
    have nd : H1 dx = none := by rw [upd_ne st2] at st1; exact st1
    have eq : upd (del H2 a) dx (.xd [(f, v)]) = upd H1 dx (.xd [(f, v)]) := by
      funext b
      by_cases h1 : b = dx
      · rw [h1, upd_same, upd_same]
      · rw [upd_ne h1, upd_ne h1]
        by_cases h2 : b = a
        · rw [h2, del_same, na]
        · rw [del_ne h2, st5 b h2 h1, upd_ne h2]
    obtain ⟨h3, g3, d3, t3, os3⟩ := s'
    have fin := mk_end (Q := Q) (d2 := d3) (t2 := t3) (raises_own T.xf.exC T.tyC) I1 big kp un2 hok2 os2 bare2 st3 st4 nd (by rw [eq]; exact q dx nd)
    subst ev2
    exact ⟨rv, fin⟩
end
end CS
set_option Elab.async false
set_option maxRecDepth 100000
set_option maxHeartbeats 4000000
set_option linter.unusedVariables false
/-! try with several except clauses, some with a name, some without. -/
namespace CS
open PySem PySem.Spec PyProof.Rows L2
/-- the exception at a, of the class cls with the dict d, has landed; W0 is what is wanted of one that no clause takes -/
structure Landed (X : Cx) (pins : List (Addr × Obj)) (σ : L2.St) (H : Hp) (a : Addr) (cls : Value) (d : Option Addr) (s : Shared) : Prop where
  go : ∃ (B : Heap) (sI : Shared), HandSPX.FlyingZ B (X.env :: X.outer) a (Zc cls d) s.heap ∧ Inv X pins σ H sI ∧ (∀ b o, sI.heap.get? b = some o → b ∉ frs X.stack → B.get? b = some o) ∧ sI.heap.UpToSlots s.heap ∧ s.os = sI.os ∧ AllBare s.gens
  no : H a = none
abbrev TSx := Addr → Value → Option Addr → TS
section
variable {X : Cx} {pins : List (Addr × Obj)} {σ : L2.St} {H : Hp} {s : Shared} {a : Addr} {cls : Value} {d : Option Addr}
theorem Landed.inv (L : Landed X pins σ H a cls d s) : Inv X pins σ H s := by
  obtain ⟨B, sI, fl, J, nb, up, os, ag⟩ := L.go
  exact J.landed nb fl.1 up os ag
/-- the state within a suite -/
theorem Landed.suite (L : Landed X pins σ H a cls d s) (hf : X.env.frame = some X.env.locals) : ∃ oe, Zc cls d oe ∧ (∃ vs, oe.data = .fields vs) ∧ s.heap.get? a = some oe ∧ Inv (X.suite a ((a, oe) :: (X.pn ++ pins))) [] σ H s := by
  have J := L.inv
  obtain ⟨B, sI, fl, _⟩ := L.go
  obtain ⟨oe, vs, he, hz, hd⟩ := fl.there
  have no : a ∉ frs (X.env :: X.outer) := fun hm => by
    obtain ⟨_, o, e, n⟩ := fl.2.2.1.mem hm
    rw [he] at e
    cases e
    exact n _ hd
  have in_ : ∀ e ∈ X.env :: X.outer, e.frame ≠ some a := fun e he q => no (List.mem_filterMap.mpr ⟨e, he, q⟩)
  refine ⟨oe, hz, ⟨vs, hd⟩, he, J.suite he hd L.no (fun z => in_ _ List.mem_cons_self (by rw [hf, z])) fun hm => ?_⟩
  obtain ⟨e, h1, h2⟩ := List.mem_filterMap.mp hm
  exact in_ e (List.mem_cons_of_mem _ h1) h2
/-- it is looked at once more -/
theorem Landed.again {M : Model} {A : Around} {E : Value → Shared → Prop} {Q : Unit → Shared → Prop} (L : Landed X pins σ H a cls d s) (h : ∀ s', Landed X pins σ H a cls d s' → Q () s') :
    ∃ B, HandSPX.FlyingZ B (X.env :: X.outer) a (Zc cls d) s.heap ∧ ∀ h', HandSPX.FlyingZ B (X.env :: X.outer) a (Zc cls d) h' → s.heap.UpToSlots h' → Q () { s with heap := h' } := by
  obtain ⟨B, sI, fl, J, nb, up, os, ag⟩ := L.go
  exact ⟨B, fl, fun h' fl' up' => h _ ⟨⟨B, sI, fl', J, nb, up.trans up', os, ag⟩, L.no⟩⟩
end
/-- clauses with a name or without; what they wish of an exception, the wish W0 where none takes it -/
inductive Clauses (X : Cx) (W0 : WX) : List ExceptHandler → (Ends → WX) → Prop
  | nil : Clauses X W0 [] (fun _ => W0)
  | plain {x : Str} {c : Value} {ts : TSx} {b₀ : Stmt} {suite : List Stmt} {np pos' : Pos} {hds : List ExceptHandler} {W : Ends → WX} (hc : Names X x c)
      (hsu : ∀ (a : Addr) (oe : Obj) (cls : Value) (d : Option Addr) (pn : List (Addr × Obj)), Zc cls d oe → (∃ vs, oe.data = .fields vs) → PSs (X.suite a ((a, oe) :: pn)) (b₀ :: suite) (ts a cls d)) (r : Clauses X W0 hds W) :
      Clauses X W0 (.ExceptHandler (some (.Name x np)) none (b₀ :: suite) pos' :: hds) (fun D cls d σ H => ∃ b, PySem.W.exmOne X.K cls c = some b ∧ (b = true → ∀ a, H a = none → ts a cls d D σ H) ∧ (b = false → W D cls d σ H))
  | named {x n : Str} {c : Value} {i : Nat} {ts : TSx} {b₀ : Stmt} {suite : List Stmt} {np pos' : Pos} {hds : List ExceptHandler} {W : Ends → WX} (hc : Names X x c) (hi : X.N[i]? = some n) (hln : X.env.kindOf n = some .local)
      (hsu : ∀ (a : Addr) (oe : Obj) (cls : Value) (d : Option Addr) (pn : List (Addr × Obj)), Zc cls d oe → (∃ vs, oe.data = .fields vs) → PSs (X.suite a ((a, oe) :: pn)) (b₀ :: suite) (ts a cls d)) (r : Clauses X W0 hds W) :
      Clauses X W0 (.ExceptHandler (some (.Name x np)) (some n) (b₀ :: suite) pos' :: hds) (fun D cls d σ H => ∃ b, PySem.W.exmOne X.K cls c = some b ∧
        (b = true → ∀ a, H a = none → ts a cls d { nx := fun σ' H' => D.nx (σ'.set i none) H', rt := D.rt, bk := fun σ' H' => D.bk (σ'.set i none) H', ct := fun σ' H' => D.ct (σ'.set i none) H' } (σ.set i (some (.ref a))) H) ∧ (b = false → W D cls d σ H))
section
variable {X : Cx} {pins : List (Addr × Obj)} {σ : L2.St} {H : Hp} {s : Shared} {a : Addr} {cls : Value} {d : Option Addr} {W0 : WX}
/-- a clause's test -/
theorem Landed.test (L : Landed X pins σ H a cls d s) (hf : X.env.frame = some X.env.locals) {x : Str} {c : Value} {np : Pos} (hc : Names X x c) {b : Bool} (hb : PySem.W.exmOne X.K cls c = some b) {Q E : Value → Shared → Prop}
    (q : (∀ (A : Around) (Q E : Bool → Shared → Prop), True) → ∀ M, PySem.W.Looks M s.heap (typeOf (.ref a)) cls → Q c s) : wpAny (model X.prog X.w) (X.A.mark (some (.ref a))) (eval (.Name x np) X.env) Q E s := by
  obtain ⟨oe, hz, hd, he, S⟩ := L.suite hf
  have q2 : Q c s := q (fun _ _ _ => trivial) (model X.prog X.w) fun A Q E s k q => wpAny_typeOf_ref (k _ _ he) (by rw [hz.1]; exact q)
  obtain ⟨hg, hdbg, hm | ⟨hm, hv, hnn⟩⟩ := hc
  · exact ld_glob (X := X.suite a ((a, oe) :: (X.pn ++ pins))) S hg hm q2 hdbg
  · exact ld_blt (X := X.suite a ((a, oe) :: (X.pn ++ pins))) S hg hm hv q2 hnn hdbg
theorem ends_plain {a : Addr} {p : Addr × Obj} {D : Ends} {f : Flow} (ok : X.Ok) (h : SP (X.suite a (p :: (X.pn ++ pins))) [] D f s) : SP X pins D f s := by
  cases f with
  | ret u =>
    obtain ⟨v, σ6, H6, S6, r, q⟩ := h
    exact ⟨v, σ6, H6, S6.unsuite ok, r, q⟩
  | next =>
    obtain ⟨σ6, H6, S6, q⟩ := h
    exact ⟨σ6, H6, S6.unsuite ok, q⟩
  | brk =>
    obtain ⟨σ6, H6, S6, q⟩ := h
    exact ⟨σ6, H6, S6.unsuite ok, q⟩
  | cont =>
    obtain ⟨σ6, H6, S6, q⟩ := h
    exact ⟨σ6, H6, S6.unsuite ok, q⟩
theorem caught (hs : X.stack = X.env :: X.outer) (hf : X.env.frame = some X.env.locals) (hN : X.N.Nodup) (tk : Takes X W0) {D : Ends} {hds : List ExceptHandler} {W : Ends → WX} (C : Clauses X W0 hds W) (L : Landed X pins σ H a cls d s) (w : W D cls d σ H) :
    wpAny (model X.prog X.w) X.A (handleBy (.ref a) X.env hds) (SP X pins D) X.xe s := by
  have ok := L.inv.ok
  have LT : ∀ M, PySem.W.Looks M s.heap (typeOf (.ref a)) cls := fun M => by
    obtain ⟨oe, hz, _, he, _⟩ := L.suite hf
    exact fun A Q E s k q => wpAny_typeOf_ref (k _ _ he) (by rw [hz.1]; exact q)
  induction C with
  | nil =>
    refine wpAny_handleBy_nil ?_
    obtain ⟨B, sI, fl, J, nb, up, os, ag⟩ := L.go
    obtain ⟨_, _, _, oe, vs, T, oT, ts, he, _, hd, h1, _⟩ := id fl
    have out : wpAny (model X.prog X.w) X.A (setFlight (.ref a) X.env.frame) (fun _ s4 => wpAny (model X.prog X.w) X.A (throw (.ref a) : Sem Flow) (SP X pins D) X.xe s4) X.xe s := by
      rw [hf]
      exact HandSPX.setFlight_upZ fl fun h4 hh4 up4 => wpAny_throw (tk _ _ ⟨a, B, sI, pins, σ, H, cls, d, rfl, J, nb, up.trans up4, .inr (.inr (by rw [hs]; exact hh4)), L.no, os, ag, w⟩)
    unfold PySem.passOn
    refine wpAny_bind (wpAny_field he hd h1 ?_)
    rw [if_neg (show ¬ ((Value.ref T == Value.none) = true) from by simp)]
    first
      | exact wpAny_bind (wpAny_pure (wpAny_bind out))
      | exact wpAny_bind out
  | plain hc hsu r ih =>
    obtain ⟨b, hb, yes, no⟩ := w
    refine wpAny_handleBy_cons (codeAny_handlers_test (L.test hf hc hb fun _ _ _ => ((PySem.W.exm_one (M := model X.prog X.w) L.inv.kIn (LT _) hb).here ?_))) (by intro q; cases q)
    cases b with
    | false => exact ih (no rfl)
    | true =>
      refine codeAny_handlers_suite ?_
      obtain ⟨B, fl, k⟩ := L.again (M := model X.prog X.w) (A := X.A) (E := X.xe) (Q := fun _ s' => Landed X pins σ H a cls d s') fun _ z => z
      refine HandSPX.lands_againZ fl fun h4 fl4 up4 => ?_
      obtain ⟨oe, hz, hd, he, S⟩ := (k h4 fl4 up4).suite hf
      exact wpAny_mono ((hsu a oe cls d (X.pn ++ pins) hz hd).run [] _ _ H _ S (yes rfl a L.no)) (fun f s6 hsp => ends_plain ok hsp) fun _ _ z => z.elim
  | @named x n c i ts b₀ suite np pos' hds W hc hi hln hsu r ih =>
    obtain ⟨b, hb, yes, no⟩ := w
    refine wpAny_handleBy_cons (codeAny_handlers_test (L.test hf hc hb fun _ _ _ => ((PySem.W.exm_one (M := model X.prog X.w) L.inv.kIn (LT _) hb).here ?_))) (by intro q; cases q)
    cases b with
    | false => exact ih (no rfl)
    | true =>
      refine codeAny_handlers_suite_as ?_
      obtain ⟨B, fl, k⟩ := L.again (M := model X.prog X.w) (A := X.A) (E := X.xe) (Q := fun _ s' => Landed X pins σ H a cls d s') fun _ z => z
      refine HandSPX.lands_againZ fl fun h4 fl4 up4 => ?_
      obtain ⟨oe, hz, hd, he, S⟩ := (k h4 fl4 up4).suite hf
      refine store_ok (X := X.suite a ((a, oe) :: (X.pn ++ pins))) (v := .ref a) S hN hi (.inl hln) rfl (fun s5 S5 => ?_) (.inr hln)
      refine wpAny_mono ((hsu a oe cls d (X.pn ++ pins) hz hd).run [] s5 _ H _ S5 (yes rfl a L.no)) (fun f s6 hsp => ?_) fun _ _ z => z.elim
      have gone : ∀ {σ6 : L2.St} {H6 : Hp} {Q : Shared → Prop}, Inv X pins σ6 H6 s6 → (∀ s7, Inv X pins (σ6.set i none) H6 s7 → Q s7) → wpAny (model X.prog X.w) X.A (do bindName X.env n .none; unbindBehindTheSuite X.env n pos') (fun _ s7 => Q s7) X.xe s6 :=
        fun J6 hq => gone_ok J6 hN hi hln hq
      have q6 := ends_plain ok hsp
      cases f with
      | ret u =>
        obtain ⟨v6, σ6, H6, J6, r6, q6⟩ := q6
        exact gone J6 fun s7 J7 => ⟨_, _, _, J7, r6, q6⟩
      | next =>
        obtain ⟨σ6, H6, J6, q6⟩ := q6
        exact gone J6 fun s7 J7 => ⟨_, _, J7, q6⟩
      | brk =>
        obtain ⟨σ6, H6, J6, q6⟩ := q6
        exact gone J6 fun s7 J7 => ⟨_, _, J7, q6⟩
      | cont =>
        obtain ⟨σ6, H6, J6, q6⟩ := q6
        exact gone J6 fun s7 J7 => ⟨_, _, J7, q6⟩
/-- try: body / except .. -/
theorem ps_tryx {body : List Stmt} {h₀ : ExceptHandler} {hds : List ExceptHandler} {W : Ends → WX} {tb : WX → TS} {pos : Pos} (hs : X.stack = X.env :: X.outer) (hf : X.env.frame = some X.env.locals) (hN : X.N.Nodup) (tk : Takes X W0) (C : Clauses X W0 (h₀ :: hds) W)
    (hb : ∀ (W : WX) (pn : List (Addr × Obj)) (xe : Value → Shared → Prop), Takes (X.tr pn xe) W → PassesOwn (model X.prog X.w) X.A X.env xe → PSs (X.tr pn xe) body (tb W)) : PS X (.Try body (h₀ :: hds) [] [] pos) (fun D σ H => tb (W D) D σ H) := by
  refine ⟨fun pins s σ H D I h => ?_⟩
  have ok := I.ok
  have hfr : X.A.frames = some (X.env :: X.outer) := by rw [ok.frames, hs]
  refine wpAny_Try_except (wpAny_mono ((hb (W D) (X.pn ++ pins) _ (fun u s' xx => ?_) PassesOwn.looking).run [] s σ H D (I.toTry _) h) (fun f s1 hsp => ?_) fun _ _ he => he)
  · obtain ⟨a, B, sI, pins', σ', H', cls, d, rfl, J, nb, up, sky, na, os, ag, w⟩ := xx
    have J := J.ofTry ok
    have sky : Sky B (X.env :: X.outer) a (Zc cls d) X.env.locals s'.heap := by rw [← hs]; exact sky
    exact Sky.land Zc.steady hfr hf sky fun h3 fl3 up3 => caught hs hf hN tk C ⟨⟨B, sI, fl3, J, nb, up.trans up3, os, ag⟩, na⟩ w
  · cases f with
    | ret u =>
      obtain ⟨v, σ', H', J, r, q⟩ := hsp
      exact ⟨v, σ', H', J.ofTry ok, r, q⟩
    | next =>
      obtain ⟨σ', H', J, q⟩ := hsp
      exact wpAny_execs_nil ⟨σ', H', J.ofTry ok, q⟩
    | brk =>
      obtain ⟨σ', H', J, q⟩ := hsp
      exact ⟨σ', H', J.ofTry ok, q⟩
    | cont =>
      obtain ⟨σ', H', J, q⟩ := hsp
      exact ⟨σ', H', J.ofTry ok, q⟩
end
end CS
set_option Elab.async false
set_option maxRecDepth 100000
set_option maxHeartbeats 8000000
set_option linter.unusedVariables false
namespace CS
open PySem L2
abbrev bmO : List Value := [.type "OverflowError", .type "ArithmeticError", .type "Exception", .type "BaseException", .type "object"]
abbrev bmV : List Value := [.type "ValueError", .type "Exception", .type "BaseException", .type "object"]
theorem AllF.app {n : Nat} {xs ys : List (Int × Fx)} (h : AllF n xs) (g : AllF n ys) : AllF n (xs ++ ys) := fun a ha => (List.mem_append.mp ha).elim (h a) (g a)
theorem AllF.up {n m : Nat} {xs : List (Int × Fx)} (h : AllF n xs) (l : n ≤ m) : AllF m xs := fun a ha => ⟨(h a ha).1, (h a ha).2.up l⟩
section
variable {P : Program} {w : World} {K : PySem.W.Frag} {mg : Str → Option Value} {base : Heap}
/-- an exception class of the text with its __init__ -/
structure Xc (K : PySem.W.Frag) (mg : Str → Option Value) (x f : Str) (C fI : Addr) (bmB : List Value) (newId : String) (st : Stmt) (qual : Str) (fd : FuncData) : Prop where
  T : OwnX K mg x f C fI bmB newId
  F : Fun K "__init__" qual st fI fd
  b : Binds K fd ["self", f] []
theorem scBsI : FnScope ["self", "given"] ["self", "given"] (defScope (inClass sBadshare 0)) := ⟨rfl, rfl, rfl, by decide +kernel, rfl, by decide +kernel, by decide +kernel⟩
theorem ok_bs_init {CB fI : Addr} {fd : FuncData} (Z : Xc K mg "BadShare" "given" CB fI bmV "ValueError.__new__" (inClass sBadshare 0) "BadShare.__init__" fd) : FnOk P w K mg base CX0 1 fI fd ["self", "given"] (spPut CB "given") :=
  ok_put PySem.F.store_ValueError Z.T Z.F scBsI rfl rfl rfl (by decide +kernel) (by decide +kernel) (fun _ => rfl)
/-- put together: the gathered share, or too many -/
def spPutT (K : PySem.W.Frag) (CT : Addr) : Sp := fun vs H Q E => ∃ p q xs ys, vs = [.ref p, .ref q] ∧ ShAt K H p xs ∧ ShAt K H q ys ∧ Shr xs ∧ Shr ys ∧ AllF 80 xs ∧ AllF 80 ys ∧ ∀ H' r zs, Same H H' → ShAt K H' r zs → IsS (gat [] (xs ++ ys)) zs →
  (zs.length ≤ 8 → Q (.ref r) H') ∧ (8 < zs.length → ∀ d, H' d = none → E (.ref CT) (some d) (upd H' d (.xd [("most", .int 8)])))
end
end CS
set_option maxHeartbeats 1000000
set_option linter.unusedVariables false
namespace CS
theorem ups_new {f : List (Int × Fx)} {k : Int} {x : Fx} (h : k ∉ f.map (·.1)) : ups f k x = f ++ [(k, x)] := by
  induction f with
  | nil => rfl
  | cons a f ih =>
    obtain ⟨i, y⟩ := a
    simp only [List.map_cons, List.mem_cons, not_or] at h
    simp [ups, Ne.symm h.1, ih h.2]
theorem cm_pos {t b : Int} (hb : 0 < b) : 0 < cm t b := by
  unfold cm
  rw [if_neg (by omega)]
  have := gcd_pos (t := t) (b := b) (by omega)
  omega
theorem sg {c l : Int} (h : 0 < c) : (0 < l ↔ 0 < c * l) ∧ (l < 0 ↔ c * l < 0) := by
  rcases Int.lt_trichotomy l 0 with a | a | a
  · have := Int.mul_neg_of_pos_of_neg h a
    omega
  · subst a
    simp
  · have := Int.mul_pos h a
    omega
theorem low_sign {t b : Int} (hb : 0 < b) : (0 < (low t b).1 ↔ 0 < t) ∧ ((low t b).1 < 0 ↔ t < 0) := by
  have e := (low_parts (t := t) (b := b) (by omega)).1
  have h := sg (l := (low t b).1) (cm_pos (t := t) hb)
  rw [← e] at h
  exact h
theorem fr_zero {x : Fx} (h : Fr x) (e : x.1 = 0) : x = (0, 1) := by
  obtain ⟨a, b⟩ := x
  have h1 := h.1
  have h2 := h.2
  simp only at e h1 h2
  subst e
  rw [Int.gcd_zero_left] at h2
  have : b = 1 := by omega
  rw [this]
theorem fadd_pos {x y : Fx} (hx : Fr x) (hy : Fr y) (px : 0 ≤ x.1) (py : 0 ≤ y.1) (h : 0 < x.1 ∨ 0 < y.1) : 0 < (fadd x y).1 := by
  unfold fadd
  rw [(low_sign (dd0 hx hy)).1]
  have h1 := hx.pos
  have h2 := hy.pos
  rcases h with h | h
  · have a := Int.mul_pos h h2
    have b := Int.mul_nonneg py (Int.le_of_lt h1)
    omega
  · have a := Int.mul_pos h h1
    have b := Int.mul_nonneg px (Int.le_of_lt h2)
    omega
theorem scl_neg {y : Fx} (hy : Fr y) : scl y (-1) = (-y.1, y.2) := by
  unfold scl
  refine low_uniq hy.ne ⟨hy.1, ?_⟩ (by simp)
  have := hy.2
  simpa [Int.neg_gcd] using this
theorem fadd_neg {x y : Fx} (hy : Fr y) : fadd x (scl y (-1)) = fsub x y := by
  rw [scl_neg hy]
  unfold fadd fsub
  simp only [Int.neg_mul, Int.sub_eq_add_neg]
theorem fsub_neg_iff {x y : Fx} (hx : Fr x) (hy : Fr y) : (fsub x y).1 < 0 ↔ flt x y = true := by
  unfold fsub flt
  rw [(low_sign (dd0 hx hy)).2, decide_eq_true_iff]
  omega
theorem lk_of_mem : ∀ {xs : List (Int × Fx)} {k : Int} {x : Fx}, (xs.map (·.1)).Nodup → (k, x) ∈ xs → lk xs k = x
  | [], _, _, _, h => by cases h
  | (j, y) :: xs, k, x, hn, h => by
    rw [List.map_cons, List.nodup_cons] at hn
    rw [lk_cons]
    rcases List.mem_cons.mp h with e | h
    · cases e
      rw [if_pos rfl]
    · rw [if_neg fun e => hn.1 (by rw [← e]; exact List.mem_map.mpr ⟨(k, x), h, rfl⟩)]
      exact lk_of_mem hn.2 h
/-- weights taken away one after another -/
def tks (f ys : List (Int × Fx)) : List (Int × Fx) := ys.foldl (fun f kx => ups f kx.1 (fsub (lk f kx.1) kx.2)) f
theorem tks_snoc (f ys : List (Int × Fx)) (a : Int × Fx) : tks f (ys ++ [a]) = ups (tks f ys) a.1 (fsub (lk (tks f ys) a.1) a.2) := by
  unfold tks
  rw [List.foldl_append]
  rfl
theorem tks_none : ∀ (ys f : List (Int × Fx)) (j : Int), j ∉ ys.map (·.1) → lk (tks f ys) j = lk f j
  | [], _, _, _ => rfl
  | (k, x) :: ys, f, j, h => by
    simp only [List.map_cons, List.mem_cons, not_or] at h
    show lk (tks (ups f k (fsub (lk f k) x)) ys) j = _
    rw [tks_none ys _ j h.2, lk_ups, if_neg h.1]
theorem lk_tks : ∀ (ys f : List (Int × Fx)) (j : Int), (ys.map (·.1)).Nodup → lk (tks f ys) j = if j ∈ ys.map (·.1) then fsub (lk f j) (lk ys j) else lk f j
  | [], f, j, _ => by simp [tks]
  | (k, x) :: ys, f, j, h => by
    rw [List.map_cons, List.nodup_cons] at h
    show lk (tks (ups f k (fsub (lk f k) x)) ys) j = _
    by_cases e : j = k
    · subst e
      rw [tks_none ys _ j h.1, lk_ups, if_pos rfl, lk_cons, if_pos rfl, if_pos (by simp)]
    · have q : (j ∈ ((k, x) :: ys).map (·.1)) ↔ j ∈ ys.map (·.1) := by simp [e]
      rw [lk_tks ys _ j h.2, lk_ups, if_neg e, lk_cons, if_neg e]
      simp only [q]
theorem tks_keys : ∀ (ys f : List (Int × Fx)) (j : Int), j ∈ (tks f ys).map (·.1) ↔ j ∈ f.map (·.1) ∨ j ∈ ys.map (·.1)
  | [], f, j => by simp [tks]
  | (k, x) :: ys, f, j => by
    show j ∈ (tks (ups f k _) ys).map (·.1) ↔ _
    rw [tks_keys ys, ups_keys]
    simp only [List.map_cons, List.mem_cons]
    grind
theorem tks_nodup : ∀ (ys f : List (Int × Fx)), (f.map (·.1)).Nodup → ((tks f ys).map (·.1)).Nodup
  | [], _, h => h
  | (k, x) :: ys, f, h => tks_nodup ys _ (ups_nodup f k _ h)
theorem tks_len : ∀ (ys f : List (Int × Fx)), (tks f ys).length ≤ f.length + ys.length
  | [], _ => Nat.le_refl _
  | (k, x) :: ys, f => by
    have h1 := tks_len ys (ups f k (fsub (lk f k) x))
    have h2 := ups_len f k (fsub (lk f k) x)
    show (tks (ups f k (fsub (lk f k) x)) ys).length ≤ _
    rw [List.length_cons]
    omega
theorem gat_frS {n : Nat} {f xs : List (Int × Fx)} (hf : AllF n f) (h : AllF n xs) (h0 : 0 < n) (j : Int) : Fr (lk (gat f xs) j) ∧ Sz (n + xs.length * (n + 1)) (lk (gat f xs) j) := by
  rw [lk_gat]
  have hl := lk_fr hf h0 j
  exact ⟨cfold_fr j xs _ hl.1 fun x hx => (h x hx).1, cfold_sz n j xs _ n hl.1 hl.2 h⟩
/-! two shares -/
/-- as the law draws them, or puts them together -/
structure Good (n : Nat) (xs : List (Int × Fx)) : Prop where
  nd : (xs.map (·.1)).Pairwise (· < ·)
  all : AllF n xs
  pos : ∀ a ∈ xs, 0 < a.2.1
  lo : ∀ a ∈ xs, -100 ≤ a.1 ∧ a.1 ≤ 100
theorem Good.nodup {n : Nat} {xs : List (Int × Fx)} (g : Good n xs) : (xs.map (·.1)).Nodup := g.nd.imp fun e => Int.ne_of_lt e
theorem Good.shr {n : Nat} {xs : List (Int × Fx)} (g : Good n xs) (h : xs.length ≤ 8) : Shr xs := ⟨h, fun a ha => ⟨(g.lo a ha).1, (g.lo a ha).2, (g.all a ha).1, g.pos a ha⟩, g.nd⟩
theorem lk_nonneg {xs : List (Int × Fx)} (h : ∀ a ∈ xs, 0 < a.2.1) (k : Int) : 0 ≤ (lk xs k).1 ∧ (k ∈ xs.map (·.1) → 0 < (lk xs k).1) := by
  induction xs with
  | nil => exact ⟨by show (0 : Int) ≤ 0; decide, fun h => by cases h⟩
  | cons a xs ih =>
    obtain ⟨j, y⟩ := a
    have ih := ih fun b hb => h b (List.mem_cons_of_mem _ hb)
    have hy := h (j, y) List.mem_cons_self
    simp only at hy
    rw [lk_cons]
    by_cases e : k = j
    · rw [if_pos e]
      exact ⟨by omega, fun _ => hy⟩
    · rw [if_neg e]
      refine ⟨ih.1, fun m => ih.2 ?_⟩
      rcases List.mem_cons.mp m with q | q
      · exact absurd q e
      · exact q
theorem Good.self {n : Nat} {xs : List (Int × Fx)} (g : Good n xs) : IsS xs xs := ⟨g.nd, fun k x => by
  constructor
  · intro h
    refine ⟨lk_of_mem g.nodup h, fun e => ?_⟩
    have q : 0 < x.1 := g.pos _ h
    rw [e] at q
    exact absurd q (by decide)
  · rintro ⟨e, h⟩
    have m := lk_mem (f := xs) (k := k) (by rw [e]; exact h)
    obtain ⟨⟨k2, y⟩, hm, e2⟩ := List.mem_map.mp m
    simp only at e2
    subst e2
    rw [lk_of_mem g.nodup hm] at e
    rw [← e]
    exact hm⟩
theorem lk_cat {n : Nat} {xs ys : List (Int × Fx)} (g : Good n xs) (h0 : 0 < n) (hn : (ys.map (·.1)).Nodup) (j : Int) : lk (gat [] (xs ++ ys)) j = fadd (lk xs j) (lk ys j) := by
  have e : gat [] (xs ++ ys) = gat (gat [] xs) ys := by
    unfold gat
    rw [List.foldl_append]
  have hx : lk (gat [] xs) j = lk xs j := by
    rw [lk_gat]
    exact (fold_nodup xs j (0, 1) fr01 g.nodup).trans (zero_fadd (lk_fr g.all h0 j).1)
  rw [e, lk_gat, fold_nodup ys j _ (by rw [hx]; exact (lk_fr g.all h0 j).1) hn, hx]
theorem both_good {n : Nat} {xs ys zs : List (Int × Fx)} (gx : Good n xs) (gy : Good n ys) (h0 : 0 < n) (h : IsS (gat xs ys) zs) : Good (n + n + 1) zs := by
  have val : ∀ k x, (k, x) ∈ zs → x = fadd (lk xs k) (lk ys k) ∧ (k ∈ xs.map (·.1) ∨ k ∈ ys.map (·.1)) := fun k x hm => by
    obtain ⟨e, hx⟩ := (h.2 k x).mp hm
    rw [lk_gat_nodup gx.all h0 gy.nodup] at e
    refine ⟨e.symm, ?_⟩
    by_cases a : k ∈ xs.map (·.1)
    · exact .inl a
    · refine .inr ?_
      by_cases b : k ∈ ys.map (·.1)
      · exact b
      · rw [lk_none a, lk_none b] at e
        exact absurd (e.symm.trans (by decide)) hx
  refine ⟨h.1, fun a ha => ?_, fun a ha => ?_, fun a ha => ?_⟩
  · obtain ⟨e, _⟩ := val a.1 a.2 ha
    have h1 := lk_fr gx.all h0 a.1
    have h2 := lk_fr gy.all h0 a.1
    rw [e]
    exact ⟨fadd_fr h1.1 h2.1, fadd_sz h1.1 h2.1 h1.2 h2.2⟩
  · obtain ⟨e, m⟩ := val a.1 a.2 ha
    have h1 := lk_nonneg gx.pos a.1
    have h2 := lk_nonneg gy.pos a.1
    rw [e]
    exact fadd_pos (lk_fr gx.all h0 a.1).1 (lk_fr gy.all h0 a.1).1 h1.1 h2.1 (m.imp h1.2 h2.2)
  · obtain ⟨e, m⟩ := val a.1 a.2 ha
    rcases m with m | m
    · obtain ⟨b, hb, eb⟩ := List.mem_map.mp m
      rw [← eb]
      exact gx.lo b hb
    · obtain ⟨b, hb, eb⟩ := List.mem_map.mp m
      rw [← eb]
      exact gy.lo b hb
def ngs (ys : List (Int × Fx)) : List (Int × Fx) := ys.map fun a => (a.1, scl a.2 (-1))
theorem ngs_keys (ys : List (Int × Fx)) : (ngs ys).map (·.1) = ys.map (·.1) := by
  unfold ngs
  rw [List.map_map]
  rfl
theorem lk_ngs (ys : List (Int × Fx)) (j : Int) : lk (ngs ys) j = scl (lk ys j) (-1) := by
  induction ys with
  | nil =>
    show ((0, 1) : Fx) = scl (0, 1) (-1)
    decide
  | cons a ys ih =>
    obtain ⟨k, y⟩ := a
    show lk ((k, scl y (-1)) :: ngs ys) j = _
    rw [lk_cons, lk_cons, ih]
    split <;> rfl
theorem lk_take {n : Nat} {xs ys : List (Int × Fx)} (gx : Good n xs) (gy : Good n ys) (h0 : 0 < n) (j : Int) : lk (gat [] (xs ++ ngs ys)) j = fsub (lk xs j) (lk ys j) := by
  rw [lk_cat gx h0 (by rw [ngs_keys]; exact gy.nodup), lk_ngs, fadd_neg (lk_fr gy.all h0 j).1]
/-- what was put on is taken off -/
theorem take_both {n : Nat} {xs ys zs ws : List (Int × Fx)} (gx : Good n xs) (gy : Good n ys) (h0 : 0 < n) (hz : IsS (gat xs ys) zs) (hw : IsS (gat [] (zs ++ ngs ys)) ws) : ws = xs := by
  have gz := both_good gx gy h0 hz
  refine hw.uniq gx.self fun k => ?_
  have e : lk zs k = fadd (lk xs k) (lk ys k) := by
    rw [← lk_gat_nodup gx.all h0 gy.nodup]
    by_cases c : lk (gat xs ys) k = (0, 1)
    · rw [c]
      by_cases d : lk zs k = (0, 1)
      · exact d
      · obtain ⟨⟨k2, y⟩, hm, e2⟩ := List.mem_map.mp (lk_mem d)
        simp only at e2
        subst e2
        exact absurd (c ▸ ((hz.2 _ _).mp hm).1.symm) ((hz.2 _ _).mp hm).2
    · exact lk_of_mem gz.nodup ((hz.2 k _).mpr ⟨rfl, c⟩)
  have gy2 : AllF (n + n + 1) ys := fun a ha => ⟨(gy.all a ha).1, (gy.all a ha).2.up (by omega)⟩
  rw [lk_take gz ⟨gy.nd, gy2, gy.pos, gy.lo⟩ (by omega), e]
  exact fsub_fadd (lk_fr gx.all h0 k).1 (lk_fr gy.all h0 k).1
theorem both_comm {n : Nat} {xs ys zs ws : List (Int × Fx)} (gx : Good n xs) (gy : Good n ys) (h0 : 0 < n) (hz : IsS (gat xs ys) zs) (hw : IsS (gat [] (ys ++ xs)) ws) : ws = zs :=
  hw.uniq hz fun k => by rw [lk_cat gy h0 gx.nodup, lk_gat_nodup gx.all h0 gy.nodup, fadd_comm]
theorem both_same {n : Nat} {xs ys zs ws : List (Int × Fx)} (gx : Good n xs) (gy : Good n ys) (h0 : 0 < n) (hz : IsS (gat xs ys) zs) (hw : IsS (gat [] (xs ++ ys)) ws) : ws = zs :=
  hw.uniq hz fun k => by rw [lk_cat gx h0 gy.nodup, lk_gat_nodup gx.all h0 gy.nodup]
/-- the second one is within the first one -/
def Inn (xs ys : List (Int × Fx)) : Prop := ∀ a ∈ ys, a.1 ∈ xs.map (·.1) ∧ flt (lk xs a.1) a.2 = false
theorem nd_len : ∀ {r q : List Int}, r.Nodup → (∀ a ∈ r, a ∈ q) → r.length ≤ q.length
  | [], _, _, _ => Nat.zero_le _
  | a :: r, q, h, m => by
    rw [List.nodup_cons] at h
    have ha : a ∈ q := m a List.mem_cons_self
    have h2 := nd_len (q := q.erase a) h.2 fun b hb => (List.mem_erase_of_ne fun e => h.1 (by rw [← e]; exact hb)).mpr (m b (List.mem_cons_of_mem _ hb))
    rw [List.length_erase_of_mem ha] at h2
    have := List.length_pos_of_mem ha
    rw [List.length_cons]
    omega
theorem take_in {n : Nat} {xs ys zs : List (Int × Fx)} (gx : Good n xs) (gy : Good n ys) (h0 : 0 < n) (h8 : xs.length ≤ 8) (hz : IsS (gat [] (xs ++ ngs ys)) zs) (h : Inn xs ys) : Shr zs ∧ ∀ ws, IsS (tks xs ys) ws → zs = ws := by
  have lx := fun k => lk_fr gx.all h0 k
  have ly := fun k => lk_fr gy.all h0 k
  have val : ∀ k x, (k, x) ∈ zs → x = fsub (lk xs k) (lk ys k) ∧ x ≠ (0, 1) ∧ k ∈ xs.map (·.1) := fun k x hm => by
    obtain ⟨e, hx⟩ := (hz.2 k x).mp hm
    rw [lk_take gx gy h0] at e
    refine ⟨e.symm, hx, ?_⟩
    by_cases a : k ∈ xs.map (·.1)
    · exact a
    · by_cases b : k ∈ ys.map (·.1)
      · obtain ⟨c, hc, ec⟩ := List.mem_map.mp b
        rw [← ec]
        exact (h c hc).1
      · rw [lk_none a, lk_none b] at e
        exact absurd (e.symm.trans (by decide)) hx
  refine ⟨⟨?_, fun a ha => ?_, hz.1⟩, fun ws hw => hz.uniq hw fun k => ?_⟩
  · have n1 : (zs.map (·.1)).Nodup := hz.1.imp fun e => Int.ne_of_lt e
    have := nd_len (q := xs.map (·.1)) n1 fun k hk => by
      obtain ⟨a, ha, rfl⟩ := List.mem_map.mp hk
      exact (val a.1 a.2 ha).2.2
    rw [List.length_map, List.length_map] at this
    omega
  · obtain ⟨e, hne, m⟩ := val a.1 a.2 ha
    obtain ⟨b, hb, eb⟩ := List.mem_map.mp m
    have lo := gx.lo b hb
    rw [eb] at lo
    have f : Fr a.2 := by rw [e]; exact fsub_fr (lx _).1 (ly _).1
    refine ⟨lo.1, lo.2, f, ?_⟩
    have n0 : a.2.1 ≠ 0 := fun z => hne (fr_zero f z)
    have n1 : ¬ a.2.1 < 0 := fun z => by
      rw [e, fsub_neg_iff (lx _).1 (ly _).1] at z
      by_cases c : a.1 ∈ ys.map (·.1)
      · obtain ⟨b2, hb2, eb2⟩ := List.mem_map.mp c
        have q := (h b2 hb2).2
        rw [eb2] at q
        rw [← eb2, lk_of_mem gy.nodup hb2, eb2, q] at z
        cases z
      · rw [lk_none c] at z
        unfold flt at z
        have := (lk_nonneg gx.pos a.1).1
        have z2 := of_decide_eq_true z
        simp only [Int.mul_one, Int.zero_mul] at z2
        omega
    omega
  · rw [lk_take gx gy h0, lk_tks ys xs k gy.nodup]
    split
    · rfl
    · rename_i c
      rw [lk_none c]
      have := fsub_fadd (lx k).1 fr01
      rw [fadd_zero (lx k).1] at this
      exact this
theorem take_out {n : Nat} {xs ys zs : List (Int × Fx)} (gx : Good n xs) (gy : Good n ys) (h0 : 0 < n) (hz : IsS (gat [] (xs ++ ngs ys)) zs) (h : ¬ Inn xs ys) : ¬ Shr zs := fun S => by
  refine h fun a ha => ?_
  have hl := lk_of_mem gy.nodup ha
  have hp := gy.pos a ha
  have key : flt (lk xs a.1) a.2 = false := by
    cases c : flt (lk xs a.1) a.2 with
    | false => rfl
    | true =>
      have neg : (fsub (lk xs a.1) (lk ys a.1)).1 < 0 := by
        rw [fsub_neg_iff (lk_fr gx.all h0 _).1 (lk_fr gy.all h0 _).1, hl]
        exact c
      have hm : (a.1, fsub (lk xs a.1) (lk ys a.1)) ∈ zs := (hz.2 _ _).mpr ⟨lk_take gx gy h0 _, fun e => by rw [e] at neg; exact absurd neg (by decide)⟩
      have := (S.2.1 _ hm).2.2.2
      simp only at this
      omega
  refine ⟨?_, key⟩
  by_cases m : a.1 ∈ xs.map (·.1)
  · exact m
  · rw [lk_none m] at key
    unfold flt at key
    have z := of_decide_eq_false key
    simp only [Int.zero_mul, Int.mul_one] at z
    omega
theorem take_self {n : Nat} {xs zs : List (Int × Fx)} (gx : Good n xs) (h0 : 0 < n) (hz : IsS (gat [] (xs ++ ngs xs)) zs) : zs = [] := by
  refine hz.uniq (g := []) ⟨List.Pairwise.nil, fun k x => ?_⟩ fun k => ?_
  · constructor
    · intro h
      cases h
    · rintro ⟨e, h⟩
      exact absurd e.symm h
  · rw [lk_take gx gx h0]
    have := fsub_fadd fr01 (lk_fr gx.all h0 k).1
    rw [zero_fadd (lk_fr gx.all h0 k).1] at this
    exact this
end CS
set_option Elab.async false
set_option maxRecDepth 100000
set_option maxHeartbeats 8000000
set_option linter.unusedVariables false
namespace CS
open PySem L2
theorem ngs_all {n : Nat} {ys : List (Int × Fx)} (h : AllF n ys) : AllF (n + 1) (ngs ys) := fun a ha => by
  obtain ⟨b, hb, rfl⟩ := List.mem_map.mp ha
  exact ⟨scl_fr (h b hb).1 _, scl_sz (m := 1) (h b hb).1 (h b hb).2 (by decide)⟩
theorem IsS.len {f r : List (Int × Fx)} (h : IsS f r) : r.length ≤ f.length := by
  have n : (r.map (·.1)).Nodup := h.1.imp fun e => Int.ne_of_lt e
  have := nd_len (q := f.map (·.1)) n fun a ha => by
    obtain ⟨⟨k, x⟩, hk, rfl⟩ := List.mem_map.mp ha
    obtain ⟨e, z⟩ := (h.2 k x).mp hk
    exact lk_mem (by rw [e]; exact z)
  simpa using this
section
variable {P : Program} {w : World} {K : PySem.W.Frag} {mg : Str → Option Value} {base : Heap}
def spTakeT (K : PySem.W.Frag) (CB : Addr) : Sp := fun vs H Q E => ∃ p q xs ys, vs = [.ref p, .ref q] ∧ ShAt K H p xs ∧ ShAt K H q ys ∧ Shr xs ∧ Shr ys ∧ AllF 80 xs ∧ AllF 80 ys ∧ ∀ H' r zs, Same H H' → ShAt K H' r zs → IsS (gat [] (xs ++ ngs ys)) zs →
  (Shr zs → Q (.ref r) H') ∧ (¬ Shr zs → ∀ d, H' d = none → E (.ref CB) (some d) (upd H' d (.xd [("given", .ref q)])))
end
end CS
set_option Elab.async false
set_option maxRecDepth 100000
set_option maxHeartbeats 4000000
set_option linter.unusedVariables false
/-! tuples whose very object is known to have no dict of its own, made by tuple(list); dict(..) of such ones -/
namespace CS
open PySem PySem.Spec PyProof.Rows L2
def TupZ (H : Hp) (a : Addr) (xs : List V) : Prop := ∃ o : Obj, o.dict = none ∧ H a = some (.frz o (.tup xs))
theorem TupZ.sq {K : PySem.W.Frag} {H : Hp} {a : Addr} {xs : List V} (h : TupZ H a xs) : SqT K H a xs := by
  obtain ⟨o, _, e⟩ := h
  exact .inl (.inr ⟨o, e⟩)
section
variable {X : Cx}
theorem call_tuple_ofZ : CallR X (.type "tuple") (fun xs H Q => ∃ p ys, xs = [.ref p] ∧ SqL X.K H p ys ∧ ∀ l o, H l = none → o.dict = none → Q (.ref l) (upd H l (.frz o (.tup ys)))) := by
  intro pins s σ H xs us Q I r ⟨p, ys, ex, hq, q⟩
  subst ex
  obtain ⟨u, rfl, rx⟩ := vals1 r
  cases rx
  obtain ⟨its, rv, pl, hz⟩ := I.list hq
  have hl := rv.length
  refine call_tuple_list pl.isList (fun h' kp => ?_) (by simp only [List.size_toArray]; omega)
  have J : Inv X pins σ H { s with heap := h' } := I.kept (t' := s.toks) kp
  have g : (h'.push ({ cls := .type "tuple", data := .seq its.toArray } : Obj)).get? h'.objs.size = some { cls := .type "tuple", data := .seq its.toArray } := Heap.get?_push_size _ rfl
  refine ⟨.ref h'.objs.size, _, J.laid (t' := s.toks) (o := .frz { cls := .type "tuple", data := .seq its.toArray } (.tup ys)) (fun b o e => Heap.get?_push_of_some _ e) (Nat.le_refl _) ?_, rfl, q _ _ (J.hok.fresh (Nat.le_refl _)) rfl⟩
  exact ⟨g, hz, its, rv, ⟨_, g, rfl, _, rfl⟩⟩
theorem call_dictZ (hcalm : X.calm = true) : CallR X (.type "dict") (fun xs H Q => ∃ (a : Addr) (ps : List Addr) (kvs : List (Key × V)), xs = [.ref a] ∧ TupZ H a (ps.map V.ref) ∧ Paired (fun p kv => SqT X.K H p [kV kv.1, kv.2]) ps kvs ∧
    ∀ p, H p = none → Q (.ref p) (upd H p (.dK (mergeK [] kvs)))) := by
  intro pins s σ H xs us Q I r ⟨a, ps, kvs, ex, ⟨o, od, ho⟩, hp, q⟩
  subst ex
  obtain ⟨u, rfl, rx⟩ := vals1 r
  cases rx
  obtain ⟨g, z, its, rv, o2, g2, oc, n, dat⟩ := (show ObjOk X.prog X.w H s.heap a (.frz o (.tup (ps.map V.ref))) from I.hok a _ ho)
  rw [g] at g2
  cases g2
  cases refs_at rv
  rw [List.length_map] at z
  obtain ⟨prs, rel, hl, hpr⟩ := pairs_of I hp
  
  obtain ⟨us, hus⟩ : ∃ us : List (Value × Value), us.length = prs.length ∧ ∀ (j : Nat) (q : Key × Value), prs[j]? = some q → ∃ b u, us[j]? = some (u, q.2) ∧ ps[j]? = some b ∧ IsTup s.heap b #[u, q.2] ∧ keyIs q.1 u = true := by
    have mk : ∀ (prs : List (Key × Value)) (ps : List Addr), prs.length = ps.length → (∀ (j : Nat) (q : Key × Value), prs[j]? = some q → ∃ b u, ps[j]? = some b ∧ IsTup s.heap b #[u, q.2] ∧ keyIs q.1 u = true) → ∃ us : List (Value × Value), us.length = prs.length ∧ ∀ (j : Nat) (q : Key × Value), prs[j]? = some q → ∃ b u, us[j]? = some (u, q.2) ∧ ps[j]? = some b ∧ IsTup s.heap b #[u, q.2] ∧ keyIs q.1 u = true := by
      intro prs
      induction prs with
      | nil => exact fun ps _ _ => ⟨[], rfl, fun j q e => by simp at e⟩
      | cons p prs ih =>
        intro ps hl h
        cases ps with
        | nil => simp at hl
        | cons c ps =>
          obtain ⟨b, u, e1, e2, e3⟩ := h 0 p rfl
          obtain ⟨us, h1, h2⟩ := ih ps (by simpa using hl) fun j q e => by simpa using h (j + 1) q (by simpa using e)
          refine ⟨(u, p.2) :: us, by simp [h1], fun j q e => ?_⟩
          cases j with
          | zero =>
            cases (Option.some.inj e : p = q)
            exact ⟨b, u, rfl, e1, e2, e3⟩
          | succ j => simpa using h2 j q (by simpa using e)
    exact mk prs ps hl hpr
  obtain ⟨ul, uh⟩ := hus
  have P := PairArg.tuple (prog := X.prog) (w := X.w) a (ps.map Value.ref).toArray (fun j => (ps[j]?).getD 0) us
  refine PySem.call_dict_pairs (knd := mixKind X.prog X.w) (kvs := prs) P (I.ok.hd hcalm) ⟨⟨o, n, g, oc, od, dat⟩, by simp [ul, hl], fun j k v e => ?_⟩ ⟨by rw [ul], fun i k v e => ?_⟩ (by rw [ul, hl]; exact z) fun h' tk hd' k => ?_
  · have hj : j < prs.length := by rw [← ul]; exact (List.getElem?_eq_some_iff.mp e).1
    obtain ⟨b, u, e1, e2, e3, e4⟩ := uh j prs[j] (List.getElem?_eq_getElem hj)
    rw [e] at e1
    cases e1
    refine ⟨by simp [e2], ?_⟩
    show PairAt s.heap ((ps[j]?).getD 0) _ _
    rw [e2]
    exact .inl e3
  · have e : us[i]? = some (k, v) := e
    have hj : i < prs.length := by rw [← ul]; exact (List.getElem?_eq_some_iff.mp e).1
    obtain ⟨b, u, e1, e2, e3, e4⟩ := uh i prs[i] (List.getElem?_eq_getElem hj)
    rw [e] at e1
    cases e1
    exact ⟨prs[i].1, List.getElem?_eq_getElem hj, e4⟩
  · have hm : (s.heap.objs.size == sysModules) = false := beq_eq_false_iff_ne.mpr (Nat.ne_of_gt I.big)
    have h1 : (mergeK [] kvs).length ≤ sizeLine := by
      have := length_mergeK kvs []
      have h2 := Paired.length rel
      rw [List.length_nil, Nat.zero_add] at this
      omega
    exact ⟨.ref s.heap.objs.size, upd H s.heap.objs.size (.dK (mergeK [] kvs)), I.laid (t' := tk) (fun b o e => k b o (fun z => nomatch z) e) (Nat.le_refl _) (show ObjOk X.prog X.w _ _ _ (.dK (mergeK [] kvs)) from ⟨h1, hm, merged [] prs, KV.merge rel .nil, hd'⟩), rfl, q _ (I.hok.fresh (Nat.le_refl _))⟩
end
end CS
set_option Elab.async false
set_option maxRecDepth 100000
set_option maxHeartbeats 8000000
set_option linter.unusedVariables false
namespace CS
open PySem L2
theorem fr_one (m : Int) : Fr ((m, 1) : Fx) := by
  unfold Fr
  simp
theorem sz_one {m : Int} {n : Nat} (h : m.natAbs < 2 ^ n) (h0 : 0 < n) : Sz n ((m, 1) : Fx) := ⟨h, Nat.one_lt_two_pow (by omega)⟩
section
variable {P : Program} {w : World} {K : PySem.W.Frag} {mg : Str → Option Value} {base : Heap}
/-! share_of -/
def spShOf (K : PySem.W.Frag) : Sp := fun vs H Q _ => ∃ d kvs g, vs = [.ref d] ∧ H d = some (.dK kvs) ∧ DPr K H kvs g ∧ (g.map (·.1)).Nodup ∧ g.length ≤ 40 ∧ ∀ H' r ys, Same H H' → ShAt K H' r ys → IsS g ys → Q (.ref r) H'
end
end CS
set_option Elab.async false
set_option maxRecDepth 100000
set_option maxHeartbeats 8000000
set_option linter.unusedVariables false
namespace CS
open PySem L2
/-! shares whose tuple has no dict of its own -/
def ShZ (K : PySem.W.Frag) (H : Hp) (p : Addr) (xs : List (Int × Fx)) : Prop := ∃ vs, TupZ H p vs ∧ PrsAt K H vs xs
section
variable {K : PySem.W.Frag} {H H' : Hp}
theorem ShZ.sh {p : Addr} {xs : List (Int × Fx)} (h : ShZ K H p xs) : ShAt K H p xs := by
  obtain ⟨vs, a, b⟩ := h
  exact ⟨vs, a.sq, b⟩
theorem ShZ.same {p : Addr} {xs : List (Int × Fx)} (e : Same H H') (h : ShZ K H p xs) : ShZ K H' p xs := by
  obtain ⟨vs, ⟨o, d, a⟩, b⟩ := h
  exact ⟨vs, ⟨o, d, e _ _ a⟩, b.tk (tk_same e)⟩
/-- the table that dict(..) makes of a share -/
theorem dpr_merge : ∀ {vs : List V} {xs : List (Int × Fx)}, PrsAt K H vs xs → ∃ (ps : List Addr) (kvs : List (Key × V)), vs = ps.map V.ref ∧ Paired (fun p kv => SqT K H p [kV kv.1, kv.2]) ps kvs ∧
    ∀ (acc : List (Key × V)) (f : List (Int × Fx)), DPr K H acc f → ((f ++ xs).map (·.1)).Nodup → DPr K H (mergeK acc kvs) (f ++ xs)
  | _, _, .nil => ⟨[], [], rfl, .nil, fun acc f h _ => by rw [List.append_nil]; exact h⟩
  | _, _, @PrsAt.cons _ _ q r m x vs xs a b c => by
    obtain ⟨ps, kvs, e, hp, k⟩ := dpr_merge c
    refine ⟨q :: ps, (Sum.inl m, .ref r) :: kvs, by rw [e]; rfl, .cons a hp, fun acc f h hn => ?_⟩
    have hn2 : (f.map (·.1)).Nodup := by
      rw [List.map_append] at hn
      exact (List.nodup_append.mp hn).1
    have hm : m ∉ f.map (·.1) := fun z => by
      rw [List.map_append] at hn
      exact (List.nodup_append.mp hn).2.2 m z m (by simp) rfl
    have h2 := h.put hn2 (k := m) b
    rw [ups_new hm] at h2
    have := k _ _ h2 (by rw [List.append_assoc]; exact hn)
    rw [List.append_assoc] at this
    exact this
end
section
variable {P : Program} {w : World} {K : PySem.W.Frag} {mg : Str → Option Value} {base : Heap}
/-- two shares in, the first one of the law's own, a share out -/
def spTwo (K : PySem.W.Frag) (ok : List (Int × Fx) → List (Int × Fx) → Prop) (g : List (Int × Fx) → List (Int × Fx) → List (Int × Fx)) : Sp := fun vs H Q _ => ∃ p q xs ys, vs = [.ref p, .ref q] ∧ ShZ K H p xs ∧ ShAt K H q ys ∧ (xs.map (·.1)).Nodup ∧ AllF 80 xs ∧ AllF 80 ys ∧ xs.length ≤ 16 ∧ ys.length ≤ 16 ∧ ok xs ys ∧
  ∀ H' r zs, Same H H' → ShAt K H' r zs → IsS (g xs ys) zs → Q (.ref r) H'
end
end CS
set_option Elab.async false
set_option maxRecDepth 100000
set_option maxHeartbeats 8000000
set_option linter.unusedVariables false
namespace CS
open PySem L2
theorem low_pos {t b : Int} (ht : 0 < t) (hb : 0 < b) : 0 < (low t b).1 := (low_sign hb).1.mpr ht
/-- a set's keys, one more -/
def addK (ns : List Int) (m : Int) : List Int := if m ∈ ns then ns else ns ++ [m]
theorem keys_put {kvs : List (Key × V)} {ns : List Int} {m : Int} {v : V} (h : kvs.map (·.1) = ns.map Sum.inl) : (putK kvs (Sum.inl m : Key) v).map (·.1) = (addK ns m).map Sum.inl := by
  have e : (kvs.any fun kv => decide (kv.1 = (Sum.inl m : Key))) = decide (m ∈ ns) := by
    have e1 : (kvs.any fun kv => decide (kv.1 = (Sum.inl m : Key))) = (kvs.map (·.1)).any fun k => decide (k = (Sum.inl m : Key)) := by rw [List.any_map]; rfl
    rw [e1, h, List.any_map, Bool.eq_iff_iff]
    simp
  unfold putK addK
  rw [e]
  by_cases c : m ∈ ns
  · rw [if_pos (decide_eq_true c), if_pos c, ← h, List.map_map]
    apply List.map_congr_left
    intro kv _
    simp only [Function.comp]
    by_cases q : kv.1 = (Sum.inl m : Key)
    · rw [if_pos q, q]
    · rw [if_neg q]
  · rw [if_neg (by simp [c]), if_neg c, List.map_append, List.map_append, h]
    rfl
theorem addK_nodup {ns : List Int} {m : Int} (h : ns.Nodup) : (addK ns m).Nodup := by
  unfold addK
  split
  · exact h
  · rename_i c
    rw [List.nodup_append]
    refine ⟨h, by simp, fun a ha b hb => ?_⟩
    rw [List.mem_singleton.mp hb]
    exact fun e => c (e ▸ ha)
theorem addK_len (ns : List Int) (m : Int) : (addK ns m).length ≤ ns.length + 1 := by
  unfold addK
  split
  · omega
  · simp
theorem addK_pos (ns : List Int) (m : Int) : 0 < (addK ns m).length := by
  unfold addK
  split
  · next h => exact List.length_pos_of_mem h
  · simp
theorem addK_mem {ns : List Int} {m a : Int} (h : a ∈ addK ns m) : a ∈ ns ∨ a = m := by
  unfold addK at h
  split at h
  · exact .inl h
  · simpa using h
section
variable {H H1 : Hp} {d c l a : Addr} {k : Nat} {o : HO}
/-- a write beside the state -/
theorem StAt.upd (S : StAt H d c l k) (h1 : a ≠ d) (h2 : a ≠ c) (h3 : a ≠ l) : StAt (upd H a o) d c l k := by
  obtain ⟨hd, ne, cs, ls, e1, e2, r⟩ := S
  exact ⟨by rw [upd_ne (Ne.symm h1)]; exact hd, ne, cs, ls, by rw [upd_ne (Ne.symm h2)]; exact e1, by rw [upd_ne (Ne.symm h3)]; exact e2, r⟩
theorem StAt.neD (S : StAt H d c l k) (h : H a = none) : a ≠ d ∧ a ≠ c ∧ a ≠ l := by
  obtain ⟨hd, ne, cs, ls, e1, e2, r⟩ := S
  refine ⟨fun z => ?_, fun z => ?_, fun z => ?_⟩
  · rw [z, hd] at h
    cases h
  · rw [z, e1] at h
    cases h
  · rw [z, e2] at h
    cases h
/-- what was new ahead is no part of the state behind -/
theorem Fm.upd (f : Fm d l H H1) (h : H a = none) : Fm d l H (upd H1 a o) := fun b u e n m => by
  rw [upd_ne (ne_of_none e h)]
  exact f b u e n m
theorem Fm.none (f : Fm d l H H1) (h : H1 a = Option.none) (nd : a ≠ d) (nl : a ≠ l) : H a = Option.none := by
  cases e : H a with
  | none => rfl
  | some u =>
    rw [f a u e nd nl] at h
    cases h
end
section
variable {P : Program} {w : World} {K : PySem.W.Frag} {mg : Str → Option Value} {base : Heap}
def spHeft (K : PySem.W.Frag) : Sp := fun vs H Q _ => ∃ (d c l : Addr) (k : Nat), vs = [.ref d] ∧ StAt H d c l k ∧ k ≤ 90000 ∧ ∀ p H' x, Fr x → 0 < x.1 → Sz 10 x → StAt H' d c l (k + 2) → Fm d l H H' → FT K H' p x → Q (.ref p) H'
theorem scLawHeft : FnScope ["state"] ["state"] (defScope sLawHeft) := ⟨rfl, rfl, rfl, by decide +kernel, rfl, by decide +kernel, by decide +kernel⟩
theorem ok_law_heft {f f1 f2 : Addr} {fd fd1 fd2 : FuncData} (F : Df K mg "_law_heft" sLawHeft ["state"] f fd) (F1 : Df K mg "_law_draw" sDraw ["state", "many"] f1 fd1) (G1 : FnOk P w K mg base CX0 2 f1 fd1 ["state", "many"] spDraw) (F2 : Df K mg "_law_ratio" sLawRatio ["top", "bottom"] f2 fd2) (G2 : FnOk P w K mg base CX0 1 f2 fd2 ["top", "bottom"] spLowP) : FnOk P w K mg base CX0 3 f fd ["state"] (spHeft K) := by
  refine F.F.ok scLawHeft (fun vs H Q E h => ?_) (fun cdv A outer s H vs Q E hr h => ?_)
  · obtain ⟨d, c, l, k, rfl, _⟩ := h
    rfl
  · obtain ⟨d, c, l, n, rfl, S, hn, k⟩ := h
    refine ⟨_, pss_one (ps_ret (pe_call G2 (hr.mono (by decide)) (by rfl) F2.g F2.F.kp F2.b .nil pass0 (pa_cons (pe_op op_add pe_int (pe_call G1 hr (by rfl) F1.g F1.F.kp F1.b .nil pass0 (pa_cons (pv 0) (pa_cons pe_int pa_nil))))
      (pa_cons (pe_op op_add pe_int (pe_call G1 hr (by rfl) F1.g F1.F.kp F1.b .nil pass0 (pa_cons (pv 0) (pa_cons pe_int pa_nil)))) pa_nil)))), ?_⟩
    refine ⟨_, rfl, d, c, l, n, _, rfl, S, by decide, by decide, by omega, fun r H1 r0 r1 S1 fm1 => ?_⟩
    refine ⟨_, _, rfl, rfl, _, rfl, d, c, l, n + 1, _, rfl, S1, by decide, by decide, by omega, fun u H2 u0 u1 S2 fm2 => ?_⟩
    refine ⟨_, _, rfl, rfl, _, _, rfl, by omega, lt_up (n := 4000) (show (1 + r).natAbs < 2 ^ 10 by omega) (by decide), lt_up (n := 4000) (show (1 + u).natAbs < 2 ^ 10 by omega) (by decide), fun p hp => ?_⟩
    exact k p _ (low (1 + r) (1 + u)) (low_fr (by omega)) (low_pos (by omega) (by omega)) (low_sz (by omega) (by omega) (by omega)) (S2.same (Same.new hp)) ((fm1.trans fm2).same (Same.new hp)) (SqT.of upd_same)
def spMarks : Sp := fun vs H Q _ => ∃ (d c l : Addr) (k : Nat) (m n : Int), vs = [.ref d, .int m, .int n] ∧ StAt H d c l k ∧ k ≤ 80000 ∧ 0 < m ∧ m ≤ 10 ∧ 0 ≤ n ∧ n ≤ 90 ∧
  ∀ (H' : Hp) (p : Addr) (ns : List Int) (k' : Nat), k' ≤ k + 11 → ns.Pairwise (· < ·) → (∀ a ∈ ns, -n ≤ a ∧ a ≤ n) → (ns.length : Int) ≤ m → 0 < ns.length → StAt H' d c l k' → Fm d l H H' → H p = none → H' p = some (.lst (ns.map V.int)) → Q (.ref p) H'
theorem scLawMarks : FnScope ["state", "many", "most", "known", "k"] ["state", "many", "most"] (defScope sLawMarks) := ⟨rfl, rfl, rfl, by decide +kernel, rfl, by decide +kernel, by decide +kernel⟩
theorem ok_law_marks {f f1 : Addr} {fd fd1 : FuncData} (F : Df K mg "_law_marks" sLawMarks ["state", "many", "most"] f fd) (F1 : Df K mg "_law_draw" sDraw ["state", "many"] f1 fd1) (G1 : FnOk P w K mg base CX0 2 f1 fd1 ["state", "many"] spDraw) (T : Bt mg) : FnOk P w K mg base CX0 3 f fd ["state", "many", "most"] spMarks := by
  refine F.F.ok scLawMarks (fun vs H Q E h => ?_) (fun cdv A outer s H vs Q E hr h => ?_)
  · obtain ⟨d, c, l, k, m, n, rfl, _⟩ := h
    rfl
  · obtain ⟨d, c, l, k0, m, n, rfl, S, hk0, m0, m1, n0, n1, k⟩ := h
    have hu := hu_of hr
    refine ⟨_, pss_cons (ps_set (i := 3) scLawMarks.nd rfl (Or.inl rfl) pe_dnewK)
      (pss_cons (ps_for PassesOwn.never rfl (pi_range1 rfl T.range (pa_cons (pe_op op_add pe_int (pe_call G1 hr (by rfl) F1.g F1.F.kp F1.b .nil pass0 (pa_cons (pv 0) (pa_cons (pv 1) pa_nil)))) pa_nil)) (pg_name (i := 4) scLawMarks.nd rfl (Or.inl rfl)) (pss_one (ps_dput hu (pv 3) (pe_op op_sub (pe_call G1 hr (by rfl) F1.g F1.F.kp F1.b .nil pass0 (pa_cons (pv 0) (pa_cons (pe_op op_add (pe_op op_mul pe_int (pv 2)) pe_int) pa_nil))) (pv 2)) pe_bl rfl)))
      (pss_one (ps_ret (pe_callB (call_sortedDI rfl) (by rfl) T.sorted (by decide +kernel) (pa_cons (pv 3) pa_nil))))), ?_⟩
    intro t ht
    have s0 := Same.new (o := .dK []) ht
    have N0 := S.neD ht
    have S0 := S.same s0
    refine ⟨_, rfl, _, rfl, d, c, l, k0, _, rfl, S0, m0, by omega, by omega, fun r H1 r0 r1 S1 fm1 => ?_⟩
    have ht1 : H1 t = some (.dK []) := fm1 t _ upd_same N0.1 N0.2.2
    have fmT : Fm d l H H1 := fun b o e n1 n2 => fm1 b o (s0 b o e) n1 n2
    refine ⟨_, _, rfl, rfl, _, rfl, by omega, by omega, ?_⟩
    refine for_range (lo := 0) (n := (1 + r).toNat) (fun i σ H' => ∃ v kvs ns, σ = [some (.ref d), some (.int m), some (.int n), some (.ref t), v] ∧ H' t = some (.dK kvs) ∧ kvs.map (·.1) = ns.map Sum.inl ∧ ns.Nodup ∧ (∀ a ∈ ns, -n ≤ a ∧ a ≤ n) ∧ ns.length ≤ i ∧ (0 < i → 0 < ns.length) ∧ StAt H' d c l (k0 + 1 + i) ∧ Fm d l H H')
      ⟨none, [], [], rfl, ht1, rfl, List.nodup_nil, fun a ha => (by cases ha), Nat.le_refl _, fun z => absurd z (Nat.lt_irrefl 0), S1, fmT⟩ ?_ ?_
    · rintro i σ H' hi ⟨v, kvs, ns, rfl, h1, h2, h3, h4, h5, h6, S2, fm2⟩
      refine ⟨_, rfl, _, rfl, _, rfl, _, _, rfl, rfl, .inl ⟨by decide, by decide⟩, _, _, rfl, rfl, d, c, l, _, _, rfl, S2, by omega, by omega, by omega, fun u H2 u0 u1 S3 fm3 => ?_⟩
      have ht2 : H2 t = some (.dK kvs) := fm3 t _ h1 N0.1 N0.2.2
      have hl : kvs.length < sizeLine := by
        have := congrArg List.length h2
        rw [List.length_map, List.length_map] at this
        exact small1000 (by omega)
      refine ⟨_, rfl, _, _, rfl, rfl, t, _, rfl, DPut.k (k := Sum.inl (u - n)) ht2 hl, ?_⟩
      refine ⟨_, _, _, rfl, upd_same, keys_put h2, addK_nodup h3, fun a ha => ?_, ?_, fun _ => addK_pos ns (u - n), ?_, ?_⟩
      · rcases addK_mem ha with q | q
        · exact h4 a q
        · omega
      · have := addK_len ns (u - n)
        omega
      · exact S3.upd N0.1 N0.2.1 N0.2.2
      · exact (fm2.trans fm3).upd ht
    · rintro σ H' ⟨v, kvs, ns, rfl, h1, h2, h3, h4, h5, h6, S2, fm2⟩
      refine ⟨_, rfl, t, kvs, ns, rfl, .inl h1, h2, by omega, fun ys p perm srt hp => ?_⟩
      have sp := Same.new (o := .lst (ys.map V.int)) hp
      have hnd : ys.Nodup := perm.nodup_iff.mpr h3
      refine k _ p ys _ (by omega) ?_ (fun a ha => h4 a (perm.mem_iff.mp ha)) ?_ (by rw [perm.length_eq]; exact h6 (by omega)) (S2.same sp) (fm2.same sp) (fm2.none hp (S2.neD hp).1 (S2.neD hp).2.2) upd_same
      · refine (List.Pairwise.and srt hnd).imp ?_
        rintro a b ⟨q1, q2⟩
        omega
      · rw [perm.length_eq]
        omega
def spShare (K : PySem.W.Frag) : Sp := fun vs H Q _ => ∃ (d c l : Addr) (k : Nat) (m : Int), vs = [.ref d, .int m] ∧ StAt H d c l k ∧ k ≤ 70000 ∧ 0 < m ∧ m ≤ 8 ∧
  ∀ H' p xs k', k' ≤ k + 40 → Good 10 xs → xs.length ≤ 8 → 0 < xs.length → StAt H' d c l k' → Fm d l H H' → ShZ K H' p xs → Q (.ref p) H'
theorem scLawShare : FnScope ["state", "many", "mark"] ["state", "many"] (defScope sLawShare) := ⟨rfl, rfl, rfl, by decide +kernel, rfl, by decide +kernel, by decide +kernel⟩
theorem ok_law_share {f f1 f2 : Addr} {fd fd1 fd2 : FuncData} (F : Df K mg "_law_share" sLawShare ["state", "many"] f fd) (F1 : Df K mg "_law_heft" sLawHeft ["state"] f1 fd1) (G1 : FnOk P w K mg base CX0 3 f1 fd1 ["state"] (spHeft K)) (F2 : Df K mg "_law_marks" sLawMarks ["state", "many", "most"] f2 fd2) (G2 : FnOk P w K mg base CX0 3 f2 fd2 ["state", "many", "most"] spMarks) (T : Bt mg) : FnOk P w K mg base CX0 4 f fd ["state", "many"] (spShare K) := by
  refine F.F.ok scLawShare (fun vs H Q E h => ?_) (fun cdv A outer s H vs Q E hr h => ?_)
  · obtain ⟨d, c, l, k, m, rfl, _⟩ := h
    rfl
  · obtain ⟨d, c, l, k0, m, rfl, S, hk0, m0, m1, k⟩ := h
    refine ⟨_, pss_one (ps_ret (pe_callTy call_tuple_ofZ (by rfl) T.tuple (by decide +kernel) (pa_cons (pe_lc (own := [("mark", 2)]) (g := gName 2) (tt := tYes) rfl scLawShare.nd (pi_list (pe_call G2 hr (by rfl) F2.g F2.F.kp F2.b .nil pass0 (pa_cons (pv 0) (pa_cons (pv 1) (pa_cons pe_int pa_nil))))) (blkOk_by (N := ["state", "many", "mark"]) (sc := defScope sLawShare) (by decide +kernel)) (fun _ _ _ _ _ => pg_name (i := 2) scLawShare.nd rfl (Or.inl rfl)) (fun _ _ _ _ _ => pts_nil) (fun _ _ _ _ _ => pe_tup (pa_cons (pv 2) (pa_cons (pe_call G1 hr (by rfl) F1.g F1.F.kp F1.b .nil pass0 (pa_cons (pv 0) pa_nil)) pa_nil)))) pa_nil))), ?_⟩
    refine ⟨_, rfl, _, rfl, d, c, l, k0, m, 9, rfl, S, by omega, m0, by omega, by decide, by decide, fun H1 t ns k1 hk1 asc lo len pos S1 fm1 nt ht => ?_⟩
    have Nt := S.neD nt
    refine ⟨t, rfl, ⟨_, SqL.of ht⟩, fun D hD => lc_list (K := K) (a := t) (xs := ns.map V.int) (fun i H' => ∃ ws xs, H' D = some (.lst ws) ∧ PrsAt K H' ws xs ∧ xs.map (·.1) = ns.take i ∧ AllF 10 xs ∧ (∀ a ∈ xs, 0 < a.2.1) ∧ StAt H' d c l (k1 + 2 * i) ∧ Fm d l H1 H')
      ⟨[], [], upd_same, .nil, rfl, fun a ha => (by cases ha), fun a ha => (by cases ha), S1.same (Same.new hD), same_fm (Same.new hD)⟩ ?_ ?_ ?_⟩
    · rintro i H' _ ⟨ws, xs, _, _, _, _, _, _, fm2⟩
      exact SqL.of (fm2 t _ ht Nt.1 Nt.2.2)
    · rintro i v H' hi ⟨ws, xs, h1, h2, h3, h4, h5, S2, fm2⟩
      rw [List.getElem?_map] at hi
      obtain ⟨z, hzi, rfl⟩ : ∃ z, ns[i]? = some z ∧ v = V.int z := by
        cases e : ns[i]? with
        | none => rw [e] at hi; cases hi
        | some z => rw [e] at hi; exact ⟨z, rfl, (Option.some.inj hi).symm⟩
      have hi2 : i < ns.length := (List.getElem?_eq_some_iff.mp hzi).1
      have nD := S1.neD hD
      refine ⟨rfl, ?_⟩
      dsimp only [tYes]
      rw [if_pos rfl]
      refine ⟨_, rfl, _, rfl, d, c, l, _, rfl, S2, by omega, fun p H2 x fx px zx S3 fm3 hx => ⟨(by show 2 ≤ sizeLine; decide), fun q hq => ?_⟩⟩
      have kq := Same.new (o := .tup [V.int z, V.ref p]) hq
      have hD2 : H2 D = some (.lst ws) := fm3 D _ h1 nD.1 nD.2.2
      have hxl : xs.length ≤ i := by
        have := congrArg List.length h3
        rw [List.length_map, List.length_take] at this
        omega
      refine ⟨ws, kq _ _ hD2, small1000 (by rw [h2.len]; omega), ?_⟩
      refine ⟨_, xs ++ [(z, x)], upd_same, ?_, ?_, h4.app ?_, ?_, ?_, ?_⟩
      · exact (((h2.tk (tk_fm fm3 S2)).tk (tk_same kq)).app (.cons (SqT.of upd_same) (kq.tup hx) .nil)).tk (tk_lst (kq _ _ hD2))
      · rw [List.map_append, h3, take_snoc hzi]
        rfl
      · intro a ha
        rw [List.mem_singleton.mp ha]
        exact ⟨fx, zx⟩
      · intro a ha
        rcases List.mem_append.mp ha with q | q
        · exact h5 a q
        · rw [List.mem_singleton.mp q]
          exact px
      · exact (S3.same kq).upd nD.1 nD.2.1 nD.2.2
      · exact ((fm2.trans fm3).same kq).upd hD
    · rintro H' ⟨ws, xs, h1, h2, h3, h4, h5, S2, fm2⟩
      rw [List.length_map] at *
      rw [List.take_length] at h3
      have hl : xs.length = ns.length := by
        have := congrArg List.length h3
        rwa [List.length_map] at this
      refine ⟨_, ws, rfl, SqL.of h1, fun q o hq ho => ?_⟩
      have kq := Same.new (o := .frz o (.tup ws)) hq
      refine k _ q xs _ (by omega) ⟨by rw [h3]; exact asc, h4, h5, fun a ha => ?_⟩ (by omega) (by omega) (S2.same kq) ((fm1.trans fm2).same kq) ⟨ws, ⟨o, ho, upd_same⟩, h2.tk (tk_same kq)⟩
      have : a.1 ∈ ns := by
        rw [← h3]
        exact List.mem_map.mpr ⟨a, ha, rfl⟩
      have := lo _ this
      omega
end
end CS
set_option Elab.async false
set_option maxRecDepth 100000
set_option maxHeartbeats 4000000
set_option linter.unusedVariables false
/-! Calls while no repr is under way; repr of data of any depth. -/
namespace CS
open PySem PySem.Spec PyProof.Rows L2
/-- a call stands ready, and no repr is under way around it -/
structure Quiet (P : Program) (w : World) (K : PySem.W.Frag) (mg : Str → Option Value) (base : Heap) (k : Nat) (fd : FuncData) (ps : List Str) (A : Around) (outer : List Env) (s : Shared) (H : Hp) (args : Args) (us : List Value) (vs : List V) : Prop where
  still : A.guards = some []
  room : Room k A
  env : Env0 P w K mg base A outer s H
  bound : BindsTo s fd args (ps.zip us)
  vals : Vals vs us
/-- a def's promise for calls while no repr is under way -/
structure FnG (P : Program) (w : World) (K : PySem.W.Frag) (mg : Str → Option Value) (base : Heap) (CX : CXT) (k : Nat) (f : Addr) (fd : FuncData) (ps : List Str) (sp : Sp) : Prop where
  many : ∀ vs H Q E, sp vs H Q E → vs.length = ps.length
  go : ∀ {A outer s H args us vs Q E}, Quiet P w K mg base k fd ps A outer s H args us vs → sp vs H Q E → codeAny (model P w) A (.call (.ref f) args) (CR CX outer P w H s Q E) s
section
variable {P : Program} {w : World} {K : PySem.W.Frag} {mg : Str → Option Value} {base : Heap} {CX : CXT} {k : Nat} {f : Addr} {fd : FuncData} {ps N : List Str} {sp : Sp} {x qual : Str} {st : Stmt}
theorem FnG.of_any (F : FnOk P w K mg base CX k f fd ps sp) : FnG P w K mg base CX k f fd ps sp := ⟨F.len, fun q h => F.run _ _ _ _ _ _ _ _ _ q.room q.env q.bound q.vals h⟩
/-- how a body's end is the call's end -/
theorem end_of_body {scope : Scope} {cdv : Value} {A : Around} {outer : List Env} {s s' : Shared} {H : Hp} {Q : VK} {E : XK} {fl : Flow} (h : SP (cxOf CX P w K mg base N qual scope f cdv A outer s H E) [] { nx := fun _ H' => Q .non H', rt := Q } fl s') :
    ∃ u v, (fl = .ret u ∨ (fl = .next ∧ u = Value.none)) ∧ RelV v u ∧ CE outer P w H s Q u s' := by
  cases fl with
  | ret u =>
    obtain ⟨v, _, H', J, rv, q⟩ := h
    exact ⟨u, v, .inl rfl, rv, v, H', J.os, J.bare, J.base, J.hok, rv, q⟩
  | next =>
    obtain ⟨_, H', J, q⟩ := h
    exact ⟨.none, .non, .inr ⟨rfl, rfl⟩, rfl, .non, H', J.os, J.bare, J.base, J.hok, rfl, q⟩
  | brk => exact absurd h (fun ⟨_, _, _, z⟩ => z)
  | cont => exact absurd h (fun ⟨_, _, _, z⟩ => z)
/-- a def keeps its promise, if its body does, no repr being under way -/
theorem FnG.of_body (F : Fun K x qual st f fd) (S : FnScope N ps (defScope st)) (many : ∀ vs H Q E, sp vs H Q E → vs.length = ps.length)
    (body : ∀ cdv A outer s H vs Q E, A.guards = some [] → Room k (A.deeper (envOfC qual (defScope st) s.heap.objs.size f cdv)) → sp vs H Q E → ∃ t, PSs (cxOf CX P w K mg base N qual (defScope st) f cdv A outer s H E) (defBody st) t ∧ t { nx := fun _ H' => Q .non H', rt := Q } (start N vs) H) :
    FnG P w K mg base CX (k + 1) f fd ps sp := by
  obtain ⟨oc, od, kV, doc, pm, an, cdv, ct, osl, efd, at_, code⟩ := F.ex
  subst efd
  constructor
  · exact many
  intro A outer s H args us vs Q E q h
  have kept := q.env.bs
  have inn : K.In s.heap := q.env.mod.kin.keeps fun b o e => (kept b o e).1
  have nolim : s.heap.NoLimit := q.env.mod.nolimit.keeps fun b o e => (kept b o e).1
  have pars : ∀ y ∈ ps.zip us, (defScope st).names.lookup y.1 = some .local ∨ ((defScope st).names.lookup y.1 = some .cell ∧ ((cellsFrom (s.heap.objs.size + 1) (defScope st).names []).lookup y.1).isSome = true) := by
    rintro ⟨n, v⟩ hy
    exact (S.par n (List.of_mem_zip hy).1).imp id fun c => ⟨c, PySem.W.cellsFrom_some _ _ _ (.inl c)⟩
  refine codeAny_call_function q.room.depth (inn _ _ at_) rfl S.co S.gen rfl (PySem.W.codeRec_of inn code) (q.bound _ _ _ _ (wpAny_newFunctionEnv_cells S.kind pars ?_))
  rintro env rfl s1 laid
  refine ⟨nolim.keeps laid.toInCall.keep, codeAny_func ?_⟩
  obtain ⟨t, run, now⟩ := body cdv A outer s H vs Q E q.still (q.room.deeper _) h
  have I := inv_start (CX := CX) (E := E) S q.room.hd q.env (many _ _ _ _ h) q.vals laid
  refine wpAny_mono (run.run [] s1 _ H _ I now) (fun fl s' e => ?_) fun _ _ e => e
  obtain ⟨u, v, e1, _, e2⟩ := end_of_body e
  rcases e1 with rfl | ⟨rfl, rfl⟩
  · exact e2
  · exact e2
end
section
variable {X : Cx} {CX : CXT} {k : Nat} {f : Addr} {fd : FuncData} {ps : List Str} {sp : Sp} {dvs : List V} {ds : List Value} {E : XK} {x : Str} {p pos : Pos} {e : Expr} {es : List Expr} {t : TA}
/-- f(e, ..) where no repr is under way -/
theorem pe_callG (F : FnG X.prog X.w X.K X.mg X.base CX k f fd ps sp) (hq : X.A.guards = some []) (hr : Room k X.A) (hg : Gl X x) (hm : X.mg x = some (.ref f)) (hk : PySem.W.keepIn X.K (.ref f) = true) (hb : Binds X.K fd ps []) (hx : Passes CX X E) (ha : PA X (e :: es) t)
    (he : starEach (e :: es) X.env = (false, eval e X.env) :: starEach es X.env := by rfl) (hpl : (backTo pos (starEach es X.env)).any (·.1) = false := by rfl) (hdb : (x == ("__debug__" : Str)) = false := by decide) : PE X (.Call (.Name x p) (e :: es) [] pos) (tCall sp [] E t) := by
  constructor
  intro pins s σ H Q I h
  refine wpAny_Call_Name_kw (ld_glob I hg hm (PySem.W.callWith_K (h₀ := X.base) I.ok.mod.kin hk (thn (ha.run pos pins s σ H _ I h) fun us s1 ⟨vs, H1, J, rv, now⟩ => ⟨J.kIn, ?_⟩) he hpl) hdb)
  have now2 : sp vs H1 Q E := by
    have z : sp (vs ++ []) H1 Q E := now
    rw [List.append_nil] at z
    exact z
  have b2 : BindsTo s1 fd ⟨us, []⟩ (ps.zip us) := by
    have z := hb s1 us J.kIn (by rw [List.append_nil, ← rv.length]; exact F.many _ _ _ _ now2)
    rw [List.append_nil] at z
    exact z
  show wpAny _ _ (call (.ref f) us) _ _ _
  refine wpAny_call (codeAny_mono (F.go ⟨hq, hr, J.env0, b2, rv⟩ now2) fun r s' z => ?_)
  match r, z with
  | .error er, z => exact hx pins σ H1 s1 er s' J z
  | .ok (.ret u), z => exact J.after z
  | .ok .next, z => exact z.elim
  | .ok .brk, z => exact z.elim
  | .ok .cont, z => exact z.elim
/-- repr of data -/
def rShow (K : PySem.W.Frag) : List V → Hp → VK → Prop := fun xs H Q => ∃ v d, xs = [v] ∧ Dp K H v d ∧ d.showable = true ∧ d.hasDict = false ∧ d.depth ≤ 60 ∧ d.shown.length + 64 ≤ sizeLine ∧ Q (.str d.shown) H
theorem call_show (hq : X.A.guards = some []) (hu : X.A.units + 64 < cLine) : CallR X (.builtin "repr") (rShow X.K) := by
  intro pins s σ H xs us Q I r ⟨v, d, ex, hd, h1, h2, h3, h4, q⟩
  subst ex
  obtain ⟨u, rfl, rv⟩ := vals1 r
  obtain ⟨as, rd⟩ := Dp.reads I d v u hd rv
  have sz : d.shown.length ≤ sizeLine := by omega
  cases rd with
  | none =>
    refine PySem.P.repr_of_none ⟨.str _, H, I.tok _, ⟨_, rfl⟩, ?_⟩
    rw [PyData.shown_none] at q
    exact q
  | bool b =>
    refine PySem.P.repr_of_bool ⟨.str _, H, I.tok _, ⟨_, rfl⟩, ?_⟩
    rw [PyData.shown_bool] at q
    exact q
  | int i t =>
    refine PySem.P.repr_of_int (of_decide_eq_true h1) ⟨.str _, H, I.tok _, ⟨_, rfl⟩, ?_⟩
    rw [PyData.shown_int] at q
    exact q
  | str x t =>
    rw [PyData.shown_str] at q sz
    exact PySem.P.repr_of_str ⟨.str _, H, I.tok _, ⟨_, rfl⟩, q⟩ sz
  | list g1 g2 g3 g4 => exact repr_of_reads' (.list g1 g2 g3 g4) h1 (PyData.noDict_hsm h2) hq (by omega) (fun _ _ e => e) (fun h' t tk kp => ⟨.str _, H, I.kept (t' := tk) kp, ⟨_, rfl⟩, q⟩) sz
  | tuple g1 g2 g3 g4 => exact repr_of_reads' (.tuple g1 g2 g3 g4) h1 (PyData.noDict_hsm h2) hq (by omega) (fun _ _ e => e) (fun h' t tk kp => ⟨.str _, H, I.kept (t' := tk) kp, ⟨_, rfl⟩, q⟩) sz
  | dict g1 g2 g3 g4 g5 => cases hd
end
/-! the end: a law whose def is called while no repr is under way -/
theorem still_caller : callerA.guards = some [] := rfl
/-- what is tracked ahead of the law's call: its script alone -/
def scriptH (K : PySem.W.Frag) (a : Addr) (vs : List Value) (ns : List Int) : Hp := fun b => if b = a ∧ K.lookup a = none then some (.frz { cls := .type "list", data := .seq vs.toArray } (.lst (ns.map V.int))) else none
section
variable {P : Program} {w : World} {K : PySem.W.Frag} {mg mb : Str → Option Value} {k : Nat} {fa a : Addr} {fd : FuncData} {x : Str} {sp : Sp} {s₁ : Shared} {vs : List Value} {ns : List Int}
theorem scriptH_of {b : Addr} {u : HO} (e : scriptH K a vs ns b = some u) : b = a ∧ K.lookup a = none ∧ u = .frz { cls := .type "list", data := .seq vs.toArray } (.lst (ns.map V.int)) := by
  unfold scriptH at e
  split at e
  · next z => exact ⟨z.1, z.2, (Option.some.inj e).symm⟩
  · cases e
theorem scriptH_ok (ha : s₁.heap.get? a = some { cls := .type "list", data := .seq vs.toArray }) (hi : IntsAre vs ns) (hl : ns.length ≤ sizeLine) : HOk P w (scriptH K a vs ns) s₁.heap := by
  intro b u e
  obtain ⟨rfl, _, rfl⟩ := scriptH_of e
  exact ⟨ha, by rw [List.length_map]; exact hl, vs, _, vals_ints hi, ha⟩
theorem scriptH_sq (KX : K.In s₁.heap) (ha : s₁.heap.get? a = some { cls := .type "list", data := .seq vs.toArray }) (hi : IntsAre vs ns) (hl : ns.length ≤ sizeLine) : SqL K (scriptH K a vs ns) a (ns.map V.int) := by
  cases e : K.lookup a with
  | none => exact .inl (.inr ⟨_, if_pos ⟨rfl, e⟩⟩)
  | some o =>
    have g := KX a o e
    rw [ha] at g
    cases g
    have l := hi.length
    exact .inr ⟨_, vs.toArray, _, e, rfl, rfl, rfl, by rw [List.size_toArray]; omega, by simpa using vals_ints hi⟩
/-- the law's call ends with True, and what stood stands -/
theorem law_still (KX : K.In s₁.heap) (hns : s₁.heap.Ns mainGlobals mg) (hb : s₁.heap.Ns builtinsNs mb) (hbb : ∀ x : Str, x ≠ "__name__" → mb x = bootBuiltins x) (hlim : s₁.heap.NoLimit) (hg : s₁.gens = #[])
    (ha : s₁.heap.get? a = some { cls := .type "list", data := .seq vs.toArray }) (hi : IntsAre vs ns) (hl : ns.length ≤ sizeLine) (hr : Room k callerA)
    (F : ∀ base : Heap, K.In base → base.Ns mainGlobals mg → FnG P w K mg base CX0 k fa fd [x] sp) (bind : ∀ (s : Shared) (u : Value), BindsTo s fd ⟨[u], []⟩ [(x, u)])
    (hsp : ∀ H : Hp, SqL K H a (ns.map V.int) → sp [.ref a] H (fun v _ => v = .bl true) E0) :
    codeAny (model P w) callerA (.call (.ref fa) ⟨[.ref a], []⟩) (fun r s' => r = .ok (.ret (.bool true)) ∧ OldK s₁.heap s'.heap ∧ s'.os = s₁.os ∧ AllBare s'.gens) s₁ := by
  obtain ⟨H, eH⟩ : ∃ H, H = scriptH K a vs ns := ⟨_, rfl⟩
  have ok : HOk P w H s₁.heap := by rw [eH]; exact scriptH_ok ha hi hl
  have sq : SqL K H a (ns.map V.int) := by rw [eH]; exact scriptH_sq KX ha hi hl
  have only : ∀ {b u}, H b = some u → b = a ∧ K.lookup a = none ∧ u = .frz { cls := .type "list", data := .seq vs.toArray } (.lst (ns.map V.int)) := fun e => scriptH_of (by rw [← eH]; exact e)
  -- whatever is not the script's object is in the part that the call may not change
  have stays : ∀ {b : Addr} {ob : Obj}, s₁.heap.get? b = some ob → (b = a → K.lookup a ≠ none) → (hidT s₁.heap H).get? b = some ob := fun {b ob} e n => hidT_get e (by
    cases q : H b with
    | none => rfl
    | some u =>
      obtain ⟨e1, e2, _⟩ := only q
      exact absurd e2 (n e1))
  have names : ∀ {b : Addr} {m : Str → Option Value}, s₁.heap.Ns b m → (hidT s₁.heap H).Ns b m := by
    rintro b m ⟨ob, es, ep, e, ed, r⟩
    refine ⟨ob, es, ep, stays e (fun z => ?_), ed, r⟩
    subst z
    rw [ha] at e
    cases e
    cases ed
  have inn : K.In (hidT s₁.heap H) := fun b ob e => stays (KX b ob e) (fun z => by rw [← z, e]; exact fun y => nomatch y)
  obtain ⟨mc, l1, l2⟩ := hlim
  have env : Env0 P w K mg (hidT s₁.heap H) callerA [] s₁ H := by
    refine ⟨rfl, ⟨inn, names hns, ⟨mb, names hb, hbb⟩, ⟨mc, names l1, l2⟩⟩, fun b ob e => of_hidT e, Nat.le_of_eq (hidT_size _ _), trivial, fun b hb => ?_, ok, .of_eq hg⟩
    exact (List.not_mem_nil hb).elim
  have ready : Quiet P w K mg (hidT s₁.heap H) k fd [x] callerA [] s₁ H ⟨[.ref a], []⟩ [.ref a] [.ref a] := ⟨still_caller, hr, env, bind s₁ (.ref a), .cons rfl .nil⟩
  refine codeAny_mono ((F _ inn (names hns)).go ready (hsp H sq)) fun r s' z => ?_
  match r, z with
  | .error _, z => exact z.elim
  | .ok .next, z => exact z.elim
  | .ok .brk, z => exact z.elim
  | .ok .cont, z => exact z.elim
  | .ok (.ret u), ⟨v, H', os, bare, un, ok', rv, ev⟩ =>
    subst ev
    cases rv
    refine ⟨rfl, OldK.of_keep fun b ob e => ?_, os, bare⟩
    cases q : H b with
    | none => exact un.keep b ob e q (fun z => (List.not_mem_nil z).elim) (by simp)
    | some u =>
      obtain ⟨rfl, _, rfl⟩ := only q
      rw [ha] at e
      cases e
      exact (ok' _ _ (un.frzs _ _ _ q)).1
end
end CS
set_option Elab.async false
set_option maxRecDepth 100000
set_option maxHeartbeats 4000000
set_option linter.unusedVariables false
/-! data of any kind: what keeps it, what it is an instance of, slices, sums, membership -/
namespace CS
open PySem L2
end CS
namespace L2
open PySem CS
section
variable {K : PySem.W.Frag} {H H' : Hp}
mutual
theorem Dp.same (e : Same H H') : ∀ {d : PyData} {v : V}, Dp K H v d → Dp K H' v d
  | .none, _, .non => .non
  | .bool _, _, .bl b => .bl b
  | .int _, _, .int i => .int i
  | .str _, _, .str x => .str x
  | .list _, _, .lst h a => .lst (e.seq h) (DpAll.same e a)
  | .tuple _, _, .tup h a => .tup (e.tup h) (DpAll.same e a)
theorem DpAll.same (e : Same H H') : ∀ {ds : List PyData} {vs : List V}, DpAll K H vs ds → DpAll K H' vs ds
  | [], _, .nil => .nil
  | _ :: _, _, .cons a b => .cons (Dp.same e a) (DpAll.same e b)
end

mutual
def flatD : PyData → Bool
  | .list _ => false
  | .dict _ => false
  | .tuple ds => flatDs ds
  | _ => true
def flatDs : List PyData → Bool
  | [] => true
  | d :: ds => flatD d && flatDs ds
end
mutual
theorem Dp.tk (e : TK K H H') : ∀ {d : PyData} {v : V}, flatD d = true → Dp K H v d → Dp K H' v d
  | .none, _, _, .non => .non
  | .bool _, _, _, .bl b => .bl b
  | .int _, _, _, .int i => .int i
  | .str _, _, _, .str x => .str x
  | .tuple ds, _, f, .tup h a => .tup (e _ _ h) (DpAll.tk e (by simpa [flatD] using f) a)
theorem DpAll.tk (e : TK K H H') : ∀ {ds : List PyData} {vs : List V}, flatDs ds = true → DpAll K H vs ds → DpAll K H' vs ds
  | [], _, _, .nil => .nil
  | d :: ds, _, f, .cons a b => by
    have f2 : (flatD d && flatDs ds) = true := by simpa [flatDs] using f
    rw [Bool.and_eq_true] at f2
    exact .cons (Dp.tk e f2.1 a) (DpAll.tk e f2.2 b)
end
theorem DpAll.len : ∀ {vs : List V} {ds : List PyData}, DpAll K H vs ds → vs.length = ds.length
  | _, _, .nil => rfl
  | _, _, .cons _ b => by simp [DpAll.len b]
theorem DpAll.app : ∀ {vs ws : List V} {ds es : List PyData}, DpAll K H vs ds → DpAll K H ws es → DpAll K H (vs ++ ws) (ds ++ es)
  | _, _, _, _, .nil, g => g
  | _, _, _, _, .cons a b, g => .cons a (DpAll.app b g)
theorem DpAll.drop : ∀ {vs : List V} {ds : List PyData} (n : Nat), DpAll K H vs ds → DpAll K H (vs.drop n) (ds.drop n)
  | _, _, 0, h => h
  | _, _, _ + 1, .nil => .nil
  | _, _, n + 1, .cons _ b => DpAll.drop n b
theorem DpAll.take : ∀ {vs : List V} {ds : List PyData} (n : Nat), DpAll K H vs ds → DpAll K H (vs.take n) (ds.take n)
  | _, _, 0, _ => .nil
  | _, _, _ + 1, .nil => .nil
  | _, _, n + 1, .cons a b => .cons a (DpAll.take n b)
theorem DpAll.get : ∀ {vs : List V} {ds : List PyData} {i : Nat} {v : V}, DpAll K H vs ds → vs[i]? = some v → ∃ d, ds[i]? = some d ∧ Dp K H v d
  | _, _, 0, _, .cons a _, e => by
    cases e
    exact ⟨_, rfl, a⟩
  | _, _, i + 1, _, .cons _ b, e => by
    obtain ⟨d, h1, h2⟩ := DpAll.get b (by simpa using e)
    exact ⟨d, by simpa using h1, h2⟩
theorem DpAll.at : ∀ {vs : List V} {ds : List PyData} {i : Nat} {d : PyData}, DpAll K H vs ds → ds[i]? = some d → ∃ v, vs[i]? = some v ∧ Dp K H v d
  | _, _, 0, _, .cons a _, e => by
    cases e
    exact ⟨_, rfl, a⟩
  | _, _, i + 1, _, .cons _ b, e => by
    obtain ⟨v, h1, h2⟩ := DpAll.at b (by simpa using e)
    exact ⟨v, by simpa using h1, h2⟩
theorem DpAll.ints : ∀ ns : List Int, DpAll K H (ns.map V.int) (ns.map PyData.int)
  | [] => .nil
  | n :: ns => .cons (.int n) (DpAll.ints ns)
theorem DpAll.of_ints : ∀ {ns : List Int} {vs : List V}, DpAll K H vs (ns.map PyData.int) → vs = ns.map V.int
  | [], _, .nil => rfl
  | _ :: _, _, .cons (.int _) b => by rw [DpAll.of_ints b]; rfl
theorem Dp.tup_inv {v : V} {ds : List PyData} (h : Dp K H v (.tuple ds)) : ∃ a xs, v = .ref a ∧ SqT K H a xs ∧ DpAll K H xs ds := by
  cases h with
  | tup h a => exact ⟨_, _, rfl, h, a⟩
theorem Dp.lst_inv {v : V} {ds : List PyData} (h : Dp K H v (.list ds)) : ∃ a xs, v = .ref a ∧ SqL K H a xs ∧ DpAll K H xs ds := by
  cases h with
  | lst h a => exact ⟨_, _, rfl, h, a⟩
theorem Dp.new_tup {p : Addr} {xs : List V} {ds : List PyData} (n : H p = none) (h : DpAll K H xs ds) : Dp K (upd H p (.tup xs)) (.ref p) (.tuple ds) := .tup (SqT.of upd_same) (h.same (Same.new n))
theorem Dp.new_lst {p : Addr} {xs : List V} {ds : List PyData} (n : H p = none) (h : DpAll K H xs ds) : Dp K (upd H p (.lst xs)) (.ref p) (.list ds) := .lst (SqL.of upd_same) (h.same (Same.new n))
mutual
theorem Dp.noDict : ∀ {d : PyData} {v : V}, Dp K H v d → d.hasDict = false
  | .none, _, .non => rfl
  | .bool _, _, .bl _ => rfl
  | .int _, _, .int _ => rfl
  | .str _, _, .str _ => rfl
  | .list ds, _, .lst _ a => by
    rw [PyData.hasDict]
    exact DpAll.noDict a
  | .tuple ds, _, .tup _ a => by
    rw [PyData.hasDict]
    exact DpAll.noDict a
theorem DpAll.noDict : ∀ {ds : List PyData} {vs : List V}, DpAll K H vs ds → PyData.hasDictAll ds = false
  | [], _, .nil => rfl
  | d :: ds, _, .cons a b => by
    rw [PyData.hasDictAll, Dp.noDict a, DpAll.noDict b]
    rfl
end
/-! isinstance -/
def tyD : PyData → String
  | .none => "NoneType"
  | .bool _ => "bool"
  | .int _ => "int"
  | .str _ => "str"
  | .list _ => "list"
  | .tuple _ => "tuple"
  | .dict _ => "dict"
theorem TyX.of_lst {p : Addr} {xs : List V} (h : SqL K H p xs) : TyX K H (.ref p) (.type "list") := by
  rcases h with (h | ⟨o, h⟩) | ⟨o, its, n, h, c, _⟩
  · exact .base (.lst h)
  · exact .base (.frz h)
  · exact .kList h c
theorem Dp.ty {v : V} {d : PyData} (h : Dp K H v d) : TyX K H v (.type (tyD d)) := by
  cases h with
  | non => exact .base .non
  | bl b => exact .base (.bl b)
  | int i => exact .base (.int i)
  | str x => exact .base (.str x)
  | lst h _ => exact TyX.of_lst h
  | tup h _ => exact TyX.of_tup h
def isIntD : PyData → Bool
  | .int _ => true
  | .bool _ => true
  | _ => false
theorem kit_int : ∀ d : PyData, d.hasDict = false → kitB (tyD d) "int" = some (isIntD d)
  | .none, _ => (by decide +kernel : kitB "NoneType" "int" = some false)
  | .bool _, _ => (by decide +kernel : kitB "bool" "int" = some true)
  | .int _, _ => (by decide +kernel : kitB "int" "int" = some true)
  | .str _, _ => (by decide +kernel : kitB "str" "int" = some false)
  | .list _, _ => (by decide +kernel : kitB "list" "int" = some false)
  | .tuple _, _ => (by decide +kernel : kitB "tuple" "int" = some false)
  | .dict _, h => by simp [PyData.hasDict] at h
def isBoolD : PyData → Bool
  | .bool _ => true
  | _ => false
theorem kit_bool : ∀ d : PyData, d.hasDict = false → kitB (tyD d) "bool" = some (isBoolD d)
  | .none, _ => (by decide +kernel : kitB "NoneType" "bool" = some false)
  | .bool _, _ => (by decide +kernel : kitB "bool" "bool" = some true)
  | .int _, _ => (by decide +kernel : kitB "int" "bool" = some false)
  | .str _, _ => (by decide +kernel : kitB "str" "bool" = some false)
  | .list _, _ => (by decide +kernel : kitB "list" "bool" = some false)
  | .tuple _, _ => (by decide +kernel : kitB "tuple" "bool" = some false)
  | .dict _, h => by simp [PyData.hasDict] at h
def isStrD : PyData → Bool
  | .str _ => true
  | _ => false
theorem kit_str : ∀ d : PyData, d.hasDict = false → kitB (tyD d) "str" = some (isStrD d)
  | .none, _ => (by decide +kernel : kitB "NoneType" "str" = some false)
  | .bool _, _ => (by decide +kernel : kitB "bool" "str" = some false)
  | .int _, _ => (by decide +kernel : kitB "int" "str" = some false)
  | .str _, _ => (by decide +kernel : kitB "str" "str" = some true)
  | .list _, _ => (by decide +kernel : kitB "list" "str" = some false)
  | .tuple _, _ => (by decide +kernel : kitB "tuple" "str" = some false)
  | .dict _, h => by simp [PyData.hasDict] at h
def isTupleD : PyData → Bool
  | .tuple _ => true
  | _ => false
theorem kit_tuple : ∀ d : PyData, d.hasDict = false → kitB (tyD d) "tuple" = some (isTupleD d)
  | .none, _ => (by decide +kernel : kitB "NoneType" "tuple" = some false)
  | .bool _, _ => (by decide +kernel : kitB "bool" "tuple" = some false)
  | .int _, _ => (by decide +kernel : kitB "int" "tuple" = some false)
  | .str _, _ => (by decide +kernel : kitB "str" "tuple" = some false)
  | .list _, _ => (by decide +kernel : kitB "list" "tuple" = some false)
  | .tuple _, _ => (by decide +kernel : kitB "tuple" "tuple" = some true)
  | .dict _, h => by simp [PyData.hasDict] at h
end
end L2
namespace CS
open PySem L2
section
variable {K : PySem.W.Frag} {H H' : Hp}
/-! class names -/
theorem cn_int {v : V} {i : Int} (h : Dp K H v (.int i)) : CN K H v "int" := by
  cases h
  exact .int i
theorem cn_bool {v : V} {b : Bool} (h : Dp K H v (.bool b)) : CN K H v "bool" := by
  cases h
  exact .bl b
theorem cn_str {v : V} {x : Str} (h : Dp K H v (.str x)) : CN K H v "str" := by
  cases h
  exact .str x
theorem cn_tup {v : V} {ds : List PyData} (h : Dp K H v (.tuple ds)) : CN K H v "tuple" := by
  cases h with
  | tup h a => exact .tup h
end
/-! slices and sums of tuples as data -/
def cutD {α : Type} (xs : List α) (lo hi : Option Int) : List α := (xs.drop (HT.sIx xs.length 0 lo)).take (HT.sIx xs.length xs.length hi - HT.sIx xs.length 0 lo)
def rCutD (K : PySem.W.Frag) : V → Option Int → Option Int → Hp → VK → Prop := fun x lo hi H Q => ∃ ds, Dp K H x (.tuple ds) ∧ ∀ H' v, Same H H' → Dp K H' v (.tuple (cutD ds lo hi)) → Q v H'
section
variable {X : Cx}
theorem sl_data : L2.SlR X (rCutD X.K) := by
  intro pins s σ H x v vl vu lo hi sl Q I rx hs pl pu ⟨ds, hd, q⟩
  obtain ⟨a, xs, rfl, hx, ha⟩ := hd.tup_inv
  have l := ha.len
  refine sl_tupA pins s σ H _ v vl vu lo hi sl Q I rx hs pl pu ⟨a, xs, rfl, hx, fun w => ?_, fun _ p np => ?_⟩
  · refine q H _ (Same.refl H) ?_
    have e : cutD ds lo hi = ds := by
      unfold cutD
      rw [← l, w.1, w.2, List.drop_zero, Nat.sub_zero, l, List.take_length]
    rw [e]
    exact hd
  · refine q _ _ (Same.new np) (.tup (SqT.of upd_same) ?_)
    unfold cutV cutD
    rw [l]
    exact (((ha.drop _).take _).same (Same.new np))
def rSumD (K : PySem.W.Frag) : R2 := fun x y H Q => ∃ ds es, Dp K H x (.tuple ds) ∧ Dp K H y (.tuple es) ∧ ds.length + es.length ≤ 1000 ∧ ∀ H' v, Same H H' → Dp K H' v (.tuple (ds ++ es)) → Q v H'
theorem op_sumD : OpR X (binaryOp .Add) (rSumD X.K) := by
  intro pins s σ H x y v u Q I rx ry ⟨ds, es, hd, he, sz, q⟩
  obtain ⟨a, xs, rfl, hx, ha⟩ := hd.tup_inv
  obtain ⟨b, ys, rfl, hy, hb⟩ := he.tup_inv
  have l1 := ha.len
  have l2 := hb.len
  refine op_catA pins s σ H _ _ v u Q I rx ry ⟨a, b, xs, ys, rfl, rfl, hx, hy, Nat.le_of_lt (small1000 (by omega)), fun e => ?_, fun _ e => ?_, fun _ _ p np => ?_⟩
  · subst e
    have : ds = [] := List.eq_nil_of_length_eq_zero (by rw [← l1]; rfl)
    subst this
    exact q H _ (Same.refl H) he
  · subst e
    have : es = [] := List.eq_nil_of_length_eq_zero (by rw [← l2]; rfl)
    subst this
    rw [List.append_nil] at q
    exact q H _ (Same.refl H) hd
  · exact q _ _ (Same.new np) (Dp.new_tup np (ha.app hb))
/-- x in t, x not in t -/
def rMemD (K : PySem.W.Frag) (neg : Bool) : R2 := fun x y H Q => ∃ d ds, Dp K H x d ∧ Dp K H y (.tuple ds) ∧ SeqAt.shaped d = true ∧ SeqAt.shaped (.tuple ds) = true ∧ Q (.bl (if neg then !ds.any fun z => PyData.eqv z d else ds.any fun z => PyData.eqv z d)) H
theorem op_memT (hu : X.A.units + 64 < cLine) : OpR X (compareOp .In) (rMemD X.K false) := by
  intro pins s σ H x y v u Q I rx ry ⟨d, ds, hd, he, sd, se, q⟩
  obtain ⟨as, r1⟩ := Dp.reads I d x v hd rx
  obtain ⟨bs, r2⟩ := Dp.reads I (.tuple ds) y u he ry
  refine SeqAt.in_tuple_reads r2 r1 (by simpa [PyData.canLay0] using SeqAt.canLay_of_shaped se) (SeqAt.canLay_of_shaped sd) ?_ ⟨.bl _, H, I, rfl, q⟩
  have z := SeqAt.depth_of_shaped se
  have : 1 + PyData.depthAll ds = (PyData.tuple ds).depth := by simp [PyData.depth]; omega
  have := Nat.min_le_left (PyData.depthAll ds) d.depth
  omega
theorem op_notT (hu : X.A.units + 64 < cLine) : OpR X (compareOp .NotIn) (rMemD X.K true) := by
  intro pins s σ H x y v u Q I rx ry ⟨d, ds, hd, he, sd, se, q⟩
  obtain ⟨as, r1⟩ := Dp.reads I d x v hd rx
  obtain ⟨bs, r2⟩ := Dp.reads I (.tuple ds) y u he ry
  refine SeqAt.notIn_tuple_reads r2 r1 (by simpa [PyData.canLay0] using SeqAt.canLay_of_shaped se) (SeqAt.canLay_of_shaped sd) ?_ ⟨.bl _, H, I, rfl, q⟩
  have z := SeqAt.depth_of_shaped se
  have : 1 + PyData.depthAll ds = (PyData.tuple ds).depth := by simp [PyData.depth]; omega
  have := Nat.min_le_left (PyData.depthAll ds) d.depth
  omega
def rMemL (K : PySem.W.Frag) : R2 := fun x y H Q => ∃ d ds, Dp K H x d ∧ Dp K H y (.list ds) ∧ SeqAt.shaped d = true ∧ SeqAt.shaped (.list ds) = true ∧ Q (.bl (ds.any fun z => PyData.eqv z d)) H
theorem op_memL (hu : X.A.units + 65 < cLine) : OpR X (compareOp .In) (rMemL X.K) := fun pins s σ H x y v u Q I rx ry h => op_inD hu pins s σ H x y v u Q I rx ry h
end
end CS
set_option Elab.async false
set_option maxRecDepth 100000
set_option maxHeartbeats 8000000
set_option linter.unusedVariables false
namespace CS
open PySem L2
/-- a def that tells whether a datum is so -/
def spD1 (K : PySem.W.Frag) (f : PyData → Bool) : Sp := fun vs H Q _ => ∃ v d, vs = [v] ∧ Dp K H v d ∧ Q (.bl (f d)) H
def wholeD : PyData → Bool
  | .int _ => true
  | _ => false
def wordD : PyData → Bool
  | .str _ => true
  | _ => false
def rowD : PyData → Bool
  | .tuple _ => true
  | _ => false
def rowOfD : PyData → Int → Bool
  | .tuple ds, n => decide ((ds.length : Int) = n)
  | _, _ => false
def spRowOfD (K : PySem.W.Frag) : Sp := fun vs H Q _ => ∃ v d n, vs = [v, .int n] ∧ Dp K H v d ∧ Q (.bl (rowOfD d n)) H
/-- a word and a number of things, of a tuple -/
def sortD (sorts : List PyData) : PyData → Bool
  | .tuple (.str x :: ds) => sorts.any fun z => PyData.eqv z (.tuple [.str x, .int ((ds.length + 1 : Nat) : Int)])
  | _ => false
def spSortD (K : PySem.W.Frag) : Sp := fun vs H Q _ => ∃ v d u sorts, vs = [v, u] ∧ Dp K H v d ∧ Dp K H u (.tuple sorts) ∧ SeqAt.shaped d = true ∧ SeqAt.shaped (.tuple sorts) = true ∧ ∀ H', Same H H' → Q (.bl (sortD sorts d)) H'
theorem shaped_head {x : Str} {ds : List PyData} {i : Int} (h : SeqAt.shaped (.tuple (.str x :: ds)) = true) : SeqAt.shaped (.tuple [.str x, .int i]) = true := by
  have h1 := SeqAt.canLay_of_shaped h
  simp [PyData.canLay0, PyData.canLayAll0] at h1
  simp [SeqAt.shaped, PyData.canLay0, PyData.canLayAll0, PyData.depth, PyData.depthAll, h1.1]
section
variable {P : Program} {w : World} {K : PySem.W.Frag} {mg : Str → Option Value} {base : Heap}
theorem ok_wholeD {f : Addr} {fd : FuncData} (F : Df K mg "is_whole" sIsWhole ["thing"] f fd) (T : Bt mg) : FnOk P w K mg base CX0 1 f fd ["thing"] (spD1 K wholeD) := by
  refine F.F.ok scIsWhole (fun vs H Q E h => ?_) (fun cdv A outer s H vs Q E hr h => ?_)
  · obtain ⟨v, d, rfl, _⟩ := h
    rfl
  · obtain ⟨v, d, rfl, hd, k⟩ := h
    refine ⟨_, pss_one (ps_ret (pe_and (pe_callB call_isi (by rfl) T.isinstance (by decide +kernel) (pa_cons (pv 0) (pa_cons (pe_bltn (v := .ty "int") (by rfl) T.int (by decide +kernel) rfl) pa_nil))) (pe_one (pe_cmpR op_eq (pe_cn (pv 0)) pe_str (nomark _))))), ?_⟩
    refine ⟨_, rfl, _, _, _, _, _, rfl, .ty _, hd.ty, kit_ty (kit_int d hd.noDict), _, rfl, ?_⟩
    cases d with
    | int i => exact iteT ⟨_, rfl, _, cn_int hd, rfl, k⟩
    | bool b => exact iteT ⟨_, rfl, _, cn_bool hd, rfl, k⟩
    | none => exact iteF k
    | str x => exact iteF k
    | list ds => exact iteF k
    | tuple ds => exact iteF k
    | dict ds => exact iteF k
theorem scIsWord : FnScope ["thing"] ["thing"] (defScope sIsWord) := ⟨rfl, rfl, rfl, by decide +kernel, rfl, by decide +kernel, by decide +kernel⟩
theorem ok_wordD {f : Addr} {fd : FuncData} (F : Df K mg "is_word" sIsWord ["thing"] f fd) (T : Bt mg) (mstr : mg "str" = none) : FnOk P w K mg base CX0 1 f fd ["thing"] (spD1 K wordD) := by
  refine F.F.ok scIsWord (fun vs H Q E h => ?_) (fun cdv A outer s H vs Q E hr h => ?_)
  · obtain ⟨v, d, rfl, _⟩ := h
    rfl
  · obtain ⟨v, d, rfl, hd, k⟩ := h
    refine ⟨_, pss_one (ps_ret (pe_and (pe_callB call_isi (by rfl) T.isinstance (by decide +kernel) (pa_cons (pv 0) (pa_cons (pe_bltn (v := .ty "str") (by rfl) mstr (by decide +kernel) rfl) pa_nil))) (pe_one (pe_cmpR op_eq (pe_cn (pv 0)) pe_str (nomark _))))), ?_⟩
    refine ⟨_, rfl, _, _, _, _, _, rfl, .ty _, hd.ty, kit_ty (kit_str d hd.noDict), _, rfl, ?_⟩
    cases d with
    | str x => exact iteT ⟨_, rfl, _, cn_str hd, rfl, k⟩
    | int i => exact iteF k
    | bool b => exact iteF k
    | none => exact iteF k
    | list ds => exact iteF k
    | tuple ds => exact iteF k
    | dict ds => exact iteF k
theorem ok_rowD {f : Addr} {fd : FuncData} (F : Df K mg "is_row" sIsRow ["thing"] f fd) (T : Bt mg) : FnOk P w K mg base CX0 1 f fd ["thing"] (spD1 K rowD) := by
  refine F.F.ok scIsRow (fun vs H Q E h => ?_) (fun cdv A outer s H vs Q E hr h => ?_)
  · obtain ⟨v, d, rfl, _⟩ := h
    rfl
  · obtain ⟨v, d, rfl, hd, k⟩ := h
    refine ⟨_, pss_one (ps_ret (pe_and (pe_callB call_isi (by rfl) T.isinstance (by decide +kernel) (pa_cons (pv 0) (pa_cons (pe_bltn (v := .ty "tuple") (by rfl) T.tuple (by decide +kernel) rfl) pa_nil))) (pe_one (pe_cmpR op_eq (pe_cn (pv 0)) pe_str (nomark _))))), ?_⟩
    refine ⟨_, rfl, _, _, _, _, _, rfl, .ty _, hd.ty, kit_ty (kit_tuple d hd.noDict), _, rfl, ?_⟩
    cases d with
    | tuple ds => exact iteT ⟨_, rfl, _, cn_tup hd, rfl, k⟩
    | str x => exact iteF k
    | int i => exact iteF k
    | bool b => exact iteF k
    | none => exact iteF k
    | list ds => exact iteF k
    | dict ds => exact iteF k
theorem ok_row_ofD {f f1 : Addr} {fd fd1 : FuncData} (F : Df K mg "is_row_of" sIsRowOf ["thing", "many"] f fd) (F1 : Df K mg "is_row" sIsRow ["thing"] f1 fd1) (G1 : FnOk P w K mg base CX0 1 f1 fd1 ["thing"] (spD1 K rowD)) (T : Bt mg) : FnOk P w K mg base CX0 2 f fd ["thing", "many"] (spRowOfD K) := by
  refine F.F.ok scIsRowOf (fun vs H Q E h => ?_) (fun cdv A outer s H vs Q E hr h => ?_)
  · obtain ⟨v, d, n, rfl, _⟩ := h
    rfl
  · obtain ⟨v, d, n, rfl, hd, k⟩ := h
    refine ⟨_, pss_one (ps_ret (pe_and (pe_call G1 hr (by rfl) F1.g F1.F.kp F1.b .nil pass0 (pa_cons (pv 0) pa_nil)) (pe_one (pe_cmpR op_eq (pe_callB call_len_seq (by rfl) T.len PySem.boot_len (pa_cons (pv 0) pa_nil)) (pv 1) (nomark _))))), ?_⟩
    refine ⟨_, rfl, v, d, rfl, hd, _, rfl, ?_⟩
    cases d with
    | tuple ds =>
      obtain ⟨a, xs, rfl, hs, ha⟩ := hd.tup_inv
      refine iteT ⟨_, rfl, a, xs, rfl, .inr hs, _, rfl, rfl, ?_⟩
      have e : decide (V.int (xs.length : Int) = V.int n) = decide ((ds.length : Int) = n) := by
        rw [decide_eq_decide, ha.len]
        exact ⟨V.int.inj, fun h => congrArg V.int h⟩
      rw [e]
      exact k
    | str x => exact iteF k
    | int i => exact iteF k
    | bool b => exact iteF k
    | none => exact iteF k
    | list ds => exact iteF k
    | dict ds => exact iteF k
theorem scHasSort : FnScope ["paper", "sorts"] ["paper", "sorts"] (defScope sHasSort) := ⟨rfl, rfl, rfl, by decide +kernel, rfl, by decide +kernel, by decide +kernel⟩
theorem ok_has_sort {f f1 f2 : Addr} {fd fd1 fd2 : FuncData} (F : Df K mg "has_sort" sHasSort ["paper", "sorts"] f fd) (D1 : Df K mg "is_row" sIsRow ["thing"] f1 fd1) (G1 : FnOk P w K mg base CX0 1 f1 fd1 ["thing"] (spD1 K rowD)) (D2 : Df K mg "is_word" sIsWord ["thing"] f2 fd2) (G2 : FnOk P w K mg base CX0 1 f2 fd2 ["thing"] (spD1 K wordD)) (T : Bt mg) : FnOk P w K mg base CX0 2 f fd ["paper", "sorts"] (spSortD K) := by
  refine F.F.ok scHasSort (fun vs H Q E h => ?_) (fun cdv A outer s H vs Q E hr h => ?_)
  · obtain ⟨v, d, u, so, rfl, _⟩ := h
    rfl
  · obtain ⟨v, d, u, so, rfl, hd, hu, sd, sh, k⟩ := h
    refine ⟨_, pss_cons (ps_if (PW.pt (pw_or (pt_not (pt_val (pe_call G1 hr (by rfl) D1.g D1.F.kp D1.b .nil pass0 (pa_cons (pv 0) pa_nil)))) (pw_or (pt_cmpR op_eq (pe_callB call_len_seq (by rfl) T.len PySem.boot_len (pa_cons (pv 0) pa_nil)) pe_int (nomark _)) (pw_or1 (pt_not (pt_val (pe_call G2 hr (by rfl) D2.g D2.F.kp D2.b .nil pass0 (pa_cons (pe_ix ix_tup (pv 0) pe_int (fun _ _ => rfl)) pa_nil)))))))) (pss_one (ps_ret pe_bl)) pss_nil)
      (pss_one (ps_ret (pe_cmpR (op_memT hr.units) (pe_tup (pa_cons (pe_ix ix_tup (pv 0) pe_int (fun _ _ => rfl)) (pa_cons (pe_callB call_len_seq (by rfl) T.len PySem.boot_len (pa_cons (pv 0) pa_nil)) pa_nil))) (pv 1) (by rfl)))), ?_⟩
    have k0 := k H (Same.refl H)
    refine ⟨_, rfl, v, d, rfl, hd, _, rfl, ?_⟩
    cases d with
    | tuple ds =>
      obtain ⟨a, xs, rfl, hs, ha⟩ := hd.tup_inv
      refine iteF ⟨_, rfl, a, xs, rfl, .inr hs, rfl, _, rfl, ?_⟩
      cases ds with
      | nil =>
        cases ha
        exact iteT k0
      | cons d0 ds =>
        obtain ⟨v0, hv0, hd0⟩ := ha.at (i := 0) rfl
        have hl := ha.len
        rw [decide_eq_false (show ¬ V.int (xs.length : Int) = V.int 0 from fun z => by
          have := V.int.inj z
          rw [hl] at this
          simp at this
          omega)]
        refine iteF ⟨_, rfl, a, xs, 0, v0, rfl, rfl, hs, atI_nat (j := 0) hv0, v0, d0, rfl, hd0, _, rfl, ?_⟩
        cases d0 with
        | str x =>
          refine iteF ⟨_, rfl, a, xs, 0, v0, rfl, rfl, hs, atI_nat (j := 0) hv0, _, rfl, a, xs, rfl, .inr hs, (by show 2 ≤ sizeLine; decide), fun t nt => ?_⟩
          have s1 := Same.new (o := .tup [v0, V.int (xs.length : Int)]) nt
          refine ⟨_, rfl, _, _, Dp.new_tup (ds := [.str x, .int (xs.length : Int)]) nt (.cons hd0 (.cons (.int _) .nil)), hu.same s1, shaped_head sd, sh, ?_⟩
          have := k _ s1
          rw [hl] at this ⊢
          exact this
        | int i => exact iteT k0
        | bool b => exact iteT k0
        | none => exact iteT k0
        | list ds => exact iteT k0
        | tuple ds => exact iteT k0
        | dict ds => exact iteT k0
    | str x => exact iteT k0
    | int i => exact iteT k0
    | bool b => exact iteT k0
    | none => exact iteT k0
    | list ds => exact iteT k0
    | dict ds => exact iteT k0
end
end CS
set_option Elab.async false
set_option maxRecDepth 100000
set_option maxHeartbeats 8000000
set_option linter.unusedVariables false
namespace L2
open PySem CS
theorem DpAll.of_bools {K : PySem.W.Frag} {H : Hp} : ∀ {bs : List Bool} {vs : List V}, DpAll K H vs (bs.map PyData.bool) → vs = bs.map V.bl
  | [], _, .nil => rfl
  | _ :: _, _, .cons (.bl _) b => by rw [DpAll.of_bools b]; rfl
theorem flatDs_app : ∀ {ds es : List PyData}, flatDs ds = true → flatDs es = true → flatDs (ds ++ es) = true
  | [], _, _, h => h
  | d :: ds, es, g, h => by
    have g2 : (flatD d && flatDs ds) = true := by simpa [flatDs] using g
    rw [Bool.and_eq_true] at g2
    show (flatD d && flatDs (ds ++ es)) = true
    rw [g2.1, flatDs_app g2.2 h]
    rfl
theorem flatDs_ints : ∀ ns : List Int, flatDs (ns.map PyData.int) = true
  | [] => rfl
  | n :: ns => by
    show (flatD (.int n) && flatDs (ns.map PyData.int)) = true
    rw [flatDs_ints ns]
    rfl
end L2
namespace CS
open PySem L2
theorem iteTe {b : Bool} {A B : Prop} {i : Decidable (b = true)} (e : b = true) (h : A) : @ite Prop (b = true) i A B := by
  rw [if_pos e]
  exact h
theorem iteFe {b : Bool} {A B : Prop} {i : Decidable (b = true)} (e : b = false) (h : B) : @ite Prop (b = true) i A B := by
  subst e
  rw [if_neg Bool.false_ne_true]
  exact h
/-- a list of data that a comprehension makes at D; H1 stood ahead -/
def LcD (K : PySem.W.Frag) (H1 : Hp) (D : Addr) (es : List PyData) (H : Hp) : Prop := ∃ ws, H D = some (.lst ws) ∧ Same H1 H ∧ DpAll K H ws es
section
variable {K : PySem.W.Frag} {H1 H H4 : Hp} {D : Addr}
theorem LcD.start (n : H1 D = none) : LcD K H1 D [] (upd H1 D (.lst [])) := ⟨[], upd_same, Same.new n, .nil⟩
theorem LcD.same {es : List PyData} (h : LcD K H1 D es H) : Same H1 H := by
  obtain ⟨ws, _, s, _⟩ := h
  exact s
theorem LcD.step {es : List PyData} {e : PyData} {y : V} (n : H1 D = none) (h : LcD K H1 D es H) (s : Same H H4) (hy : Dp K H4 y e) (f : flatDs es = true) (g : flatD e = true) (sz : es.length ≤ 1000) :
    ∃ acc, H4 D = some (.lst acc) ∧ acc.length < sizeLine ∧ LcD K H1 D (es ++ [e]) (upd H4 D (.lst (acc ++ [y]))) := by
  obtain ⟨ws, h1, s1, hd⟩ := h
  have h2 := s _ _ h1
  refine ⟨ws, h2, small1000 (by rw [hd.len]; exact sz), ws ++ [y], upd_same, same_upd n (s1.trans s), ?_⟩
  exact DpAll.tk (tk_lst h2) (flatDs_app f (by show (flatD e && flatDs []) = true; rw [g]; rfl)) ((hd.same s).app (.cons hy .nil))
theorem LcD.ints {ns : List Int} (h : LcD K H1 D (ns.map PyData.int) H) : H D = some (.lst (ns.map V.int)) := by
  obtain ⟨ws, h1, _, hd⟩ := h
  rw [hd.of_ints] at h1
  exact h1
theorem LcD.bools {bs : List Bool} (h : LcD K H1 D (bs.map PyData.bool) H) : H D = some (.lst (bs.map V.bl)) := by
  obtain ⟨ws, h1, _, hd⟩ := h
  rw [hd.of_bools] at h1
  exact h1
end
/-- t[lo:hi] of a tuple, whatever its items -/
def rCutV (K : PySem.W.Frag) : V → Option Int → Option Int → Hp → VK → Prop := fun x lo hi H Q => ∃ a xs, x = .ref a ∧ SqT K H a xs ∧ ∀ H' b, Same H H' → SqT K H' b (cutD xs lo hi) → Q (.ref b) H'
theorem sl_any {X : Cx} : L2.SlR X (rCutV X.K) := by
  intro pins s σ H x v vl vu lo hi sl Q I rx hs pl pu ⟨a, xs, ex, hx, q⟩
  subst ex
  refine sl_tupA pins s σ H _ v vl vu lo hi sl Q I rx hs pl pu ⟨a, xs, rfl, hx, fun w => ?_, fun _ p np => ?_⟩
  · refine q H _ (Same.refl H) ?_
    have e : cutD xs lo hi = xs := by
      unfold cutD
      rw [w.1, w.2, List.drop_zero, Nat.sub_zero, List.take_length]
    rw [e]
    exact hx
  · exact q _ _ (Same.new np) (SqT.of upd_same)
theorem cutD_nat {α : Type} {xs : List α} {i j : Nat} (h : j ≤ xs.length) (hij : i ≤ j) : cutD xs (some (i : Int)) (some (j : Int)) = (xs.drop i).take (j - i) := by
  unfold cutD
  rw [HT.sIx_nat, HT.sIx_nat, Nat.min_eq_left h, Nat.min_eq_left (Nat.le_trans hij h)]
/-! the mathematics of bends -/
def riseL (a b : List Int) : List Int := List.zipWith (fun lo hi => hi - lo) a b
def at0 (ns : List Int) (j : Nat) : Int := ns.getD j 0
def bowL (ms rs : List Int) (j : Nat) : Int := (at0 rs (j + 2) - at0 rs (j + 1)) * (at0 ms (j + 1) - at0 ms j) - (at0 rs (j + 1) - at0 rs j) * (at0 ms (j + 2) - at0 ms (j + 1))
def bendRow (ms rs : List Int) (way : Int) (i : Nat) : List (Nat × Nat) := ((List.range (ms.length - 2)).filter fun j => decide (0 < bowL ms rs j * way)).map fun j => (i, j)
def bendsL (ms : List Int) (rows : List (List Int)) (way : Int) : Nat → List (Nat × Nat)
  | 0 => []
  | n + 1 => bendsL ms rows way n ++ bendRow ms (riseL (rows.getD n []) (rows.getD (n + 1) [])) way n
def bendsT (ms : List Int) (rows : List (List Int)) (way : Int) : List (Nat × Nat) := bendsL ms rows way (rows.length - 1)
def plD (a : Nat × Nat) : PyData := .tuple [.int (a.1 : Int), .int (a.2 : Int)]
def costD (rows : List (List Int)) : PyData := .tuple (rows.map fun r => .tuple (r.map PyData.int))
/-- costs of n rows, m places each, not too great -/
structure CostOk (rows : List (List Int)) (n m : Nat) : Prop where
  len : rows.length = n
  wide : ∀ r ∈ rows, r.length = m
  small : ∀ r ∈ rows, ∀ c ∈ r, c.natAbs ≤ 1000
theorem riseL_len {a b : List Int} {m : Nat} (ha : a.length = m) (hb : b.length = m) : (riseL a b).length = m := by
  unfold riseL
  rw [List.length_zipWith, ha, hb, Nat.min_self]
theorem riseL_small {a b : List Int} (ha : ∀ c ∈ a, c.natAbs ≤ 1000) (hb : ∀ c ∈ b, c.natAbs ≤ 1000) : ∀ c ∈ riseL a b, c.natAbs ≤ 2000 := by
  intro c hc
  unfold riseL at hc
  rw [List.mem_iff_getElem?] at hc
  obtain ⟨i, hi⟩ := hc
  rw [List.getElem?_zipWith] at hi
  cases e1 : a[i]? with
  | none => rw [e1] at hi; cases hi
  | some x =>
    cases e2 : b[i]? with
    | none => rw [e1, e2] at hi; cases hi
    | some y =>
      rw [e1, e2] at hi
      cases hi
      have h1 := ha x (List.mem_of_getElem? e1)
      have h2 := hb y (List.mem_of_getElem? e2)
      omega
theorem at0_get {ns : List Int} {j : Nat} (h : j < ns.length) : ns[j]? = some (at0 ns j) := by
  unfold at0
  rw [List.getD_eq_getElem?_getD, List.getElem?_eq_getElem h]
  rfl
theorem at0_mem {ns : List Int} {j : Nat} (h : j < ns.length) : at0 ns j ∈ ns := List.mem_of_getElem? (at0_get h)
theorem bendRow_len (ms rs : List Int) (way : Int) (i : Nat) : (bendRow ms rs way i).length ≤ ms.length := by
  unfold bendRow
  rw [List.length_map]
  refine Nat.le_trans (List.length_filter_le _ _) ?_
  rw [List.length_range]
  omega
theorem bendsL_len (ms : List Int) (rows : List (List Int)) (way : Int) : ∀ n, (bendsL ms rows way n).length ≤ n * ms.length
  | 0 => by show 0 ≤ _; exact Nat.zero_le _
  | n + 1 => by
    have := bendsL_len ms rows way n
    have h2 := bendRow_len ms (riseL (rows.getD n []) (rows.getD (n + 1) [])) way n
    show (bendsL ms rows way n ++ _).length ≤ _
    rw [List.length_append, Nat.add_mul, Nat.one_mul]
    omega
theorem flat_pls : ∀ ps : List (Nat × Nat), flatDs (ps.map plD) = true
  | [] => rfl
  | p :: ps => by
    show (flatD (plD p) && flatDs (ps.map plD)) = true
    rw [flat_pls ps]
    rfl
section
variable {P : Program} {w : World} {K : PySem.W.Frag} {mg : Str → Option Value} {base : Heap}
def spCostRow (K : PySem.W.Frag) : Sp := fun vs H Q _ => ∃ (v : V) (row : List Int), vs = [v, .int ((row.length : Nat) : Int)] ∧ Dp K H v (.tuple (row.map PyData.int)) ∧ (∀ c ∈ row, c.natAbs ≤ 1000) ∧ row.length ≤ 900 ∧ ∀ H', Same H H' → Q (.bl true) H'
theorem scIsCostRow : FnScope ["thing", "many", "item"] ["thing", "many"] (defScope sIsCostRow) := ⟨rfl, rfl, rfl, by decide +kernel, rfl, by decide +kernel, by decide +kernel⟩
theorem ok_is_cost_row {f f1 f2 : Addr} {fd fd1 fd2 : FuncData} (F : Df K mg "is_cost_row" sIsCostRow ["thing", "many"] f fd) (D1 : Df K mg "is_row_of" sIsRowOf ["thing", "many"] f1 fd1) (G1 : FnOk P w K mg base CX0 2 f1 fd1 ["thing", "many"] (spRowOfD K)) (D2 : Df K mg "is_whole_within" sIsWholeWithin ["thing", "least", "most"] f2 fd2) (G2 : FnOk P w K mg base CX0 2 f2 fd2 ["thing", "least", "most"] spWW) (T : Bt mg) : FnOk P w K mg base CX0 3 f fd ["thing", "many"] (spCostRow K) := by
  refine F.F.ok scIsCostRow (fun vs H Q E h => ?_) (fun cdv A outer s H vs Q E hr h => ?_)
  · obtain ⟨v, row, rfl, _⟩ := h
    rfl
  · obtain ⟨v, row, rfl, hd, sm, l9, k⟩ := h
    refine ⟨_, pss_one (ps_ret (pe_and (pe_call G1 hr (by rfl) D1.g D1.F.kp D1.b .nil pass0 (pa_cons (pv 0) (pa_cons (pv 1) pa_nil))) (pe_one (pe_callB (cr_all rfl) (by rfl) T.all (by decide +kernel) (pa_cons (pe_lc (own := [("item", 2)]) (g := gName 2) (tt := tYes) rfl scIsCostRow.nd (pi_tup (pv 0)) (blkOk_by (N := ["thing", "many", "item"]) (sc := defScope sIsCostRow) (by decide +kernel)) (fun _ _ _ _ _ => pg_name (i := 2) scIsCostRow.nd rfl (Or.inl rfl)) (fun _ _ _ _ _ => pts_nil) (fun _ _ _ _ _ => pe_call G2 hr (by rfl) D2.g D2.F.kp D2.b .nil pass0 (pa_cons (pv 2) (pa_cons (pe_un un_neg pe_int) (pa_cons pe_int pa_nil))))) pa_nil))))), ?_⟩
    refine ⟨_, rfl, _, rfl, v, _, _, rfl, hd, _, rfl, ?_⟩
    refine iteTe (decide_eq_true (by rw [List.length_map])) ?_
    obtain ⟨a, xs, rfl, hs, ha⟩ := hd.tup_inv
    have ex := ha.of_ints
    subst ex
    refine ⟨_, rfl, a, rfl, ⟨_, hs⟩, fun D nD => lc_tup (K := K) (a := a) (xs := row.map V.int) (fun i H' => LcD K H D (((row.take i).map fun _ => true).map PyData.bool) H') (LcD.start nD) (fun i H' _ h => h.same.tup hs) ?_ ?_⟩
    · rintro i x H' hi h
      rw [List.getElem?_map] at hi
      cases e : row[i]? with
      | none => rw [e] at hi; cases hi
      | some c =>
        rw [e] at hi
        cases hi
        have hc := sm c (List.mem_of_getElem? e)
        have hi2 : i < row.length := (List.getElem?_eq_some_iff.mp e).1
        refine ⟨rfl, ?_⟩
        dsimp only [tYes]
        rw [if_pos rfl]
        refine ⟨_, rfl, _, rfl, c, _, _, rfl, ?_⟩
        rw [decide_eq_true (show -1000 ≤ c ∧ c ≤ 1000 by omega)]
        rw [take_snoc e, List.map_append, List.map_append]
        exact LcD.step nD h (Same.refl H') (.bl true) (by rw [List.map_map]; exact List.recOn (row.take i) rfl fun _ _ z => z) rfl (by rw [List.length_map, List.length_map, List.length_take]; omega)
    · intro H' h
      rw [List.length_map, List.take_length] at h
      refine ⟨D, _, rfl, SqL.of h.bools, ?_⟩
      rw [show ((row.map fun _ => true).all id) = true by simp]
      exact k _ h.same
def spNeedCosts (K : PySem.W.Frag) : Sp := fun vs H Q _ => ∃ (p q : Addr) (v : V) (xs ys : List (Int × Fx)) (rows : List (List Int)), vs = [.ref p, .ref q, v] ∧ ShAt K H p xs ∧ ShAt K H q ys ∧ Shr xs ∧ Shr ys ∧ Dp K H v (costD rows) ∧ CostOk rows xs.length ys.length ∧ ∀ H', Same H H' → Q v H'
theorem scNeedCosts : FnScope ["one", "other", "thing", "row"] ["one", "other", "thing"] (defScope sNeedCosts) := ⟨rfl, rfl, rfl, by decide +kernel, rfl, by decide +kernel, by decide +kernel⟩
theorem ok_need_costs {f f1 f2 f3 : Addr} {fd fd1 fd2 fd3 : FuncData} (F : Df K mg "need_costs" sNeedCosts ["one", "other", "thing"] f fd) (D1 : Df K mg "need_share" sNeedShare ["thing"] f1 fd1) (G1 : FnOk P w K mg base CX0 7 f1 fd1 ["thing"] (spNeedSh K)) (D2 : Df K mg "is_row_of" sIsRowOf ["thing", "many"] f2 fd2) (G2 : FnOk P w K mg base CX0 2 f2 fd2 ["thing", "many"] (spRowOfD K))
    (D3 : Df K mg "is_cost_row" sIsCostRow ["thing", "many"] f3 fd3) (G3 : FnOk P w K mg base CX0 3 f3 fd3 ["thing", "many"] (spCostRow K)) (T : Bt mg) : FnOk P w K mg base CX0 8 f fd ["one", "other", "thing"] (spNeedCosts K) := by
  refine F.F.ok scNeedCosts (fun vs H Q E h => ?_) (fun cdv A outer s H vs Q E hr h => ?_)
  · obtain ⟨p, q, v, xs, ys, rows, rfl, _⟩ := h
    rfl
  · obtain ⟨p, q, v, xs, ys, rows, rfl, hx, hy, sx, sy, hd, ok, k⟩ := h
    refine ⟨_, pss_cons (ps_expr (pe_call G1 hr (by rfl) D1.g D1.F.kp D1.b .nil pass0 (pa_cons (pv 0) pa_nil))) (pss_cons (ps_expr (pe_call G1 hr (by rfl) D1.g D1.F.kp D1.b .nil pass0 (pa_cons (pv 1) pa_nil)))
      (pss_cons (ps_if (PW.pt (pw_or (pt_not (pt_val (pe_call G2 (hr.mono (by decide)) (by rfl) D2.g D2.F.kp D2.b .nil pass0 (pa_cons (pv 2) (pa_cons (pe_callB call_len_seq (by rfl) T.len PySem.boot_len (pa_cons (pv 0) pa_nil)) pa_nil))))) (pw_or1 (pt_not (pt_val (pe_callB (cr_all rfl) (by rfl) T.all (by decide +kernel) (pa_cons (pe_lc (own := [("row", 3)]) (g := gName 3) (tt := tYes) rfl scNeedCosts.nd (pi_tup (pv 2)) (blkOk_by (N := ["one", "other", "thing", "row"]) (sc := defScope sNeedCosts) (by decide +kernel)) (fun _ _ _ _ _ => pg_name (i := 3) scNeedCosts.nd rfl (Or.inl rfl)) (fun _ _ _ _ _ => pts_nil) (fun _ _ _ _ _ => pe_call G3 (hr.mono (by decide)) (by rfl) D3.g D3.F.kp D3.b .nil pass0 (pa_cons (pv 3) (pa_cons (pe_callB (r := Evl.rLenS K) call_len_seq (by rfl) T.len PySem.boot_len (pa_cons (pv 1) pa_nil)) pa_nil)))) pa_nil))))))) (pss_one ps_never) pss_nil)
      (pss_one (ps_ret (pv 2))))), ?_⟩
    refine ⟨_, rfl, p, xs, rfl, hx, sx, fun H1 s1 => ⟨_, rfl, q, ys, rfl, hy.tk (tk_same s1), sy, fun H2 s2 => ?_⟩⟩
    have s12 := s1.trans s2
    obtain ⟨vx, hvx, hpx⟩ := hx.tk (tk_same s12)
    obtain ⟨vy, hvy, hpy⟩ := hy.tk (tk_same s12)
    have hd2 := hd.same s12
    refine ⟨_, rfl, _, rfl, p, vx, rfl, .inr hvx, v, _, _, rfl, hd2, _, rfl, ?_⟩
    rw [show rowOfD (costD rows) (vx.length : Int) = true from decide_eq_true (by rw [List.length_map, hpx.len, ok.len])]
    refine iteF ?_
    unfold costD at hd2
    obtain ⟨a, us, rfl, hs, ha⟩ := hd2.tup_inv
    refine ⟨_, rfl, a, rfl, ⟨_, hs⟩, fun D nD => lc_tup (K := K) (a := a) (xs := us) (fun i H' => LcD K H2 D (((rows.take i).map fun _ => true).map PyData.bool) H') (LcD.start nD) (fun i H' _ h => h.same.tup hs) ?_ ?_⟩
    · rintro i x H' hi h
      obtain ⟨d, e, hdx⟩ := ha.get hi
      rw [List.getElem?_map] at e
      cases er : rows[i]? with
      | none => rw [er] at e; cases e
      | some r =>
        rw [er] at e
        cases e
        have hm := List.mem_of_getElem? er
        have hi2 : i < rows.length := (List.getElem?_eq_some_iff.mp er).1
        have hw := ok.wide r hm
        have l8 := sy.1
        have l9 := sx.1
        have l10 := ok.len
        refine ⟨rfl, ?_⟩
        dsimp only [tYes]
        rw [if_pos rfl]
        refine ⟨_, rfl, _, rfl, q, vy, rfl, .inr (h.same.tup hvy), x, r, by rw [hpy.len, hw]; rfl, hdx.same h.same, ok.small r hm, by omega, fun H3 s3 => ?_⟩
        rw [take_snoc er, List.map_append, List.map_append]
        exact LcD.step nD h s3 (.bl true) (by rw [List.map_map]; exact List.recOn (rows.take i) rfl fun _ _ z => z) rfl (by rw [List.length_map, List.length_map, List.length_take]; omega)
    · intro H' h
      rw [ha.len, List.length_map, List.take_length] at h
      refine ⟨D, _, rfl, SqL.of h.bools, _, rfl, ?_⟩
      rw [show ((rows.map fun _ => true).all id) = true by simp]
      exact iteF ⟨_, rfl, k _ (s12.trans h.same)⟩
end
end CS
set_option Elab.async false
set_option maxRecDepth 100000
set_option maxHeartbeats 8000000
set_option linter.unusedVariables false
namespace CS
open PySem L2
section
variable {K : PySem.W.Frag} {H : Hp}
theorem PrsAt.dropC : ∀ {vs : List V} {xs : List (Int × Fx)} (n : Nat), PrsAt K H vs xs → PrsAt K H (vs.drop n) (xs.drop n)
  | _, _, 0, h => h
  | _, _, _ + 1, .nil => .nil
  | _, _, n + 1, .cons _ _ c => PrsAt.dropC n c
theorem PrsAt.takeC : ∀ {vs : List V} {xs : List (Int × Fx)} (n : Nat), PrsAt K H vs xs → PrsAt K H (vs.take n) (xs.take n)
  | _, _, 0, _ => .nil
  | _, _, _ + 1, .nil => .nil
  | _, _, n + 1, .cons a b c => .cons a b (PrsAt.takeC n c)
end
theorem three {α : Type} {xs : List α} {j : Nat} (h : j + 3 ≤ xs.length) : ∃ a b c, (xs.drop j).take 3 = [a, b, c] ∧ xs[j]? = some a ∧ xs[j + 1]? = some b ∧ xs[j + 2]? = some c := by
  refine ⟨xs[j], xs[j + 1], xs[j + 2], ?_, by simp, by simp, by simp⟩
  rw [List.drop_eq_getElem_cons (by omega), List.drop_eq_getElem_cons (by omega), List.drop_eq_getElem_cons (by omega)]
  rfl
section
variable {P : Program} {w : World} {K : PySem.W.Frag} {mg : Str → Option Value} {base : Heap}
def spBow (K : PySem.W.Frag) : Sp := fun vs H Q _ => ∃ (p q : Addr) (xs : List (Int × Fx)) (rs : List Int) (j : Nat), vs = [.ref p, .ref q, .int (j : Int)] ∧ ShAt K H p xs ∧ SqL K H q (rs.map V.int) ∧ j + 3 ≤ xs.length ∧ j + 3 ≤ rs.length ∧ (∀ a ∈ xs, a.1.natAbs ≤ 200) ∧ (∀ c ∈ rs, c.natAbs ≤ 2000) ∧
  ∀ H', Same H H' → Q (.int (bowL (xs.map (·.1)) rs j)) H'
theorem scBow : FnScope ["other", "rises", "column", "first", "second", "third", "number", "_", "ahead", "behind"] ["other", "rises", "column"] (defScope sBow) := ⟨rfl, rfl, rfl, by decide +kernel, rfl, by decide +kernel, by decide +kernel⟩
theorem ok_bow {f : Addr} {fd : FuncData} (F : Df K mg "bow" sBow ["other", "rises", "column"] f fd) (T : Bt mg) : FnOk P w K mg base CX0 1 f fd ["other", "rises", "column"] (spBow K) := by
  refine F.F.ok scBow (fun vs H Q E h => ?_) (fun cdv A outer s H vs Q E hr h => ?_)
  · obtain ⟨p, q, xs, rs, j, rfl, _⟩ := h
    rfl
  · obtain ⟨p, q, xs, rs, j, rfl, ⟨vx, hv, hP⟩, hq, l1, l2, sx, sr, k⟩ := h
    refine ⟨_, pss_cons (ps_asg (pe_lc (own := [("number", 6), ("_", 7)]) (g := gTup K 2 (gCons (gName 6) (gCons (gName 7) gNil))) (tt := tYes) rfl scBow.nd (pi_tup (pe_slice sl_any (pv 0) (po_some (pv 2)) (po_some (pe_op op_add (pv 2) pe_int)))) (blkOk_by (N := ["other", "rises", "column", "first", "second", "third", "number", "_", "ahead", "behind"]) (sc := defScope sBow) (by decide +kernel)) (fun _ _ _ _ _ => pg_tup rfl (pgs_cons (pg_name (i := 6) scBow.nd rfl (Or.inl rfl)) (pgs_cons (pg_name (i := 7) scBow.nd rfl (Or.inl rfl)) pgs_nil))) (fun _ _ _ _ _ => pts_nil) (fun _ _ _ _ _ => pv 6))
        (pg_lst rfl (pgs_cons (pg_name (i := 3) scBow.nd rfl (Or.inl rfl)) (pgs_cons (pg_name (i := 4) scBow.nd rfl (Or.inl rfl)) (pgs_cons (pg_name (i := 5) scBow.nd rfl (Or.inl rfl)) pgs_nil)))))
      (pss_cons (ps_set (i := 8) scBow.nd rfl (Or.inl rfl) (pe_op op_mul (pe_op op_sub (pe_ix ix_list (pv 1) (pe_op op_add (pv 2) pe_int) (fun _ _ => rfl)) (pe_ix ix_list (pv 1) (pv 2) (fun _ _ => rfl))) (pe_op op_sub (pv 5) (pv 4))))
      (pss_cons (ps_set (i := 9) scBow.nd rfl (Or.inl rfl) (pe_op op_mul (pe_op op_sub (pe_ix ix_list (pv 1) (pe_op op_add (pv 2) pe_int) (fun _ _ => rfl)) (pe_ix ix_list (pv 1) (pe_op op_add (pv 2) pe_int) (fun _ _ => rfl))) (pe_op op_sub (pv 4) (pv 3))))
      (pss_one (ps_ret (pe_op op_sub (pv 9) (pv 8)))))), ?_⟩
    have lv := hP.len
    obtain ⟨a0, a1, a2, e3, ea, eb, ec⟩ := three l1
    refine ⟨_, rfl, _, rfl, _, rfl, _, rfl, _, _, rfl, rfl, _, rfl, p, vx, rfl, hv, fun H1 b s1 hb => ?_⟩
    rw [show ((j : Int) + 3) = ((j + 3 : Nat) : Int) from rfl, cutD_nat (by rw [lv]; exact l1) (Nat.le_add_right j 3)] at hb
    have hP2 := ((hP.dropC j).takeC 3).tk (tk_same s1)
    rw [show j + 3 - j = 3 from by omega] at hb
    rw [e3] at hP2
    obtain ⟨us, eu⟩ : ∃ us, us = (vx.drop j).take 3 := ⟨_, rfl⟩
    rw [← eu] at hb hP2
    refine ⟨b, rfl, ⟨_, hb⟩, fun D nD => lc_tup (K := K) (a := b) (xs := us) (fun i H' => LcD K H1 D (([a0.1, a1.1, a2.1].take i).map PyData.int) H') (LcD.start nD) (fun i H' _ h => h.same.tup hb) ?_ ?_⟩
    · rintro i x H' hi h
      obtain ⟨q0, r0, m, y, rfl, hxi, hq0, hr0⟩ := hP2.get hi
      refine ⟨q0, _, rfl, h.same.tup hq0, rfl, _, _, rfl, _, _, rfl, rfl, rfl, ?_⟩
      dsimp only [tYes]
      rw [if_pos rfl]
      have hm : [a0.1, a1.1, a2.1][i]? = some m := by
        have : ([a0, a1, a2].map (·.1))[i]? = some m := by rw [List.getElem?_map, hxi]; rfl
        exact this
      refine ⟨_, rfl, ?_⟩
      rw [take_snoc hm, List.map_append]
      exact LcD.step nD h (Same.refl H') (.int m) (flatDs_ints _) rfl (by rw [List.length_map, List.length_take]; simp; omega)
    · intro H' h
      have l3 : us.length = 3 := hP2.len
      rw [l3] at h
      have hD := h.ints
      have s2 := s1.trans h.same
      refine ⟨D, _, rfl, SqL.of hD, rfl, _, _, rfl, _, _, rfl, _, _, rfl, rfl, ?_⟩
      have hq2 := s2.seq hq
      have g0 := at0_get (show j < rs.length by omega)
      have g1 := at0_get (show j + 1 < rs.length by omega)
      have g2 := at0_get (show j + 2 < rs.length by omega)
      have m0 := at0_get (ns := xs.map (·.1)) (j := j) (by rw [List.length_map]; omega)
      have m1 := at0_get (ns := xs.map (·.1)) (j := j + 1) (by rw [List.length_map]; omega)
      have m2 := at0_get (ns := xs.map (·.1)) (j := j + 2) (by rw [List.length_map]; omega)
      rw [List.getElem?_map, ea] at m0
      rw [List.getElem?_map, eb] at m1
      rw [List.getElem?_map, ec] at m2
      have n0 : a0.1 = at0 (xs.map (·.1)) j := Option.some.inj m0
      have n1 : a1.1 = at0 (xs.map (·.1)) (j + 1) := Option.some.inj m1
      have n2 : a2.1 = at0 (xs.map (·.1)) (j + 2) := Option.some.inj m2
      have b0 := sx _ (List.mem_of_getElem? ea)
      have b1 := sx _ (List.mem_of_getElem? eb)
      have b2 := sx _ (List.mem_of_getElem? ec)
      have v0 : atI (rs.map V.int) ((j : Nat) : Int) = some (.int (at0 rs j)) := atI_nat (by rw [List.getElem?_map, g0]; rfl)
      have v1 : atI (rs.map V.int) ((j : Int) + 1) = some (.int (at0 rs (j + 1))) := atI_nat (j := j + 1) (by rw [List.getElem?_map, g1]; rfl)
      have v2 : atI (rs.map V.int) ((j : Int) + 2) = some (.int (at0 rs (j + 2))) := atI_nat (j := j + 2) (by rw [List.getElem?_map, g2]; rfl)
      refine ⟨_, rfl, _, rfl, _, _, rfl, rfl, q, _, _, _, rfl, rfl, hq2, v1, _, rfl, _, rfl, q, _, _, _, rfl, rfl, hq2, v0, _, _, rfl, rfl, _, rfl, _, rfl, _, _, rfl, rfl, _, _, rfl, rfl, .inr (by omega), ?_⟩
      refine ⟨_, rfl, _, rfl, _, _, rfl, rfl, q, _, _, _, rfl, rfl, hq2, v2, _, rfl, _, rfl, _, _, rfl, rfl, q, _, _, _, rfl, rfl, hq2, v1, _, _, rfl, rfl, _, rfl, _, rfl, _, _, rfl, rfl, _, _, rfl, rfl, .inr (by omega), ?_⟩
      refine ⟨_, rfl, _, rfl, _, _, rfl, rfl, ?_⟩
      have kk := k _ s2
      unfold bowL at kk
      rw [← n0, ← n1, ← n2] at kk
      exact kk
end
end CS
set_option Elab.async false
set_option maxRecDepth 100000
set_option maxHeartbeats 8000000
set_option linter.unusedVariables false
namespace CS
open PySem L2 RZ
/-- a walk over two tuples side by side -/
theorem walk_two {K : PySem.W.Frag} {a b : Addr} {xs ys : List V} {n : Nat} (h1 : xs.length = n) (h2 : ys.length = n) : Walk (ItzT K a b) n (fun H => SqT K H a xs ∧ SqT K H b ys) (YPair (fun i => xs[i]?) (fun i => ys[i]?)) where
  goes := fun i H hi q => ⟨xs, ys, xs[i]'(h1 ▸ hi), ys[i]'(h2 ▸ hi), q.1, q.2, List.getElem?_eq_getElem _, List.getElem?_eq_getElem _⟩
  stops := fun H q => ⟨xs, ys, q.1, q.2, .inl (Nat.le_of_eq h1)⟩
  yields := by
    rintro i H v H' _ ⟨q1, q2⟩ ⟨t, x, y, ev, nt, eH, ex, ey⟩
    exact ⟨t, x, y, ev, nt, eH, ex xs q1, ey ys q2⟩
theorem bendsL_succ (ms : List Int) (rows : List (List Int)) (way : Int) (n : Nat) : bendsL ms rows way (n + 1) = bendsL ms rows way n ++ bendRow ms (riseL (rows.getD n []) (rows.getD (n + 1) [])) way n := rfl
theorem bowL_small {ms rs : List Int} {j : Nat} (h1 : ∀ a ∈ ms, a.natAbs ≤ 200) (h2 : ∀ c ∈ rs, c.natAbs ≤ 2000) (l1 : j + 3 ≤ ms.length) (l2 : j + 3 ≤ rs.length) : (bowL ms rs j).natAbs ≤ 4000000 := by
  have a0 := h1 _ (at0_mem (ns := ms) (j := j) (by omega))
  have a1 := h1 _ (at0_mem (ns := ms) (j := j + 1) (by omega))
  have a2 := h1 _ (at0_mem (ns := ms) (j := j + 2) (by omega))
  have c0 := h2 _ (at0_mem (ns := rs) (j := j) (by omega))
  have c1 := h2 _ (at0_mem (ns := rs) (j := j + 1) (by omega))
  have c2 := h2 _ (at0_mem (ns := rs) (j := j + 2) (by omega))
  unfold bowL
  have m : ∀ x y : Int, x.natAbs ≤ 4000 → y.natAbs ≤ 400 → (x * y).natAbs ≤ 1600000 := fun x y hx hy => by
    rw [Int.natAbs_mul]
    exact Nat.mul_le_mul hx hy
  have e1 := m (at0 rs (j + 2) - at0 rs (j + 1)) (at0 ms (j + 1) - at0 ms j) (by omega) (by omega)
  have e2 := m (at0 rs (j + 1) - at0 rs j) (at0 ms (j + 2) - at0 ms (j + 1)) (by omega) (by omega)
  omega
section
variable {P : Program} {w : World} {K : PySem.W.Frag} {mg : Str → Option Value} {base : Heap}
def spBends (K : PySem.W.Frag) : Sp := fun vs H Q _ => ∃ (q : Addr) (v : V) (ys : List (Int × Fx)) (rows : List (List Int)) (way : Int), vs = [.ref q, v, .int way] ∧ ShAt K H q ys ∧ Dp K H v (costD rows) ∧ CostOk rows rows.length ys.length ∧ rows.length ≤ 8 ∧ ys.length ≤ 8 ∧ (∀ a ∈ ys, a.1.natAbs ≤ 200) ∧ way.natAbs ≤ 1 ∧
  ∀ H' r, Same H H' → Dp K H' r (.tuple ((bendsT (ys.map (·.1)) rows way).map plD)) → Q r H'
theorem scBends : FnScope ["other", "costs", "way", "found", "row", "rises", "low", "high", "column"] ["other", "costs", "way"] (defScope sBends) := ⟨rfl, rfl, rfl, by decide +kernel, rfl, by decide +kernel, by decide +kernel⟩
theorem ok_bends {f f1 : Addr} {fd fd1 : FuncData} (F : Df K mg "bends" sBends ["other", "costs", "way"] f fd) (D1 : Df K mg "bow" sBow ["other", "rises", "column"] f1 fd1) (G1 : FnOk P w K mg base CX0 1 f1 fd1 ["other", "rises", "column"] (spBow K)) (T : Bt mg) : FnOk P w K mg base CX0 2 f fd ["other", "costs", "way"] (spBends K) := by
  refine F.F.ok scBends (fun vs H Q E h => ?_) (fun cdv A outer s H vs Q E hr h => ?_)
  · obtain ⟨q, v, ys, rows, way, rfl, _⟩ := h
    rfl
  · obtain ⟨q, v, ys, rows, way, rfl, ⟨vy, hvy, hP⟩, hd, ok, l8, y8, sy, wy, k⟩ := h
    refine ⟨_, pss_cons (ps_set (i := 3) scBends.nd rfl (Or.inl rfl) (pe_lst pa_nil))
      (pss_cons (ps_for PassesOwn.never rfl (pi_range1 rfl T.range (pa_cons (pe_op op_sub (pe_callB (r := Evl.rLenS K) call_len_seq (by rfl) T.len PySem.boot_len (pa_cons (pv 1) pa_nil)) pe_int) pa_nil)) (pg_name (i := 4) scBends.nd rfl (Or.inr rfl))
        (pss_cons (ps_set (i := 5) scBends.nd rfl (Or.inr rfl) (pe_lc (own := [("low", 6), ("high", 7)]) (g := gTup K 2 (gCons (gName 6) (gCons (gName 7) gNil))) (tt := tYes) rfl scBends.nd (pi_zipA (by rfl) T.zip (pa_cons (pe_ix ix_tup (pv 1) (pv 4) (fun _ _ => rfl)) (pa_cons (pe_ix ix_tup (pv 1) (pe_op op_add (pv 4) pe_int) (fun _ _ => rfl)) pa_nil))) (blkOk_by (N := ["other", "costs", "way", "found", "row", "rises", "low", "high", "column"]) (sc := defScope sBends) (by decide +kernel)) (fun _ _ _ _ _ => pg_tup rfl (pgs_cons (pg_name (i := 6) scBends.nd rfl (Or.inl rfl)) (pgs_cons (pg_name (i := 7) scBends.nd rfl (Or.inl rfl)) pgs_nil))) (fun _ _ _ _ _ => pts_nil) (fun _ _ _ _ _ => pe_op op_sub (pv 7) (pv 6))))
        (pss_one (ps_expr (pe_bm PySem.F.plainAttrs_list PySem.F.slot_list_extend PySem.F.type_list_extend mt_extend (pv 3) (pa_cons (pe_lc (own := [("column", 8)]) (g := gName 8) (tt := _) rfl scBends.nd (pi_range1 rfl T.range (pa_cons (pe_op op_sub (pe_callB (r := Evl.rLenS K) call_len_seq (by rfl) T.len PySem.boot_len (pa_cons (pv 0) pa_nil)) pe_int) pa_nil)) (blkOk_by (N := ["other", "costs", "way", "found", "row", "rises", "low", "high", "column"]) (sc := defScope sBends) (by decide +kernel)) (fun _ _ _ _ _ => pg_name (i := 8) scBends.nd rfl (Or.inl rfl)) (fun _ _ _ _ _ => pts_one (pt_cmpR op_gt (pe_op op_mul (pe_call G1 hr (by rfl) D1.g D1.F.kp D1.b .nil pass0 (pa_cons (pv 0) (pa_cons (pv 5) (pa_cons (pv 8) pa_nil)))) (pv 2)) pe_int (nomark _))) (fun _ _ _ _ _ => pe_tup (pa_cons (pv 4) (pa_cons (pv 8) pa_nil)))) pa_nil))))))
      (pss_one (ps_ret (pe_callTy call_tuple_of (by rfl) T.tuple (by decide +kernel) (pa_cons (pv 3) pa_nil))))), ?_⟩
    obtain ⟨ms, ems⟩ : ∃ ms, ms = ys.map (·.1) := ⟨_, rfl⟩
    have lms : ms.length = ys.length := by rw [ems, List.length_map]
    have sms : ∀ a ∈ ms, a.natAbs ≤ 200 := fun a ha => by
      rw [ems] at ha
      obtain ⟨z, hz, rfl⟩ := List.mem_map.mp ha
      exact sy z hz
    have lv := hP.len
    unfold costD at hd
    obtain ⟨a, us, rfl, hs, ha⟩ := hd.tup_inv
    have lus : us.length = rows.length := by rw [ha.len, List.length_map]
    refine ⟨(by show 0 ≤ sizeLine; decide), fun F0 nF => ?_⟩
    have s0 := Same.new (o := .lst []) nF
    refine ⟨_, rfl, a, us, rfl, .inr (s0.tup hs), _, _, rfl, rfl, _, rfl, by omega, by omega, ?_⟩
    refine for_range (lo := 0) (n := ((us.length : Int) - 1).toNat) (fun i σ H' => ∃ v4 v5 ws, σ = [some (.ref q), some (.ref a), some (.int way), some (.ref F0), v4, v5, none, none, none] ∧ H' F0 = some (.lst ws) ∧ Same H H' ∧ DpAll K H' ws ((bendsL ms rows way i).map plD)) ⟨none, none, [], rfl, upd_same, s0, .nil⟩ ?_ ?_
    · rintro i σ H1 hi ⟨v4, v5, ws, rfl, hF, s1, hw⟩
      have hi2 : i + 1 < rows.length := by omega
      obtain ⟨R0, r0⟩ : ∃ R, rows[i]? = some R := ⟨_, List.getElem?_eq_getElem (show i < rows.length by omega)⟩
      obtain ⟨R1, r1⟩ : ∃ R, rows[i + 1]? = some R := ⟨_, List.getElem?_eq_getElem hi2⟩
      have m0 : R0 ∈ rows := List.mem_of_getElem? r0
      have m1 : R1 ∈ rows := List.mem_of_getElem? r1
      obtain ⟨u0, hu0, hd0⟩ := ha.at (i := i) (by rw [List.getElem?_map, r0]; rfl)
      obtain ⟨u1, hu1, hd1⟩ := ha.at (i := i + 1) (by rw [List.getElem?_map, r1]; rfl)
      obtain ⟨a0, x0, rfl, hs0, ha0⟩ := hd0.tup_inv
      obtain ⟨a1, x1, rfl, hs1, ha1⟩ := hd1.tup_inv
      have e0 := ha0.of_ints
      have e1 := ha1.of_ints
      subst e0 e1
      have w0 := ok.wide _ m0
      have w1 := ok.wide _ m1
      obtain ⟨rs, ers⟩ : ∃ rs, rs = riseL R0 R1 := ⟨_, rfl⟩
      have lrs : rs.length = ys.length := by rw [ers]; exact riseL_len w0 w1
      have srs : ∀ c ∈ rs, c.natAbs ≤ 2000 := by rw [ers]; exact riseL_small (ok.small _ m0) (ok.small _ m1)
      refine ⟨_, rfl, _, rfl, a, us, _, .ref a0, rfl, rfl, s1.tup hs, (by rw [Int.zero_add]; exact atI_nat hu0), _, rfl, _, rfl, _, _, rfl, rfl, a, us, _, .ref a1, rfl, rfl, s1.tup hs, (by rw [Int.zero_add]; exact atI_nat (j := i + 1) hu1), a0, a1, _, _, rfl, .inr ⟨s1.tup hs0, s1.tup hs1, fun D nD => lc_it (walk_two (n := ys.length) (by rw [List.length_map, w0]) (by rw [List.length_map, w1])) (fun j H' => LcD K H1 D ((rs.take j).map PyData.int) H') (LcD.start nD) (fun j H' _ h => ⟨h.same.tup (s1.tup hs0), h.same.tup (s1.tup hs1)⟩) ?_ ?_⟩⟩
      · rintro j x H2 H3 hj h ⟨t, x, y, rfl, nt, rfl, ex, ey⟩
        obtain ⟨z0, c0⟩ : ∃ z, R0[j]? = some z := ⟨_, List.getElem?_eq_getElem (show j < R0.length by omega)⟩
        obtain ⟨z1, c1⟩ : ∃ z, R1[j]? = some z := ⟨_, List.getElem?_eq_getElem (show j < R1.length by omega)⟩
        dsimp only at ex ey
        rw [List.getElem?_map, c0] at ex
        rw [List.getElem?_map, c1] at ey
        obtain rfl := Option.some.inj ex
        obtain rfl := Option.some.inj ey
        have k1 := Same.new (o := .tup [V.int z0, V.int z1]) nt
        refine ⟨t, _, rfl, SqT.of upd_same, rfl, _, _, rfl, _, _, rfl, rfl, rfl, ?_⟩
        dsimp only [tYes]
        rw [if_pos rfl]
        refine ⟨_, rfl, _, rfl, _, _, rfl, rfl, ?_⟩
        have er : rs[j]? = some (z1 - z0) := by
          rw [ers]
          unfold riseL
          rw [List.getElem?_zipWith, c0, c1]
        rw [take_snoc er, List.map_append]
        exact LcD.step nD h k1 (.int _) (flatDs_ints _) rfl (by rw [List.length_map, List.length_take]; omega)
      · intro H2 h
        rw [show rs.take ys.length = rs from by rw [← lrs, List.take_length]] at h
        have hR := h.ints
        have s2 := s1.trans h.same
        have hF2 := h.same _ _ hF
        have hw2 := hw.same h.same
        refine ⟨_, rfl, .inl ⟨rfl, _, SqL.of hF2⟩, _, rfl, q, vy, rfl, .inr (s2.tup hvy), _, _, rfl, rfl, _, rfl, by omega, by omega, fun E0 nE => lc_it (walk_range (lo := 0) (n := ((vy.length : Int) - 2).toNat)) (fun j H' => LcD K H2 E0 ((((List.range j).filter fun j => decide (0 < bowL ms rs j * way)).map fun j => (i, j)).map plD) H') (LcD.start nE) (fun _ _ _ _ => trivial) ?_ ?_⟩
        · rintro j x H3 H4 hj h3 ⟨rfl, rfl⟩
          have hj3 : j + 3 ≤ ys.length := by omega
          refine ⟨rfl, ?_⟩
          refine ⟨_, rfl, _, rfl, _, rfl, q, D, ys, rs, j, by (show [V.ref q, V.ref D, V.int (0 + (j : Int))] = _; rw [Int.zero_add]), ⟨vy, (s2.trans h3.same).tup hvy, hP.tk (tk_same (s2.trans h3.same))⟩, SqL.of (h3.same _ _ hR), hj3, by omega, sy, srs, fun H5 s5 => ?_⟩
          have sm := bowL_small sms srs (j := j) (by omega) (by omega)
          rw [← ems]
          refine ⟨_, rfl, _, _, rfl, rfl, .inr (by omega), _, _, rfl, rfl, _, rfl, ?_⟩
          have len : ((((List.range j).filter fun j => decide (0 < bowL ms rs j * way)).map fun j => (i, j)).map plD).length ≤ 1000 := by
            rw [List.length_map, List.length_map]
            have := List.length_filter_le (fun j => decide (0 < bowL ms rs j * way)) (List.range j)
            rw [List.length_range] at this
            omega
          rw [List.range_succ, List.filter_append]
          by_cases hc : 0 < bowL ms rs j * way
          · rw [decide_eq_true hc, List.filter_cons_of_pos (by simp [hc])]
            dsimp only
            rw [if_pos rfl]
            refine ⟨_, rfl, _, rfl, (by show 2 ≤ sizeLine; decide), fun t nt => ?_⟩
            rw [List.filter_nil, List.map_append, List.map_append]
            refine LcD.step nE h3 (s5.trans (Same.new nt)) ?_ (flat_pls _) rfl len
            refine .tup (SqT.of upd_same) ?_
            rw [Int.zero_add, Int.zero_add]
            exact .cons (.int _) (.cons (.int _) .nil)
          · rw [decide_eq_false hc, List.filter_cons_of_neg (by simp [hc]), List.filter_nil, List.append_nil]
            dsimp only
            rw [if_neg Bool.false_ne_true]
            obtain ⟨ws3, g1, g2, g3⟩ := h3
            exact ⟨ws3, s5 _ _ g1, g2.trans s5, g3.same s5⟩
        · intro H3 h3
          obtain ⟨ws3, g1, g2, g3⟩ := h3
          have hF3 := g2 _ _ hF2
          refine ⟨F0, E0, ws, ws3, rfl, rfl, hF3, g1, ?_, ?_⟩
          · have l1 := hw.len
            have l2 := g3.len
            rw [List.length_map] at l1 l2
            have l3 := bendsL_len ms rows way i
            have l4 := List.length_filter_le (fun j => decide (0 < bowL ms rs j * way)) (List.range ((vy.length : Int) - 2).toNat)
            rw [List.length_range] at l4
            rw [List.length_map] at l2
            have : i * ms.length ≤ 8 * 8 := Nat.mul_le_mul (by omega) (by omega)
            exact Nat.le_of_lt (small1000 (by omega))
          · have s3 := s2.trans g2
            refine ⟨_, _, _, rfl, upd_same, same_upd nF s3, ?_⟩
            have e : bendsL ms rows way (i + 1) = bendsL ms rows way i ++ (((List.range ((vy.length : Int) - 2).toNat).filter fun j => decide (0 < bowL ms rs j * way)).map fun j => (i, j)) := by
              rw [bendsL_succ]
              unfold bendRow
              rw [show rows.getD i [] = R0 from by rw [List.getD_eq_getElem?_getD, r0]; rfl, show rows.getD (i + 1) [] = R1 from by rw [List.getD_eq_getElem?_getD, r1]; rfl, ← ers, lms, show ((vy.length : Int) - 2).toNat = ys.length - 2 from by omega]
            rw [e, List.map_append]
            exact DpAll.tk (tk_lst hF3) (flatDs_app (flat_pls _) (flat_pls _)) ((hw2.same g2).app g3)
    · rintro σ H1 ⟨v4, v5, ws, rfl, hF, s1, hw⟩
      refine ⟨_, rfl, F0, ws, rfl, .inl ⟨SqL.of hF, fun l nl => ?_⟩⟩
      have k1 := Same.new (o := .tup ws) nl
      refine k _ _ (s1.trans k1) ?_
      rw [← ems]
      unfold bendsT
      rw [show rows.length - 1 = ((us.length : Int) - 1).toNat from by omega]
      exact Dp.new_tup nl hw
end
end CS
set_option Elab.async false
set_option maxRecDepth 100000
set_option maxHeartbeats 8000000
set_option linter.unusedVariables false
namespace CS
open PySem L2 StX
def kindD (ups downs : List (Nat × Nat)) : PyData := match ups, downs with
  | u :: _, d :: _ => .tuple [.str "mixed", .int (u.1 : Int), .int (u.2 : Int), .int (d.1 : Int), .int (d.2 : Int)]
  | _ :: _, [] => .tuple [.str "up"]
  | [], _ :: _ => .tuple [.str "down"]
  | [], [] => .tuple [.str "straight"]
def kindSorts : List PyData := [.tuple [.str "down", .int 1], .tuple [.str "up", .int 1], .tuple [.str "straight", .int 1], .tuple [.str "mixed", .int 5]]
def hasPl (ps : List (Nat × Nat)) (d : PyData) : Bool := (ps.map plD).any fun z => PyData.eqv z d
def toldD (ups downs : List (Nat × Nat)) : PyData → Bool
  | .tuple (.str x :: ds) => if x = ("mixed" : Str) then ds.all wholeD && (hasPl ups (.tuple (ds.take 2)) && hasPl downs (.tuple (ds.drop 2))) else
    if x = ("down" : Str) then ups.isEmpty else if x = ("up" : Str) then downs.isEmpty else ups.isEmpty && downs.isEmpty
  | _ => false
/-- the word of a paper -/
def headD : PyData → Str
  | .tuple (.str x :: _) => x
  | _ => ""
theorem shaped_pls : ∀ ps : List (Nat × Nat), SeqAt.shaped (.tuple (ps.map plD)) = true := fun ps => by
  have h : ∀ ps : List (Nat × Nat), PyData.canLayAll0 (ps.map plD) = true ∧ PyData.depthAll (ps.map plD) ≤ 1 := fun ps => by
    induction ps with
    | nil => exact ⟨rfl, by decide⟩
    | cons p ps ih =>
      refine ⟨?_, ?_⟩
      · simp only [List.map_cons, PyData.canLayAll0, plD, PyData.canLay0, Bool.and_eq_true, Bool.true_and]
        exact ih.1
      · simp only [List.map_cons, PyData.depthAll, plD, PyData.depth]
        have := ih.2
        omega
  have h2 := (h ps).2
  refine Bool.and_eq_true_iff.mpr ⟨?_, decide_eq_true ?_⟩
  · simp only [PyData.canLay0, (h ps).1]
  · simp only [PyData.depth]
    omega
section
variable {P : Program} {w : World} {K : PySem.W.Frag} {mg : Str → Option Value} {base : Heap}
theorem DpPl {H : Hp} {v : V} {a : Nat × Nat} (h : Dp K H v (plD a)) : ∃ p, v = .ref p ∧ SqT K H p [.int (a.1 : Int), .int (a.2 : Int)] := by
  obtain ⟨p, xs, rfl, hs, ha⟩ := h.tup_inv
  cases ha with
  | cons h1 h2 =>
    cases h1
    cases h2 with
    | cons h3 h4 =>
      cases h3
      cases h4
      exact ⟨p, rfl, hs⟩
/-- two shares and costs -/
def CArg (K : PySem.W.Frag) (H : Hp) (p q : Addr) (v : V) (xs ys : List (Int × Fx)) (rows : List (List Int)) : Prop := ShAt K H p xs ∧ ShAt K H q ys ∧ Shr xs ∧ Shr ys ∧ Dp K H v (costD rows) ∧ CostOk rows xs.length ys.length
theorem flat_cost (rows : List (List Int)) : flatD (costD rows) = true := by
  show flatDs (rows.map fun r => .tuple (r.map PyData.int)) = true
  induction rows with
  | nil => rfl
  | cons r rs ih =>
    show (flatD (.tuple (r.map PyData.int)) && flatDs (rs.map fun r => .tuple (r.map PyData.int))) = true
    rw [ih]
    have := flatDs_ints r
    simp only [flatD, this, Bool.and_true]
theorem CArg.same {H H' : Hp} {p q : Addr} {v : V} {xs ys : List (Int × Fx)} {rows : List (List Int)} (h : CArg K H p q v xs ys rows) (e : Same H H') : CArg K H' p q v xs ys rows :=
  ⟨h.1.tk (tk_same e), h.2.1.tk (tk_same e), h.2.2.1, h.2.2.2.1, h.2.2.2.2.1.same e, h.2.2.2.2.2⟩
theorem CArg.tk {H H' : Hp} {p q : Addr} {v : V} {xs ys : List (Int × Fx)} {rows : List (List Int)} (h : CArg K H p q v xs ys rows) (e : TK K H H') : CArg K H' p q v xs ys rows :=
  ⟨h.1.tk e, h.2.1.tk e, h.2.2.1, h.2.2.2.1, h.2.2.2.2.1.tk e (flat_cost rows), h.2.2.2.2.2⟩
abbrev upsO (ys : List (Int × Fx)) (rows : List (List Int)) : List (Nat × Nat) := bendsT (ys.map (·.1)) rows 1
abbrev downsO (ys : List (Int × Fx)) (rows : List (List Int)) : List (Nat × Nat) := bendsT (ys.map (·.1)) rows (-1)
theorem CArg.bends {H : Hp} {p q : Addr} {v : V} {xs ys : List (Int × Fx)} {rows : List (List Int)} (h : CArg K H p q v xs ys rows) : CostOk rows rows.length ys.length ∧ rows.length ≤ 8 ∧ ys.length ≤ 8 ∧ ∀ a ∈ ys, a.1.natAbs ≤ 200 := by
  obtain ⟨_, _, sx, sy, _, ok⟩ := h
  exact ⟨⟨rfl, ok.wide, ok.small⟩, by rw [ok.len]; exact sx.1, sy.1, sy.abs⟩
def spUps (K : PySem.W.Frag) : Sp := fun vs H Q _ => ∃ p q v xs ys rows, vs = [.ref p, .ref q, v] ∧ CArg K H p q v xs ys rows ∧ ∀ H' r, Same H H' → Dp K H' r (.tuple ((upsO ys rows).map plD)) → Q r H'
theorem scBendsUp : FnScope ["one", "other", "costs"] ["one", "other", "costs"] (defScope sBendsUp) := ⟨rfl, rfl, rfl, by decide +kernel, rfl, by decide +kernel, by decide +kernel⟩
theorem ok_bends_up {f f1 f2 : Addr} {fd fd1 fd2 : FuncData} {t1 : Tok} (F : Df K mg "bends_up" sBendsUp ["one", "other", "costs"] f fd) (D1 : Df K mg "bends" sBends ["other", "costs", "way"] f1 fd1) (G1 : FnOk P w K mg base CX0 2 f1 fd1 ["other", "costs", "way"] (spBends K)) (D2 : Df K mg "need_costs" sNeedCosts ["one", "other", "thing"] f2 fd2) (G2 : FnOk P w K mg base CX0 8 f2 fd2 ["one", "other", "thing"] (spNeedCosts K)) (gU : mg "UP" = some (.int 1 t1)) : FnOk P w K mg base CX0 9 f fd ["one", "other", "costs"] (spUps K) := by
  refine F.F.ok scBendsUp (fun vs H Q E h => ?_) (fun cdv A outer s H vs Q E hr h => ?_)
  · obtain ⟨p, q, v, xs, ys, rows, rfl, _⟩ := h
    rfl
  · obtain ⟨p, q, v, xs, ys, rows, rfl, Z, k⟩ := h
    refine ⟨_, pss_one (ps_ret (pe_call G1 (hr.mono (by decide)) (by rfl) D1.g D1.F.kp D1.b .nil pass0 (pa_cons (pv 1) (pa_cons (pe_call G2 hr (by rfl) D2.g D2.F.kp D2.b .nil pass0 (pa_cons (pv 0) (pa_cons (pv 1) (pa_cons (pv 2) pa_nil)))) (pa_cons (pe_glob (v := .int 1) (by rfl) gU ⟨_, rfl⟩) pa_nil))))), ?_⟩
    obtain ⟨hx, hy, sx, sy, hd, ok⟩ := id Z
    refine ⟨_, rfl, _, rfl, _, rfl, _, rfl, p, q, v, xs, ys, rows, rfl, hx, hy, sx, sy, hd, ok, fun H1 s1 => ?_⟩
    obtain ⟨o1, o2, o3, o4⟩ := (Z.same s1).bends
    exact ⟨q, v, ys, rows, 1, rfl, hy.tk (tk_same s1), hd.same s1, o1, o2, o3, o4, by decide, fun H' r s2 h2 => k H' r (s1.trans s2) h2⟩
def spKind (K : PySem.W.Frag) : Sp := fun vs H Q _ => ∃ p q v xs ys rows, vs = [.ref p, .ref q, v] ∧ CArg K H p q v xs ys rows ∧ ∀ H' r, Same H H' → Dp K H' r (kindD (upsO ys rows) (downsO ys rows)) → Q r H'
theorem scKindPaper : FnScope ["one", "other", "costs", "ups", "downs"] ["one", "other", "costs"] (defScope sKindPaper) := ⟨rfl, rfl, rfl, by decide +kernel, rfl, by decide +kernel, by decide +kernel⟩
theorem ok_kind_paper {f f1 f2 : Addr} {fd fd1 fd2 : FuncData} {t1 : Tok} (F : Df K mg "kind_paper" sKindPaper ["one", "other", "costs"] f fd) (D1 : Df K mg "bends" sBends ["other", "costs", "way"] f1 fd1) (G1 : FnOk P w K mg base CX0 2 f1 fd1 ["other", "costs", "way"] (spBends K)) (D2 : Df K mg "bends_up" sBendsUp ["one", "other", "costs"] f2 fd2) (G2 : FnOk P w K mg base CX0 9 f2 fd2 ["one", "other", "costs"] (spUps K)) (gD : mg "DOWN" = some (.int (-1) t1)) : FnOk P w K mg base CX0 10 f fd ["one", "other", "costs"] (spKind K) := by
  refine F.F.ok scKindPaper (fun vs H Q E h => ?_) (fun cdv A outer s H vs Q E hr h => ?_)
  · obtain ⟨p, q, v, xs, ys, rows, rfl, _⟩ := h
    rfl
  · obtain ⟨p, q, v, xs, ys, rows, rfl, Z, k⟩ := h
    refine ⟨_, pss_cons (ps_set (i := 3) scKindPaper.nd rfl (Or.inl rfl) (pe_call G2 hr (by rfl) D2.g D2.F.kp D2.b .nil pass0 (pa_cons (pv 0) (pa_cons (pv 1) (pa_cons (pv 2) pa_nil)))))
      (pss_cons (ps_set (i := 4) scKindPaper.nd rfl (Or.inl rfl) (pe_call G1 (hr.mono (by decide)) (by rfl) D1.g D1.F.kp D1.b .nil pass0 (pa_cons (pv 1) (pa_cons (pv 2) (pa_cons (pe_glob (v := .int (-1)) (by rfl) gD ⟨_, rfl⟩) pa_nil)))))
      (pss_cons (ps_if (PW.pt (pw_and (pt_truth (pv 3) (fun _ => rfl)) (pw_and1 (pt_truth (pv 4) (fun _ => rfl))))) (pss_one (ps_ret (pe_tup (pa_cons pe_str (pa_star (pe_ix ix_tup (pv 3) pe_int (fun _ _ => rfl)) (pa_star (pe_ix ix_tup (pv 4) pe_int (fun _ _ => rfl)) pa_nil)))))) pss_nil)
      (pss_cons (ps_if (pt_truth (pv 3) (fun _ => rfl)) (pss_one (ps_ret (pe_tup (pa_cons pe_str pa_nil)))) pss_nil)
      (pss_one (ps_ret (pe_ifExp (pt_truth (pv 4) (fun _ => rfl)) (pe_tup (pa_cons pe_str pa_nil)) (pe_tup (pa_cons pe_str pa_nil)))))))), ?_⟩
    refine ⟨_, rfl, _, rfl, _, rfl, p, q, v, xs, ys, rows, rfl, Z, fun H1 r1 s1 h1 => ?_⟩
    obtain ⟨hx, hy, sx, sy, hd, ok⟩ := Z.same s1
    obtain ⟨o1, o2, o3, o4⟩ := Z.bends
    refine ⟨_, rfl, _, rfl, q, v, ys, rows, -1, rfl, hy, hd, o1, o2, o3, o4, by decide, fun H2 r2 s2 h2 => ?_⟩
    have kk := fun H' r s' => k H' r ((s1.trans s2).trans s')
    obtain ⟨a1, u1, rfl, g1, d1⟩ := (show Dp K H2 r1 (.tuple ((upsO ys rows).map plD)) from h1.same s2).tup_inv
    obtain ⟨a2, u2, rfl, g2, d2⟩ := (show Dp K H2 r2 (.tuple ((downsO ys rows).map plD)) from h2).tup_inv
    clear h1 h2
    generalize upsO ys rows = ups at *
    generalize downsO ys rows = downs at *
    refine ⟨_, rfl, _, .inr (.inl ⟨_, g1, rfl⟩), ?_⟩
    cases ups with
    | nil =>
      cases d1
      refine iteF (iteF ⟨_, rfl, _, .inr (.inl ⟨_, g1, rfl⟩), iteF ⟨_, rfl, _, .inr (.inl ⟨_, g2, rfl⟩), ?_⟩⟩)
      cases downs with
      | nil =>
        cases d2
        exact iteF ⟨(by show 1 ≤ sizeLine; decide), fun t nt => kk _ _ (Same.new nt) (Dp.new_tup nt (.cons (.str _) .nil))⟩
      | cons d ds =>
        cases d2
        exact iteT ⟨(by show 1 ≤ sizeLine; decide), fun t nt => kk _ _ (Same.new nt) (Dp.new_tup nt (.cons (.str _) .nil))⟩
    | cons u us =>
      cases d1 with
      | cons e1 e2 =>
      refine iteT ⟨_, rfl, _, .inr (.inl ⟨_, g2, rfl⟩), ?_⟩
      cases downs with
      | nil =>
        cases d2
        exact iteF ⟨_, rfl, _, .inr (.inl ⟨_, g1, rfl⟩), iteT ⟨(by show 1 ≤ sizeLine; decide), fun t nt => kk _ _ (Same.new nt) (Dp.new_tup nt (.cons (.str _) .nil))⟩⟩
      | cons d ds =>
        cases d2 with
        | cons e3 e4 =>
        obtain ⟨b1, rfl, f1⟩ := DpPl e1
        obtain ⟨b2, rfl, f2⟩ := DpPl e3
        refine iteT ⟨_, rfl, a1, _, 0, .ref b1, rfl, rfl, g1, atI_nat (j := 0) rfl, b1, _, rfl, .inl f1, _, rfl, a2, _, 0, .ref b2, rfl, rfl, g2, atI_nat (j := 0) rfl, b2, _, rfl, .inl f2, (by show 5 ≤ sizeLine; decide), fun t nt => kk _ _ (Same.new nt) (Dp.new_tup nt (.cons (.str _) (.cons (.int _) (.cons (.int _) (.cons (.int _) (.cons (.int _) .nil))))))⟩
end
end CS
set_option Elab.async false
set_option maxRecDepth 100000
set_option maxHeartbeats 8000000
set_option linter.unusedVariables false
namespace CS
open PySem L2 StX
theorem sort_inv {d : PyData} (h : sortD kindSorts d = true) : ∃ x ds, d = .tuple (.str x :: ds) ∧ ((x = ("mixed" : Str) ∧ ∃ a b c e, ds = [a, b, c, e]) ∨ ((x = ("down" : Str) ∨ x = ("up" : Str) ∨ x = ("straight" : Str)) ∧ ds = [])) := by
  cases d with
  | tuple ds =>
    cases ds with
    | nil => cases h
    | cons d0 ds =>
      cases d0 with
      | str x =>
        refine ⟨x, ds, rfl, ?_⟩
        have h2 : ∃ z ∈ kindSorts, PyData.eqv z (.tuple [.str x, .int ((ds.length + 1 : Nat) : Int)]) = true := List.any_eq_true.mp h
        obtain ⟨z, hz, e⟩ := h2
        have e4 : ∀ (y : Str) (n : Int), PyData.eqv (.tuple [.str y, .int n]) (.tuple [.str x, .int ((ds.length + 1 : Nat) : Int)]) = true → y = x ∧ n = ((ds.length + 1 : Nat) : Int) := fun y n q => by
          simpa [PyData.eqv, PyData.eqvAll] using q
        simp only [kindSorts, List.mem_cons, List.not_mem_nil, or_false] at hz
        rcases hz with rfl | rfl | rfl | rfl
        · obtain ⟨e1, e2⟩ := e4 _ _ e
          exact .inr ⟨.inl e1.symm, List.eq_nil_of_length_eq_zero (by omega)⟩
        · obtain ⟨e1, e2⟩ := e4 _ _ e
          exact .inr ⟨.inr (.inl e1.symm), List.eq_nil_of_length_eq_zero (by omega)⟩
        · obtain ⟨e1, e2⟩ := e4 _ _ e
          exact .inr ⟨.inr (.inr e1.symm), List.eq_nil_of_length_eq_zero (by omega)⟩
        · obtain ⟨e1, e2⟩ := e4 _ _ e
          refine .inl ⟨e1.symm, ?_⟩
          match ds, e2 with
          | [a, b, c, f], _ => exact ⟨a, b, c, f, rfl⟩
          | [], q => simp only [List.length_cons, List.length_nil] at q; omega
          | [_], q => simp only [List.length_cons, List.length_nil] at q; omega
          | [_, _], q => simp only [List.length_cons, List.length_nil] at q; omega
          | [_, _, _], q => simp only [List.length_cons, List.length_nil] at q; omega
          | _ :: _ :: _ :: _ :: _ :: r, q => simp only [List.length_cons] at q; omega
      | none => cases h
      | bool b => cases h
      | int i => cases h
      | list l => cases h
      | tuple l => cases h
      | dict l => cases h
  | none => cases h
  | bool b => cases h
  | int i => cases h
  | str x => cases h
  | list l => cases h
  | dict l => cases h
theorem eqv_pls_nil (ps : List (Nat × Nat)) : PyData.eqv (.tuple (ps.map plD)) (.tuple []) = ps.isEmpty := by
  cases ps <;> simp [PyData.eqv, PyData.eqvAll]
theorem shaped_sub {x : Str} {a b c e : PyData} (h : SeqAt.shaped (.tuple [.str x, a, b, c, e]) = true) : SeqAt.shaped (.tuple [a, b]) = true ∧ SeqAt.shaped (.tuple [c, e]) = true := by
  have h1 := SeqAt.canLay_of_shaped h
  have h2 := SeqAt.depth_of_shaped h
  simp only [PyData.canLay0, PyData.canLayAll0, Bool.and_eq_true] at h1
  simp only [PyData.depth, PyData.depthAll] at h2
  obtain ⟨_, ha, hb, hc, he, _⟩ := h1
  constructor
  · refine Bool.and_eq_true_iff.mpr ⟨?_, decide_eq_true ?_⟩
    · simp only [PyData.canLay0, PyData.canLayAll0, ha, hb, Bool.and_true]
    · simp only [PyData.depth, PyData.depthAll]
      omega
  · refine Bool.and_eq_true_iff.mpr ⟨?_, decide_eq_true ?_⟩
    · simp only [PyData.canLay0, PyData.canLayAll0, hc, he, Bool.and_true]
    · simp only [PyData.depth, PyData.depthAll]
      omega
section
variable {P : Program} {w : World} {K : PySem.W.Frag} {mg : Str → Option Value} {base : Heap}
def spTold (K : PySem.W.Frag) : Sp := fun vs H Q _ => ∃ p q v u xs ys rows d, vs = [.ref q, v, u] ∧ CArg K H p q v xs ys rows ∧ Dp K H u d ∧ SeqAt.shaped d = true ∧ sortD kindSorts d = true ∧ ∀ H', Same H H' → Q (.bl (toldD (upsO ys rows) (downsO ys rows) d)) H'
theorem scIsAsTold : FnScope ["other", "costs", "paper", "ups", "downs", "item"] ["other", "costs", "paper"] (defScope sIsAsTold) := ⟨rfl, rfl, rfl, by decide +kernel, rfl, by decide +kernel, by decide +kernel⟩
theorem strNe {x y : Str} (h : x ≠ y) : decide (V.str x = V.str y) = false := decide_eq_false fun z => h (V.str.inj z)
theorem ok_is_as_told {f f1 f2 : Addr} {fd fd1 fd2 : FuncData} {t1 t2 : Tok} (F : Df K mg "is_as_told" sIsAsTold ["other", "costs", "paper"] f fd) (D1 : Df K mg "bends" sBends ["other", "costs", "way"] f1 fd1) (G1 : FnOk P w K mg base CX0 2 f1 fd1 ["other", "costs", "way"] (spBends K)) (D2 : Df K mg "is_whole" sIsWhole ["thing"] f2 fd2) (G2 : FnOk P w K mg base CX0 1 f2 fd2 ["thing"] (spD1 K wholeD))
    (gU : mg "UP" = some (.int 1 t1)) (gD : mg "DOWN" = some (.int (-1) t2)) (T : Bt mg) : FnOk P w K mg base CX0 3 f fd ["other", "costs", "paper"] (spTold K) := by
  refine F.F.ok scIsAsTold (fun vs H Q E h => ?_) (fun cdv A outer s H vs Q E hr h => ?_)
  · obtain ⟨p, q, v, u, xs, ys, rows, d, rfl, _⟩ := h
    rfl
  · obtain ⟨p, q, v, u, xs, ys, rows, d, rfl, Z, hd, sd, so, k⟩ := h
    refine ⟨_, pss_cons (ps_set (i := 3) scIsAsTold.nd rfl (Or.inl rfl) (pe_call G1 hr (by rfl) D1.g D1.F.kp D1.b .nil pass0 (pa_cons (pv 0) (pa_cons (pv 1) (pa_cons (pe_glob (v := .int 1) (by rfl) gU ⟨_, rfl⟩) pa_nil)))))
      (pss_cons (ps_set (i := 4) scIsAsTold.nd rfl (Or.inl rfl) (pe_call G1 hr (by rfl) D1.g D1.F.kp D1.b .nil pass0 (pa_cons (pv 0) (pa_cons (pv 1) (pa_cons (pe_glob (v := .int (-1)) (by rfl) gD ⟨_, rfl⟩) pa_nil)))))
      (pss_cons (ps_if (pt_cmpR op_eq (pe_ix ix_tup (pv 2) pe_int (fun _ _ => rfl)) pe_str (nomark _)) (pss_one (ps_ret (pe_and (pe_callB (cr_all rfl) (by rfl) T.all (by decide +kernel) (pa_cons (pe_lc (own := [("item", 5)]) (g := gName 5) (tt := tYes) rfl scIsAsTold.nd (pi_tup (pe_slice sl_data (pv 2) (po_some pe_int) po_none)) (blkOk_by (N := ["other", "costs", "paper", "ups", "downs", "item"]) (sc := defScope sIsAsTold) (by decide +kernel)) (fun _ _ _ _ _ => pg_name (i := 5) scIsAsTold.nd rfl (Or.inl rfl)) (fun _ _ _ _ _ => pts_nil) (fun _ _ _ _ _ => pe_call G2 (hr.mono (by decide)) (by rfl) D2.g D2.F.kp D2.b .nil pass0 (pa_cons (pv 5) pa_nil))) pa_nil))
          (pe_and (pe_cmpR (op_memT hr.units) (pe_slice sl_data (pv 2) (po_some pe_int) (po_some pe_int)) (pv 3) (by rfl)) (pe_one (pe_cmpR (op_memT hr.units) (pe_slice sl_data (pv 2) (po_some pe_int) po_none) (pv 4) (by rfl))))))) pss_nil)
      (pss_cons (ps_if (pt_cmpR op_eq (pe_ix ix_tup (pv 2) pe_int (fun _ _ => rfl)) pe_str (nomark _)) (pss_one (ps_ret (pe_cmpR (op_eqD hr.units) (pv 3) (pe_tup pa_nil) (nomark _)))) pss_nil)
      (pss_cons (ps_if (pt_cmpR op_eq (pe_ix ix_tup (pv 2) pe_int (fun _ _ => rfl)) pe_str (nomark _)) (pss_one (ps_ret (pe_cmpR (op_eqD hr.units) (pv 4) (pe_tup pa_nil) (nomark _)))) pss_nil)
      (pss_one (ps_ret (pe_and (pe_cmpR (op_eqD hr.units) (pv 3) (pe_tup pa_nil) (nomark _)) (pe_one (pe_cmpR (op_eqD hr.units) (pv 4) (pe_tup pa_nil) (nomark _)))))))))), ?_⟩
    obtain ⟨o1, o2, o3, o4⟩ := Z.bends
    obtain ⟨hx, hy, sx, sy, hc, ok⟩ := id Z
    refine ⟨_, rfl, _, rfl, q, v, ys, rows, 1, rfl, hy, hc, o1, o2, o3, o4, by decide, fun H1 r1 s1 h1 => ?_⟩
    refine ⟨_, rfl, _, rfl, q, v, ys, rows, -1, rfl, hy.tk (tk_same s1), hc.same s1, o1, o2, o3, o4, by decide, fun H2 r2 s2 h2 => ?_⟩
    have s12 := s1.trans s2
    have h1' : Dp K H2 r1 (.tuple ((upsO ys rows).map plD)) := h1.same s2
    have h2' : Dp K H2 r2 (.tuple ((downsO ys rows).map plD)) := h2
    have kk := fun H' s' => k H' (s12.trans s')
    have hdS := hd.same s12
    clear h1 h2 k
    generalize upsO ys rows = ups at *
    generalize downsO ys rows = downs at *
    have eT : ∀ {H' : Hp} {t : Addr}, Dp K (upd H' t (.tup [])) (.ref t) (.tuple []) := .tup (SqT.of upd_same) .nil
    have sN : SeqAt.shaped (.tuple []) = true := by decide
    obtain ⟨x, ds, rfl, hh⟩ := sort_inv so
    obtain ⟨a, us, rfl, hs, ha⟩ := hdS.tup_inv
    cases ha with
    | cons hx0 hds =>
    cases hx0
    have i0 : ∀ vs : List V, atI (V.str x :: vs) 0 = some (V.str x) := fun vs => atI_nat (j := 0) rfl
    refine ⟨_, rfl, a, _, 0, .str x, rfl, rfl, hs, i0 _, rfl, _, rfl, ?_⟩
    rcases hh with ⟨rfl, b1, b2, b3, b4, rfl⟩ | ⟨hw, rfl⟩
    · rw [decide_eq_true rfl]
      obtain ⟨sh1, sh2⟩ := shaped_sub sd
      have eto : toldD ups downs (.tuple [.str "mixed", b1, b2, b3, b4]) = ([b1, b2, b3, b4].all wholeD && (hasPl ups (.tuple [b1, b2]) && hasPl downs (.tuple [b3, b4]))) := by
        rw [toldD, if_pos rfl]
        rfl
      rw [eto] at kk
      refine iteT ⟨_, rfl, 1, rfl, _, hdS, fun H3 w3 s3 h3 => ?_⟩
      have h3' : Dp K H3 w3 (.tuple [b1, b2, b3, b4]) := h3
      obtain ⟨c, cs, rfl, hcs, hca⟩ := h3'.tup_inv
      refine ⟨c, rfl, ⟨_, hcs⟩, fun D nD => lc_tup (K := K) (a := c) (xs := cs) (fun i H' => LcD K H3 D ((([b1, b2, b3, b4].take i).map wholeD).map PyData.bool) H') (LcD.start nD) (fun i H' _ h => h.same.tup hcs) ?_ ?_⟩
      · rintro i z H' hi h
        obtain ⟨dz, ez, hz⟩ := hca.get hi
        refine ⟨rfl, ?_⟩
        dsimp only [tYes]
        rw [if_pos rfl]
        refine ⟨_, rfl, z, dz, rfl, hz.same h.same, ?_⟩
        rw [take_snoc ez, List.map_append, List.map_append]
        refine LcD.step nD h (Same.refl H') (.bl (wholeD dz)) ?_ rfl (by rw [List.length_map, List.length_map, List.length_take]; simp; omega)
        exact List.recOn (([b1, b2, b3, b4].take i).map wholeD) rfl fun _ _ z => z
      · intro H4 h
        rw [hca.len] at h
        have hb : H4 D = some (.lst (([b1, b2, b3, b4].map wholeD).map V.bl)) := h.bools
        have s4 := h.same
        refine ⟨D, _, rfl, SqL.of hb, _, rfl, ?_⟩
        rw [show (([b1, b2, b3, b4].map wholeD).all id) = [b1, b2, b3, b4].all wholeD by rw [List.all_map]; rfl]
        cases hall : [b1, b2, b3, b4].all wholeD with
        | false =>
          rw [hall] at kk
          exact iteF (kk _ (s3.trans s4))
        | true =>
          rw [hall, Bool.true_and] at kk
          have s34 := s3.trans s4
          refine iteT ⟨_, rfl, 1, rfl, 3, rfl, _, hdS.same s34, fun H5 w5 s5 h5 => ⟨_, rfl, .tuple [b1, b2], ups.map plD, h5, (h1'.same s34).same s5, sh1, shaped_pls _, _, rfl, ?_⟩⟩
          rw [if_neg Bool.false_ne_true]
          show if hasPl ups (.tuple [b1, b2]) = true then _ else _
          cases hu : hasPl ups (.tuple [b1, b2]) with
          | false =>
            rw [hu] at kk
            exact iteF (kk _ (s34.trans s5))
          | true =>
            rw [hu, Bool.true_and] at kk
            refine iteT ⟨_, rfl, 3, rfl, _, (hdS.same s34).same s5, fun H6 w6 s6 h6 => ⟨_, rfl, .tuple [b3, b4], downs.map plD, h6, ((h2'.same s34).same s5).same s6, sh2, shaped_pls _, ?_⟩⟩
            exact kk _ ((s34.trans s5).trans s6)
    · have nm : x ≠ ("mixed" : Str) := by
        rcases hw with rfl | rfl | rfl <;> decide +kernel
      rw [strNe nm]
      refine iteF ⟨_, rfl, a, _, 0, .str x, rfl, rfl, hs, i0 _, rfl, _, rfl, ?_⟩
      have eto : toldD ups downs (.tuple [.str x]) = if x = ("down" : Str) then ups.isEmpty else if x = ("up" : Str) then downs.isEmpty else ups.isEmpty && downs.isEmpty := if_neg nm
      rw [eto] at kk
      by_cases hdn : x = ("down" : Str)
      · rw [if_pos hdn] at kk
        subst hdn
        rw [decide_eq_true rfl]
        refine iteT ⟨_, rfl, (by show 0 ≤ sizeLine; decide), fun t nt => ⟨_, _, h1'.same (Same.new nt), eT, shaped_pls _, sN, ?_⟩⟩
        rw [eqv_pls_nil]
        exact kk _ (Same.new nt)
      · rw [if_neg hdn] at kk
        rw [strNe hdn]
        refine iteF ⟨_, rfl, a, _, 0, .str x, rfl, rfl, hs, i0 _, rfl, _, rfl, ?_⟩
        by_cases hup : x = ("up" : Str)
        · rw [if_pos hup] at kk
          subst hup
          rw [decide_eq_true rfl]
          refine iteT ⟨_, rfl, (by show 0 ≤ sizeLine; decide), fun t nt => ⟨_, _, h2'.same (Same.new nt), eT, shaped_pls _, sN, ?_⟩⟩
          rw [eqv_pls_nil]
          exact kk _ (Same.new nt)
        · rw [if_neg hup] at kk
          rw [strNe hup]
          refine iteF ⟨_, rfl, (by show 0 ≤ sizeLine; decide), fun t nt => ⟨_, _, h1'.same (Same.new nt), eT, shaped_pls _, sN, _, rfl, ?_⟩⟩
          rw [eqv_pls_nil]
          have st := Same.new (o := .tup []) nt
          cases he : ups.isEmpty with
          | false =>
            rw [he] at kk
            exact iteF (kk _ st)
          | true =>
            rw [he, Bool.true_and] at kk
            refine iteT ⟨_, rfl, (by show 0 ≤ sizeLine; decide), fun t2 nt2 => ⟨_, _, (h2'.same st).same (Same.new nt2), eT, shaped_pls _, sN, ?_⟩⟩
            rw [eqv_pls_nil]
            exact kk _ (st.trans (Same.new nt2))
end
end CS
set_option Elab.async false
set_option maxRecDepth 100000
set_option maxHeartbeats 8000000
set_option linter.unusedVariables false
namespace CS
open PySem L2 StX
/-- what check_kind makes of a paper, as the law hears it -/
def heardD (ups downs : List (Nat × Nat)) (d : PyData) : PyData := if sortD kindSorts d = true then (if toldD ups downs d = true then .list [.str (headD d)] else .str (headD d)) else .str "form"
/-- no object that stood -/
def NewV (H : Hp) (r : V) : Prop := ∀ a, r = .ref a → H a = none
theorem new_back {H H' : Hp} {a : Addr} (s : Same H H') (n : H' a = none) : H a = none := by
  cases e : H a with
  | none => rfl
  | some o =>
    rw [s _ _ e] at n
    cases n
theorem NewV.of {H H' : Hp} {a : Addr} (s : Same H H') (n : H' a = none) : NewV H (.ref a) := fun b e => by
  cases e
  exact new_back s n
theorem NewV.str {H : Hp} {x : Str} : NewV H (.str x) := fun b e => nomatch e
section
variable {P : Program} {w : World} {K : PySem.W.Frag} {mg : Str → Option Value} {base : Heap}
def spCheck (K : PySem.W.Frag) (CP : Addr) : Sp := fun vs H Q E => ∃ p q v u xs ys rows d, vs = [.ref p, .ref q, v, u] ∧ CArg K H p q v xs ys rows ∧ Dp K H u d ∧ SeqAt.shaped d = true ∧ ∀ H', Same H H' →
  (sortD kindSorts d = true → toldD (upsO ys rows) (downsO ys rows) d = true → Q (.str (headD d)) H') ∧ (sortD kindSorts d = true → toldD (upsO ys rows) (downsO ys rows) d = false → ∀ dd, H' dd = none → E (.ref CP) (some dd) (upd H' dd (.xd [("part", .str (headD d))]))) ∧
  (sortD kindSorts d = false → ∀ dd, H' dd = none → E (.ref CP) (some dd) (upd H' dd (.xd [("part", .str "form")])))
theorem scBpI : FnScope ["self", "part"] ["self", "part"] (defScope (inClass sBadPaper 0)) := ⟨rfl, rfl, rfl, by decide +kernel, rfl, by decide +kernel, by decide +kernel⟩
theorem ok_bp_init {CP fI : Addr} {fd : FuncData} (Z : Xc K mg "BadPaper" "part" CP fI bmV "ValueError.__new__" (inClass sBadPaper 0) "BadPaper.__init__" fd) : FnOk P w K mg base CX0 1 fI fd ["self", "part"] (spPut CP "part") :=
  ok_put PySem.F.store_ValueError Z.T Z.F scBpI rfl rfl rfl (by decide +kernel) (by decide +kernel) (fun _ => rfl)
theorem scCheckKind : FnScope ["one", "other", "costs", "paper"] ["one", "other", "costs", "paper"] (defScope sCheckKind) := ⟨rfl, rfl, rfl, by decide +kernel, rfl, by decide +kernel, by decide +kernel⟩
theorem ok_check_kind {f f1 f2 f3 CP fI aS : Addr} {fd fd1 fd2 fd3 fdI : FuncData} (F : Df K mg "check_kind" sCheckKind ["one", "other", "costs", "paper"] f fd) (D1 : Df K mg "need_costs" sNeedCosts ["one", "other", "thing"] f1 fd1) (G1 : FnOk P w K mg base CX0 8 f1 fd1 ["one", "other", "thing"] (spNeedCosts K)) (D2 : Df K mg "has_sort" sHasSort ["paper", "sorts"] f2 fd2) (G2 : FnOk P w K mg base CX0 2 f2 fd2 ["paper", "sorts"] (spSortD K))
    (D3 : Df K mg "is_as_told" sIsAsTold ["other", "costs", "paper"] f3 fd3) (G3 : FnOk P w K mg base CX0 3 f3 fd3 ["other", "costs", "paper"] (spTold K)) (gS : mg "SORTS" = some (.ref aS)) (hS : ∀ H, Dp K H (.ref aS) (.tuple kindSorts))
    (Z : Xc K mg "BadPaper" "part" CP fI bmV "ValueError.__new__" (inClass sBadPaper 0) "BadPaper.__init__" fdI) : FnOk P w K mg base (L2.CX P w) 9 f fd ["one", "other", "costs", "paper"] (spCheck K CP) := by
  have GI := ok_bp_init (P := P) (w := w) (base := base) Z
  refine F.F.okX scCheckKind (fun vs H Q E h => ?_) (fun cdv A outer s H vs Q E hr h => ?_)
  · obtain ⟨p, q, v, u, xs, ys, rows, d, rfl, _⟩ := h
    rfl
  · obtain ⟨p, q, v, u, xs, ys, rows, d, rfl, C, hd, sd, k⟩ := h
    refine ⟨_, pss_cons (ps_expr (pe_call G1 hr (by rfl) D1.g D1.F.kp D1.b .nil pass0 (pa_cons (pv 0) (pa_cons (pv 1) (pa_cons (pv 2) pa_nil)))))
      (pss_cons (ps_if (pt_not (pt_val (pe_call G2 (hr.mono (by decide)) (by rfl) D2.g D2.F.kp D2.b .nil pass0 (pa_cons (pv 3) (pa_cons (pe_glob (v := .ref aS) (by rfl) gS rfl) pa_nil))))) (pss_one (ps_raise rfl (takes_of rfl rfl rfl rfl) (pmk_own1 PySem.F.excBase_ValueError Z.T GI Z.b (hr.mono (by decide)) (by rfl) (pa_cons pe_str pa_nil)))) pss_nil)
      (pss_cons (ps_if (pt_not (pt_val (pe_call G3 (hr.mono (by decide)) (by rfl) D3.g D3.F.kp D3.b .nil pass0 (pa_cons (pv 1) (pa_cons (pv 2) (pa_cons (pv 3) pa_nil)))))) (pss_one (ps_raise rfl (takes_of rfl rfl rfl rfl) (pmk_own1 PySem.F.excBase_ValueError Z.T GI Z.b (hr.mono (by decide)) (by rfl) (pa_cons (pe_ix ix_tup (pv 3) pe_int (fun _ _ => rfl)) pa_nil)))) pss_nil)
      (pss_one (ps_ret (pe_ix ix_tup (pv 3) pe_int (fun _ _ => rfl)))))), ?_⟩
    obtain ⟨hx, hy, sx, sy, hc, ok⟩ := id C
    refine ⟨_, rfl, _, rfl, _, rfl, p, q, v, xs, ys, rows, rfl, hx, hy, sx, sy, hc, ok, fun H1 s1 => ⟨_, rfl, u, d, _, _, rfl, hd.same s1, hS H1, sd, (by decide +kernel), fun H2 s2 => ⟨_, rfl, ?_⟩⟩⟩
    have s12 := s1.trans s2
    cases so : sortD kindSorts d with
    | false => exact iteT ⟨_, rfl, fun dd hdd => (k _ s12).2.2 so dd hdd⟩
    | true =>
      refine iteF ⟨_, rfl, _, rfl, _, rfl, p, q, v, u, xs, ys, rows, d, rfl, C.same s12, hd.same s12, sd, so, fun H3 s3 => ⟨_, rfl, ?_⟩⟩
      have s13 := s12.trans s3
      obtain ⟨x, ds, rfl, _⟩ := sort_inv so
      obtain ⟨a, us, rfl, hs, ha⟩ := (hd.same s13).tup_inv
      cases ha with
      | cons h0 hds =>
      cases h0
      have i0 : ∀ vs : List V, atI (V.str x :: vs) 0 = some (V.str x) := fun vs => atI_nat (j := 0) rfl
      cases tl : toldD (upsO ys rows) (downsO ys rows) (.tuple (.str x :: ds)) with
      | false => exact iteT ⟨_, rfl, a, _, 0, .str x, rfl, rfl, hs, i0 _, _, rfl, fun dd hdd => (k _ s13).2.1 so tl dd hdd⟩
      | true => exact iteF ⟨_, rfl, a, _, 0, .str x, rfl, rfl, hs, i0 _, (k _ s13).1 so tl⟩
def spHeardK (K : PySem.W.Frag) : Sp := fun vs H Q _ => ∃ p q v u xs ys rows d, vs = [.ref p, .ref q, v, u] ∧ CArg K H p q v xs ys rows ∧ Dp K H u d ∧ SeqAt.shaped d = true ∧ ∀ H' r, Same H H' → NewV H r → Dp K H' r (heardD (upsO ys rows) (downsO ys rows) d) → Q r H'
theorem scLawHeard : FnScope ["one", "other", "costs_so", "sheet", "error"] ["one", "other", "costs_so", "sheet"] (defScope sLawHeard) := ⟨rfl, rfl, rfl, by decide +kernel, rfl, by decide +kernel, by decide +kernel⟩
theorem ok_law_heard {f f1 CP fI : Addr} {fd fd1 fdI : FuncData} (F : Df K mg "_law_heard" sLawHeard ["one", "other", "costs_so", "sheet"] f fd) (D1 : Df K mg "check_kind" sCheckKind ["one", "other", "costs", "paper"] f1 fd1) (G1 : FnOk P w K mg base (L2.CX P w) 9 f1 fd1 ["one", "other", "costs", "paper"] (spCheck K CP))
    (Z : Xc K mg "BadPaper" "part" CP fI bmV "ValueError.__new__" (inClass sBadPaper 0) "BadPaper.__init__" fdI) (xPP : PySem.W.exmOne K (.ref CP) (.ref CP) = some true) : FnOk P w K mg base CX0 10 f fd ["one", "other", "costs_so", "sheet"] (spHeardK K) := by
  refine F.F.ok scLawHeard (fun vs H Q E h => ?_) (fun cdv A outer s H vs Q E hr h => ?_)
  · obtain ⟨p, q, v, u, xs, ys, rows, d, rfl, _⟩ := h
    rfl
  · obtain ⟨p, q, v, u, xs, ys, rows, d, rfl, C, hd, sd, k⟩ := h
    refine ⟨_, pss_one (ps_tryx rfl rfl scLawHeard.nd takes0 (.named (i := 4) ⟨rfl, by decide, .inl Z.T.gC⟩ rfl rfl (fun a oe cls d pn hz hf => pss_one (ps_ret (pe_xf Z.T.xf Z.T.noF hz hf (pv 4)))) .nil)
        (fun W pn xe tk _ => pss_one (ps_ret (pe_lst (pa_cons (pe_callS G1 hr (by rfl) D1.g D1.F.kp D1.b (fun σ => passAt tk σ) (pa_cons (pv 0) (pa_cons (pv 1) (pa_cons (pv 2) (pa_cons (pv 3) pa_nil))))) pa_nil))))), ?_⟩
    refine ⟨_, rfl, _, rfl, _, rfl, _, rfl, p, q, v, u, xs, ys, rows, d, rfl, C, hd, sd, fun H1 s1 => ⟨fun so tl => ⟨(by show 1 ≤ sizeLine; decide), fun l nl => ?_⟩, fun so tl dd ndd => ⟨true, xPP, fun _ a na => ⟨_, rfl, rfl, rfl, dd, _, _, rfl, upd_same, rfl, ?_⟩, fun z => Bool.noConfusion z⟩, fun so dd ndd => ⟨true, xPP, fun _ a na => ⟨_, rfl, rfl, rfl, dd, _, _, rfl, upd_same, rfl, ?_⟩, fun z => Bool.noConfusion z⟩⟩⟩
    · refine k _ _ (s1.trans (Same.new nl)) (.of s1 nl) ?_
      unfold heardD
      rw [if_pos so, if_pos tl]
      exact Dp.new_lst nl (.cons (.str _) .nil)
    · refine k _ _ (s1.trans (Same.new ndd)) .str ?_
      unfold heardD
      rw [if_pos so, if_neg (by rw [tl]; exact Bool.false_ne_true)]
      exact .str _
    · refine k _ _ (s1.trans (Same.new ndd)) .str ?_
      unfold heardD
      rw [if_neg (by rw [so]; exact Bool.false_ne_true)]
      exact .str _
/-- whether a datum is an integer from one to another one -/
def inD (lo hi : Int) : PyData → Bool
  | .int i => decide (lo ≤ i) && decide (i ≤ hi)
  | _ => false
def spInD (K : PySem.W.Frag) : Sp := fun vs H Q _ => ∃ v d lo hi, vs = [v, .int lo, .int hi] ∧ Dp K H v d ∧ Q (.bl (inD lo hi d)) H
theorem scLawIsInt : FnScope ["thing", "least", "most"] ["thing", "least", "most"] (defScope sLawIsInt) := ⟨rfl, rfl, rfl, by decide +kernel, rfl, by decide +kernel, by decide +kernel⟩
theorem ok_law_is_int {f : Addr} {fd : FuncData} (F : Df K mg "_law_is_int" sLawIsInt ["thing", "least", "most"] f fd) (T : Bt mg) (mbool : mg "bool" = none) : FnOk P w K mg base CX0 1 f fd ["thing", "least", "most"] (spInD K) := by
  refine F.F.ok scLawIsInt (fun vs H Q E h => ?_) (fun cdv A outer s H vs Q E hr h => ?_)
  · obtain ⟨v, d, lo, hi, rfl, _⟩ := h
    rfl
  · obtain ⟨v, d, lo, hi, rfl, hd, k⟩ := h
    refine ⟨_, pss_one (ps_ret (pe_and (pe_callB call_isi (by rfl) T.isinstance (by decide +kernel) (pa_cons (pv 0) (pa_cons (pe_bltn (v := .ty "int") (by rfl) T.int (by decide +kernel) rfl) pa_nil)))
      (pe_and (pe_not (pe_callB call_isi (by rfl) T.isinstance (by decide +kernel) (pa_cons (pv 0) (pa_cons (pe_bltn (v := .ty "bool") (by rfl) mbool (by decide +kernel) rfl) pa_nil)))) (pe_one (pe_chain op_le op_le (pv 1) (pv 0) (pv 2)))))), ?_⟩
    refine ⟨_, rfl, _, _, _, _, _, rfl, .ty _, hd.ty, kit_ty (kit_int d hd.noDict), _, rfl, ?_⟩
    cases d with
    | int i =>
      cases hd
      refine iteT ⟨_, rfl, _, _, _, _, _, rfl, .ty _, .base (.int i), kit_ty (a := "int") (b := "bool") (r := false) (by decide +kernel), _, rfl, _, rfl, iteT ⟨_, rfl, _, rfl, _, _, rfl, rfl, _, rfl, ?_⟩⟩
      have kk : Q (.bl (decide (lo ≤ i) && decide (i ≤ hi))) H := k
      by_cases h1 : lo ≤ i
      · rw [decide_eq_true h1] at kk ⊢
        exact iteT ⟨_, rfl, _, _, rfl, rfl, kk⟩
      · rw [decide_eq_false h1] at kk ⊢
        exact iteF kk
    | bool b =>
      cases hd
      exact iteT ⟨_, rfl, _, _, _, _, _, rfl, .ty _, .base (.bl b), kit_ty (a := "bool") (b := "bool") (r := true) (by decide +kernel), _, rfl, _, rfl, iteF k⟩
    | none => exact iteF k
    | str x => exact iteF k
    | list ds => exact iteF k
    | tuple ds => exact iteF k
    | dict ds => exact iteF k
end
end CS
set_option Elab.async false
set_option maxRecDepth 100000
set_option maxHeartbeats 8000000
set_option linter.unusedVariables false
namespace CS
open PySem L2 StX
/-- two lists of places that grow at U and D; H0 stood ahead -/
def LB (K : PySem.W.Frag) (H0 : Hp) (U D : Addr) (pu pd : List (Nat × Nat)) (H : Hp) : Prop := Same H0 H ∧ ∃ us ds, H U = some (.lst us) ∧ H D = some (.lst ds) ∧ DpAll K H us (pu.map plD) ∧ DpAll K H ds (pd.map plD)
section
variable {K : PySem.W.Frag} {H0 H H1 : Hp} {U D : Addr} {pu pd : List (Nat × Nat)}
theorem LB.to (h : LB K H0 U D pu pd H) (s : Same H H1) : LB K H0 U D pu pd H1 := by
  obtain ⟨s0, us, ds, h1, h2, h3, h4⟩ := h
  exact ⟨s0.trans s, us, ds, s _ _ h1, s _ _ h2, h3.same s, h4.same s⟩
theorem LB.addU {p : Nat × Nat} {v : V} {us : List V} (nU : H0 U = none) (ne : D ≠ U) (h : LB K H0 U D pu pd H) (hu : H U = some (.lst us)) (hv : Dp K H v (plD p)) : LB K H0 U D (pu ++ [p]) pd (upd H U (.lst (us ++ [v]))) := by
  obtain ⟨s0, us2, ds, h1, h2, h3, h4⟩ := h
  rw [hu] at h1
  cases h1
  refine ⟨same_upd nU s0, _, ds, upd_same, by rw [upd_ne ne]; exact h2, ?_, DpAll.tk (tk_lst hu) (flat_pls _) h4⟩
  rw [List.map_append]
  exact DpAll.tk (tk_lst hu) (flatDs_app (flat_pls _) (flat_pls [p])) (h3.app (.cons hv .nil))
theorem LB.addD {p : Nat × Nat} {v : V} {ds : List V} (nD : H0 D = none) (ne : D ≠ U) (h : LB K H0 U D pu pd H) (hd : H D = some (.lst ds)) (hv : Dp K H v (plD p)) : LB K H0 U D pu (pd ++ [p]) (upd H D (.lst (ds ++ [v]))) := by
  obtain ⟨s0, us, ds2, h1, h2, h3, h4⟩ := h
  rw [hd] at h2
  cases h2
  refine ⟨same_upd nD s0, us, _, by rw [upd_ne (Ne.symm ne)]; exact h1, upd_same, DpAll.tk (tk_lst hd) (flat_pls _) h3, ?_⟩
  rw [List.map_append]
  exact DpAll.tk (tk_lst hd) (flatDs_app (flat_pls _) (flat_pls [p])) (h4.app (.cons hv .nil))
theorem LB.lenU {us : List V} (h : LB K H0 U D pu pd H) (hu : H U = some (.lst us)) : us.length = pu.length := by
  obtain ⟨s0, us2, ds, h1, h2, h3, h4⟩ := h
  rw [hu] at h1
  cases h1
  rw [h3.len, List.length_map]
theorem LB.lenD {ds : List V} (h : LB K H0 U D pu pd H) (hd : H D = some (.lst ds)) : ds.length = pd.length := by
  obtain ⟨s0, us2, ds, h1, h2, h3, h4⟩ := h
  rw [hd] at h2
  cases h2
  rw [h4.len, List.length_map]
end
theorem PrsAt.at {K : PySem.W.Frag} {H : Hp} : ∀ {vs : List V} {xs : List (Int × Fx)} {i : Nat} {a : Int × Fx}, PrsAt K H vs xs → xs[i]? = some a → ∃ q r, vs[i]? = some (.ref q) ∧ SqT K H q [.int a.1, .ref r]
  | _, _, 0, _, .cons a _ _, e => by
    cases e
    exact ⟨_, _, rfl, a⟩
  | _, _, i + 1, _, .cons _ _ c, e => by
    obtain ⟨q, r, h1, h2⟩ := PrsAt.at c (by simpa using e)
    exact ⟨q, r, by simpa using h1, h2⟩
/-- the places of a row that are found in the first j columns -/
def rowTo (ms rs : List Int) (way : Int) (i j : Nat) : List (Nat × Nat) := ((List.range j).filter fun j => decide (0 < bowL ms rs j * way)).map fun j => (i, j)
theorem rowTo_succ (ms rs : List Int) (way : Int) (i j : Nat) : rowTo ms rs way i (j + 1) = rowTo ms rs way i j ++ (if 0 < bowL ms rs j * way then [(i, j)] else []) := by
  unfold rowTo
  rw [List.range_succ, List.filter_append, List.map_append]
  by_cases h : 0 < bowL ms rs j * way
  · rw [if_pos h, List.filter_cons_of_pos (by simp [h])]
    rfl
  · rw [if_neg h, List.filter_cons_of_neg (by simp [h])]
    rfl
theorem rowTo_len (ms rs : List Int) (way : Int) (i j : Nat) : (rowTo ms rs way i j).length ≤ j := by
  unfold rowTo
  rw [List.length_map]
  have := List.length_filter_le (fun j => decide (0 < bowL ms rs j * way)) (List.range j)
  rw [List.length_range] at this
  exact this
section
variable {P : Program} {w : World} {K : PySem.W.Frag} {mg : Str → Option Value} {base : Heap}
def spLBends (K : PySem.W.Frag) : Sp := fun vs H Q _ => ∃ p q v xs ys rows, vs = [.ref p, .ref q, v] ∧ CArg K H p q v xs ys rows ∧ ∀ H' r a b, Same H H' → SqT K H' r [a, b] → Dp K H' a (.list ((upsO ys rows).map plD)) → Dp K H' b (.list ((downsO ys rows).map plD)) → Q (.ref r) H'
theorem scLawBends : FnScope ["one", "other", "costs_so", "ups", "downs", "row", "spot", "rises", "far", "near"] ["one", "other", "costs_so"] (defScope sLawBends) := ⟨rfl, rfl, rfl, by decide +kernel, rfl, by decide +kernel, by decide +kernel⟩
theorem ok_law_bends {f : Addr} {fd : FuncData} (F : Df K mg "_law_bends" sLawBends ["one", "other", "costs_so"] f fd) (T : Bt mg) : FnOk P w K mg base CX0 1 f fd ["one", "other", "costs_so"] (spLBends K) := by
  refine F.F.ok scLawBends (fun vs H Q E h => ?_) (fun cdv A outer s H vs Q E hr h => ?_)
  · obtain ⟨p, q, v, xs, ys, rows, rfl, _⟩ := h
    rfl
  · obtain ⟨p, q, v, xs, ys, rows, rfl, C, k⟩ := h
    refine ⟨_, pss_cons (ps_par (i := 3) (j := 4) (by rfl) scLawBends.nd rfl rfl (by decide) rfl rfl (pa_cons (pe_lst pa_nil) (pa_cons (pe_lst pa_nil) pa_nil)) (by rfl))
      (pss_cons (ps_for PassesOwn.never rfl (pi_range1 rfl T.range (pa_cons (pe_op op_sub (pe_callB (r := Evl.rLenS K) call_len_seq (by rfl) T.len PySem.boot_len (pa_cons (pv 0) pa_nil)) pe_int) pa_nil)) (pg_name (i := 5) scLawBends.nd rfl (Or.inr rfl)) (pss_one
        (ps_for PassesOwn.never rfl (pi_range1 rfl T.range (pa_cons (pe_op op_sub (pe_callB (r := Evl.rLenS K) call_len_seq (by rfl) T.len PySem.boot_len (pa_cons (pv 1) pa_nil)) pe_int) pa_nil)) (pg_name (i := 6) scLawBends.nd rfl (Or.inl rfl))
          (pss_cons (ps_setLc (i := 7) (own := [("far", 8)]) (g := gName 8) (tt := tYes) rfl scLawBends.nd rfl rfl (sw_true rfl rfl rfl (by decide +kernel)) (pi_tup (pe_tup (pa_cons (pv 6) (pa_cons (pe_op op_add (pv 6) pe_int) (pa_cons (pe_op op_add (pv 6) pe_int) pa_nil))))) (blkOk_by (N := ["one", "other", "costs_so", "ups", "downs", "row", "spot", "rises", "far", "near"]) (sc := defScope sLawBends) (by decide +kernel)) (fun _ _ _ _ _ => pg_name (i := 8) scLawBends.nd rfl (Or.inl rfl)) (fun _ _ _ _ _ => pts_nil) (fun _ _ _ _ _ => pe_op op_sub (pe_ix (r := rIxT K) ix_tup (pe_ix (r := rIxT K) ix_tup (pv 2) (pe_op op_add (pv 5) pe_int) (fun _ _ => rfl)) (pv 8) (fun _ _ => rfl)) (pe_ix (r := rIxT K) ix_tup (pe_ix (r := rIxT K) ix_tup (pv 2) (pv 5) (fun _ _ => rfl)) (pv 8) (fun _ _ => rfl))))
          (pss_cons (ps_set (i := 9) scLawBends.nd rfl (Or.inl rfl) (pe_op op_mul (pe_op op_sub (pe_ix ix_list (pv 7) pe_int (fun _ _ => rfl)) (pe_ix ix_list (pv 7) pe_int (fun _ _ => rfl))) (pe_op op_sub (pe_ix ix_tup (pe_ix ix_tup (pv 1) (pe_op op_add (pv 6) pe_int) (fun _ _ => rfl)) pe_int (fun _ _ => rfl)) (pe_ix ix_tup (pe_ix ix_tup (pv 1) (pe_op op_add (pv 6) pe_int) (fun _ _ => rfl)) pe_int (fun _ _ => rfl)))))
          (pss_cons (ps_set (i := 8) scLawBends.nd rfl (Or.inl rfl) (pe_op op_mul (pe_op op_sub (pe_ix ix_list (pv 7) pe_int (fun _ _ => rfl)) (pe_ix ix_list (pv 7) pe_int (fun _ _ => rfl))) (pe_op op_sub (pe_ix ix_tup (pe_ix ix_tup (pv 1) (pe_op op_add (pv 6) pe_int) (fun _ _ => rfl)) pe_int (fun _ _ => rfl)) (pe_ix ix_tup (pe_ix ix_tup (pv 1) (pv 6) (fun _ _ => rfl)) pe_int (fun _ _ => rfl)))))
          (pss_cons (ps_if (pt_cmpR op_lt (pv 9) (pv 8) (nomark _)) (pss_one (ps_expr (pe_bm PySem.F.plainAttrs_list PySem.F.slot_list_append PySem.F.type_list_append mt_append (pv 3) (pa_cons (pe_tup (pa_cons (pv 5) (pa_cons (pv 6) pa_nil))) pa_nil)))) pss_nil)
          (pss_one (ps_if (pt_cmpR op_gt (pv 9) (pv 8) (nomark _)) (pss_one (ps_expr (pe_bm PySem.F.plainAttrs_list PySem.F.slot_list_append PySem.F.type_list_append mt_append (pv 4) (pa_cons (pe_tup (pa_cons (pv 5) (pa_cons (pv 6) pa_nil))) pa_nil)))) pss_nil)))))))))
      (pss_one (ps_ret (pe_tup (pa_cons (pv 3) (pa_cons (pv 4) pa_nil)))))), ?_⟩
    obtain ⟨hx, hy, sx, sy, hc, ok⟩ := id C
    obtain ⟨vx, hvx, hpx⟩ := hx
    obtain ⟨vy, hvy, hpy⟩ := hy
    have lx := hpx.len
    have ly := hpy.len
    have x8 := sx.1
    have y8 := sy.1
    obtain ⟨ms, ems⟩ : ∃ ms, ms = ys.map (·.1) := ⟨_, rfl⟩
    have lms : ms.length = ys.length := by rw [ems, List.length_map]
    have sms : ∀ a ∈ ms, a.natAbs ≤ 200 := fun a ha => by
      rw [ems] at ha
      obtain ⟨z, hz, rfl⟩ := List.mem_map.mp ha
      exact sy.abs z hz
    have rl := ok.len
    unfold costD at hc
    obtain ⟨a, us, rfl, hs, ha⟩ := hc.tup_inv
    refine ⟨(by show 0 ≤ sizeLine; decide), fun U nU => ⟨(by show 0 ≤ sizeLine; decide), fun D nD => ⟨_, _, rfl, ?_⟩⟩⟩
    have sU := Same.new (o := .lst []) nU
    have sD := Same.new (o := .lst []) nD
    have ne : D ≠ U := fun z => by
      rw [z, upd_same] at nD
      cases nD
    have nD0 : H D = none := by
      rw [upd_ne ne] at nD
      exact nD
    have L0 : LB K H U D [] [] (upd (upd H U (.lst [])) D (.lst [])) := ⟨sU.trans sD, [], [], by rw [upd_ne (Ne.symm ne)]; exact upd_same, upd_same, .nil, .nil⟩
    refine ⟨_, rfl, p, vx, rfl, .inr ((sU.trans sD).tup hvx), _, _, rfl, rfl, _, rfl, by omega, by omega, ?_⟩
    refine for_range (lo := 0) (n := ((vx.length : Int) - 1).toNat) (fun i σ H' => ∃ v5 v6 v7 v8 v9, σ = [some (.ref p), some (.ref q), some (.ref a), some (.ref U), some (.ref D), v5, v6, v7, v8, v9] ∧ LB K H U D (bendsL ms rows 1 i) (bendsL ms rows (-1) i) H') ⟨none, none, none, none, none, rfl, L0⟩ ?_ ?_
    · rintro i σ H1 hi ⟨v5, v6, v7, v8, v9, rfl, L1⟩
      have hi2 : i + 1 < rows.length := by omega
      obtain ⟨R0, r0⟩ : ∃ R, rows[i]? = some R := ⟨_, List.getElem?_eq_getElem (show i < rows.length by omega)⟩
      obtain ⟨R1, r1⟩ : ∃ R, rows[i + 1]? = some R := ⟨_, List.getElem?_eq_getElem hi2⟩
      have m0 : R0 ∈ rows := List.mem_of_getElem? r0
      have m1 : R1 ∈ rows := List.mem_of_getElem? r1
      obtain ⟨u0, hu0, hd0⟩ := ha.at (i := i) (by rw [List.getElem?_map, r0]; rfl)
      obtain ⟨u1, hu1, hd1⟩ := ha.at (i := i + 1) (by rw [List.getElem?_map, r1]; rfl)
      obtain ⟨a0, x0, rfl, hs0, ha0⟩ := hd0.tup_inv
      obtain ⟨a1, x1, rfl, hs1, ha1⟩ := hd1.tup_inv
      have e0 := ha0.of_ints
      have e1 := ha1.of_ints
      subst e0 e1
      have w0 := ok.wide _ m0
      have w1 := ok.wide _ m1
      obtain ⟨rs, ers⟩ : ∃ rs, rs = riseL R0 R1 := ⟨_, rfl⟩
      have lrs : rs.length = ys.length := by rw [ers]; exact riseL_len w0 w1
      have srs : ∀ c ∈ rs, c.natAbs ≤ 2000 := by rw [ers]; exact riseL_small (ok.small _ m0) (ok.small _ m1)
      rw [Int.zero_add]
      refine ⟨_, rfl, q, vy, rfl, .inr (L1.1.tup hvy), _, _, rfl, rfl, _, rfl, by omega, by omega, ?_⟩
      refine for_range (lo := 0) (n := ((vy.length : Int) - 2).toNat) (fun j σ H' => ∃ v6 v7 v8 v9, σ = [some (.ref p), some (.ref q), some (.ref a), some (.ref U), some (.ref D), some (.int (i : Int)), v6, v7, v8, v9] ∧ LB K H U D (bendsL ms rows 1 i ++ rowTo ms rs 1 i j) (bendsL ms rows (-1) i ++ rowTo ms rs (-1) i j) H') ⟨v6, v7, v8, v9, rfl, by rw [show rowTo ms rs 1 i 0 = [] from rfl, show rowTo ms rs (-1) i 0 = [] from rfl, List.append_nil, List.append_nil]; exact L1⟩ ?_ ?_
      · rintro j σ H2 hj ⟨v6, v7, v8, v9, rfl, L2⟩
        have hj3 : j + 3 ≤ ys.length := by omega
        rw [Int.zero_add]
        refine ⟨_, rfl, _, rfl, _, _, rfl, rfl, _, rfl, _, _, rfl, rfl, (by show 3 ≤ sizeLine; decide), fun t nt => ?_⟩
        have st := Same.new (o := .tup [V.int (j : Int), V.int ((j : Int) + 1), V.int ((j : Int) + 2)]) nt
        have L3 := L2.to st
        have ht : SqT K (upd H2 t (.tup [V.int (j : Int), V.int ((j : Int) + 1), V.int ((j : Int) + 2)])) t [V.int (j : Int), V.int ((j : Int) + 1), V.int ((j : Int) + 2)] := SqT.of upd_same
        generalize upd H2 t (.tup [V.int (j : Int), V.int ((j : Int) + 1), V.int ((j : Int) + 2)]) = H3 at *
        have g0 := at0_get (show j < rs.length by omega)
        have g1 := at0_get (show j + 1 < rs.length by omega)
        have g2 := at0_get (show j + 2 < rs.length by omega)
        refine ⟨t, rfl, ⟨_, ht⟩, fun R nR => lc_tup (K := K) (a := t) (xs := [V.int (j : Int), V.int ((j : Int) + 1), V.int ((j : Int) + 2)]) (fun n H' => LcD K H3 R (([at0 rs j, at0 rs (j + 1), at0 rs (j + 2)].take n).map PyData.int) H') (LcD.start nR) (fun n H' _ h => h.same.tup ht) ?_ ?_⟩
        · rintro n x H4 hn h
          obtain ⟨m, rfl, hm, hmn⟩ : ∃ m : Nat, x = V.int (m : Int) ∧ m < rs.length ∧ [at0 rs j, at0 rs (j + 1), at0 rs (j + 2)][n]? = some (at0 rs m) := by
            match n, hn with
            | 0, e => exact ⟨j, (Option.some.inj e).symm, by omega, rfl⟩
            | 1, e => exact ⟨j + 1, (Option.some.inj e).symm, by omega, rfl⟩
            | 2, e => exact ⟨j + 2, (Option.some.inj e).symm, by omega, rfl⟩
          have sH := L3.1.trans h.same
          have gm := at0_get hm
          rw [ers] at gm
          unfold riseL at gm
          rw [List.getElem?_zipWith] at gm
          obtain ⟨z0, c0⟩ : ∃ z, R0[m]? = some z := ⟨_, List.getElem?_eq_getElem (show m < R0.length by omega)⟩
          obtain ⟨z1, c1⟩ : ∃ z, R1[m]? = some z := ⟨_, List.getElem?_eq_getElem (show m < R1.length by omega)⟩
          rw [c0, c1] at gm
          have em : z1 - z0 = at0 rs m := by
            have := Option.some.inj gm
            rw [ers]
            exact this
          refine ⟨rfl, ?_⟩
          dsimp only [tYes]
          rw [if_pos rfl]
          refine ⟨_, rfl, _, rfl, _, _, rfl, rfl, a, us, _, .ref a1, rfl, rfl, sH.tup hs, (by exact atI_nat (j := i + 1) hu1), _, rfl, a1, _, _, .int z1, rfl, rfl, sH.tup hs1, atI_nat (by rw [List.getElem?_map, c1]; rfl), _, rfl, _, rfl, a, us, _, .ref a0, rfl, rfl, sH.tup hs, atI_nat hu0, _, rfl, a0, _, _, .int z0, rfl, rfl, sH.tup hs0, atI_nat (by rw [List.getElem?_map, c0]; rfl), _, _, rfl, rfl, ?_⟩
          dsimp only
          rw [em, take_snoc hmn, List.map_append]
          exact LcD.step nR h (Same.refl H4) (.int _) (flatDs_ints _) rfl (by rw [List.length_map, List.length_take]; simp; omega)
        · intro H4 h
          have hR := SqL.of (K := K) (show H4 R = some (.lst ([at0 rs j, at0 rs (j + 1), at0 rs (j + 2)].map V.int)) from h.ints)
          have L4 := L3.to h.same
          have s4 := L4.1
          have n0 := at0_get (ns := ms) (j := j) (by omega)
          have n1 := at0_get (ns := ms) (j := j + 1) (by omega)
          have n2 := at0_get (ns := ms) (j := j + 2) (by omega)
          rw [ems, List.getElem?_map] at n0 n1 n2
          obtain ⟨y0, f0⟩ : ∃ y, ys[j]? = some y := ⟨_, List.getElem?_eq_getElem (show j < ys.length by omega)⟩
          obtain ⟨y1, f1⟩ : ∃ y, ys[j + 1]? = some y := ⟨_, List.getElem?_eq_getElem (show j + 1 < ys.length by omega)⟩
          obtain ⟨y2, f2⟩ : ∃ y, ys[j + 2]? = some y := ⟨_, List.getElem?_eq_getElem (show j + 2 < ys.length by omega)⟩
          rw [f0, ← ems] at n0
          rw [f1, ← ems] at n1
          rw [f2, ← ems] at n2
          have k0 : y0.1 = at0 ms j := Option.some.inj n0
          have k1 : y1.1 = at0 ms (j + 1) := Option.some.inj n1
          have k2 : y2.1 = at0 ms (j + 2) := Option.some.inj n2
          obtain ⟨q0, b0, i0, t0⟩ := hpy.at f0
          obtain ⟨q1, b1, i1, t1⟩ := hpy.at f1
          obtain ⟨q2, b2, i2, t2⟩ := hpy.at f2
          have z0 := sms _ (at0_mem (ns := ms) (j := j) (by omega))
          have z1 := sms _ (at0_mem (ns := ms) (j := j + 1) (by omega))
          have z2 := sms _ (at0_mem (ns := ms) (j := j + 2) (by omega))
          refine ⟨_, rfl, R, _, 1, .int (at0 rs (j + 1)), rfl, rfl, hR, atI_nat (j := 1) rfl, _, rfl, R, _, 0, .int (at0 rs j), rfl, rfl, hR, atI_nat (j := 0) rfl, _, _, rfl, rfl, ?_⟩
          refine ⟨_, rfl, _, rfl, _, _, rfl, rfl, q, vy, _, .ref q2, rfl, rfl, s4.tup hvy, (by exact atI_nat (j := j + 2) i2), q2, _, 0, .int y2.1, rfl, rfl, s4.tup t2, atI_nat (j := 0) rfl, _, rfl, _, rfl, _, _, rfl, rfl, q, vy, _, .ref q1, rfl, rfl, s4.tup hvy, (by exact atI_nat (j := j + 1) i1), q1, _, 0, .int y1.1, rfl, rfl, s4.tup t1, atI_nat (j := 0) rfl, _, _, rfl, rfl, _, _, rfl, rfl, .inr (by omega), ?_⟩
          refine ⟨_, rfl, R, _, 2, .int (at0 rs (j + 2)), rfl, rfl, hR, atI_nat (j := 2) rfl, _, rfl, R, _, 1, .int (at0 rs (j + 1)), rfl, rfl, hR, atI_nat (j := 1) rfl, _, _, rfl, rfl, ?_⟩
          refine ⟨_, rfl, _, rfl, _, _, rfl, rfl, q, vy, _, .ref q1, rfl, rfl, s4.tup hvy, (by exact atI_nat (j := j + 1) i1), q1, _, 0, .int y1.1, rfl, rfl, s4.tup t1, atI_nat (j := 0) rfl, _, rfl, _, rfl, q, vy, _, .ref q0, rfl, rfl, s4.tup hvy, atI_nat i0, q0, _, 0, .int y0.1, rfl, rfl, s4.tup t0, atI_nat (j := 0) rfl, _, _, rfl, rfl, _, _, rfl, rfl, .inr (by omega), ?_⟩
          dsimp only
          rw [k0, k1, k2]
          obtain ⟨nr, enr⟩ : ∃ z, z = (at0 rs (j + 1) - at0 rs j) * (at0 ms (j + 2) - at0 ms (j + 1)) := ⟨_, rfl⟩
          obtain ⟨fr, efr⟩ : ∃ z, z = (at0 rs (j + 2) - at0 rs (j + 1)) * (at0 ms (j + 1) - at0 ms j) := ⟨_, rfl⟩
          have eb : bowL ms rs j = fr - nr := by unfold bowL; rw [enr, efr]
          rw [← enr, ← efr]
          refine ⟨_, rfl, _, rfl, _, _, rfl, rfl, _, rfl, ?_⟩
          rw [rowTo_succ, rowTo_succ, ← List.append_assoc, ← List.append_assoc, eb]
          obtain ⟨us4, ds4, hU4, hD4, _, _⟩ := L4.2
          have lU := L4.lenU hU4
          have lD := L4.lenD hD4
          have bU := bendsL_len ms rows 1 i
          have bD := bendsL_len ms rows (-1) i
          have cU := rowTo_len ms rs 1 i j
          have cD := rowTo_len ms rs (-1) i j
          have b64 : i * ms.length ≤ 8 * 8 := Nat.mul_le_mul (by omega) (by omega)
          rw [List.length_append] at lU lD
          by_cases h1 : nr < fr
          · rw [decide_eq_true h1, if_pos (show 0 < (fr - nr) * 1 by omega), if_neg (show ¬ 0 < (fr - nr) * -1 by omega), List.append_nil]
            refine iteT ⟨_, rfl, .inl ⟨rfl, _, SqL.of hU4⟩, _, rfl, _, rfl, (by show 2 ≤ sizeLine; decide), fun t5 nt5 => ?_⟩
            have s5 := Same.new (o := .tup [V.int (i : Int), V.int (j : Int)]) nt5
            have hv5 : Dp K (upd H4 t5 (.tup [V.int (i : Int), V.int (j : Int)])) (.ref t5) (plD (i, j)) := by
              refine .tup (SqT.of upd_same) ?_
              exact .cons (.int _) (.cons (.int _) .nil)
            refine ⟨U, _, _, rfl, rfl, s5 _ _ hU4, small1000 (by omega), ?_⟩
            refine ⟨_, rfl, _, rfl, _, _, rfl, rfl, _, rfl, ?_⟩
            rw [decide_eq_false (show ¬ fr < nr by omega)]
            exact iteF ⟨_, _, _, _, rfl, (L4.to s5).addU nU ne (s5 _ _ hU4) hv5⟩
          · rw [decide_eq_false h1, if_neg (show ¬ 0 < (fr - nr) * 1 by omega), List.append_nil]
            refine iteF ⟨_, rfl, _, rfl, _, _, rfl, rfl, _, rfl, ?_⟩
            by_cases h2 : fr < nr
            · rw [decide_eq_true h2, if_pos (show 0 < (fr - nr) * -1 by omega)]
              refine iteT ⟨_, rfl, .inl ⟨rfl, _, SqL.of hD4⟩, _, rfl, _, rfl, (by show 2 ≤ sizeLine; decide), fun t5 nt5 => ?_⟩
              have s5 := Same.new (o := .tup [V.int (i : Int), V.int (j : Int)]) nt5
              have hv5 : Dp K (upd H4 t5 (.tup [V.int (i : Int), V.int (j : Int)])) (.ref t5) (plD (i, j)) := by
                refine .tup (SqT.of upd_same) ?_
                exact .cons (.int _) (.cons (.int _) .nil)
              refine ⟨D, _, _, rfl, rfl, s5 _ _ hD4, small1000 (by omega), ?_⟩
              exact ⟨_, _, _, _, rfl, (L4.to s5).addD nD0 ne (s5 _ _ hD4) hv5⟩
            · rw [decide_eq_false h2, if_neg (show ¬ 0 < (fr - nr) * -1 by omega), List.append_nil]
              exact iteF ⟨_, _, _, _, rfl, L4⟩
      · rintro σ H2 ⟨v6, v7, v8, v9, rfl, L2⟩
        have e : ∀ way, bendsL ms rows way (i + 1) = bendsL ms rows way i ++ rowTo ms rs way i ((vy.length : Int) - 2).toNat := fun way => by
          rw [bendsL_succ]
          unfold bendRow rowTo
          rw [show rows.getD i [] = R0 from by rw [List.getD_eq_getElem?_getD, r0]; rfl, show rows.getD (i + 1) [] = R1 from by rw [List.getD_eq_getElem?_getD, r1]; rfl, ← ers, lms, show ((vy.length : Int) - 2).toNat = ys.length - 2 from by omega]
        refine ⟨_, _, _, _, _, rfl, ?_⟩
        rw [e, e]
        exact L2
    · rintro σ H1 ⟨v5, v6, v7, v8, v9, rfl, L1⟩
      refine ⟨_, rfl, _, rfl, (by show 2 ≤ sizeLine; decide), fun t nt => ?_⟩
      have st := Same.new (o := .tup [V.ref U, V.ref D]) nt
      obtain ⟨s2, us2, ds2, g1, g2, g3, g4⟩ := L1.to st
      have en : ((vx.length : Int) - 1).toNat = rows.length - 1 := by omega
      rw [en] at g3 g4
      refine k _ t (.ref U) (.ref D) s2 (SqT.of upd_same) (.lst (SqL.of g1) ?_) (.lst (SqL.of g2) ?_)
      · unfold upsO bendsT
        rw [← ems]
        exact g3
      · unfold downsO bendsT
        rw [← ems]
        exact g4
end
end CS
set_option Elab.async false
set_option maxRecDepth 100000
set_option maxHeartbeats 8000000
set_option linter.unusedVariables false
namespace CS
open PySem L2 StX
theorem in_whole {d : PyData} (h : inD 0 99 d = true) : wholeD d = true := by
  cases d <;> first | rfl | cases h
theorem hasPl_in {ps : List (Nat × Nat)} {a b : PyData} (hp : ∀ p ∈ ps, p.1 ≤ 99 ∧ p.2 ≤ 99) (wa : wholeD a = true) (wb : wholeD b = true) (h : hasPl ps (.tuple [a, b]) = true) : inD 0 99 a = true ∧ inD 0 99 b = true := by
  obtain ⟨z, hz, e⟩ := List.any_eq_true.mp h
  obtain ⟨p, hp1, rfl⟩ := List.mem_map.mp hz
  obtain ⟨h1, h2⟩ := hp p hp1
  cases a with
  | int i =>
    cases b with
    | int j =>
      have e2 : (p.1 : Int) = i ∧ (p.2 : Int) = j := by simpa [plD, PyData.eqv, PyData.eqvAll] using e
      simp only [inD, Bool.and_eq_true, decide_eq_true_eq]
      omega
    | _ => cases wb
  | _ => cases wa
theorem mixed_eq {ups downs : List (Nat × Nat)} {a b c e : PyData} (hu : ∀ p ∈ ups, p.1 ≤ 99 ∧ p.2 ≤ 99) (hd : ∀ p ∈ downs, p.1 ≤ 99 ∧ p.2 ≤ 99) :
    toldD ups downs (.tuple [.str "mixed", a, b, c, e]) = ([a, b, c, e].all (inD 0 99) && (hasPl ups (.tuple [a, b]) && hasPl downs (.tuple [c, e]))) := by
  have e0 : toldD ups downs (.tuple [.str "mixed", a, b, c, e]) = ([a, b, c, e].all wholeD && (hasPl ups (.tuple [a, b]) && hasPl downs (.tuple [c, e]))) := by
    rw [toldD, if_pos rfl]
    rfl
  rw [e0]
  cases w : [a, b, c, e].all wholeD with
  | false =>
    cases i : [a, b, c, e].all (inD 0 99) with
    | false => rfl
    | true =>
      simp only [List.all_cons, List.all_nil, Bool.and_true, Bool.and_eq_true] at i
      simp [in_whole i.1, in_whole i.2.1, in_whole i.2.2.1, in_whole i.2.2.2] at w
  | true =>
    simp only [List.all_cons, List.all_nil, Bool.and_true, Bool.and_eq_true] at w
    cases h1 : hasPl ups (.tuple [a, b]) with
    | false => simp
    | true =>
      cases h2 : hasPl downs (.tuple [c, e]) with
      | false => simp
      | true =>
        obtain ⟨i1, i2⟩ := hasPl_in hu w.1 w.2.1 h1
        obtain ⟨i3, i4⟩ := hasPl_in hd w.2.2.1 w.2.2.2 h2
        simp [i1, i2, i3, i4]
theorem bendsL_in {ms : List Int} {rows : List (List Int)} {way : Int} (hm : ms.length ≤ 99) : ∀ {n : Nat}, n ≤ 99 → ∀ p ∈ bendsL ms rows way n, p.1 ≤ 99 ∧ p.2 ≤ 99
  | 0, _, p, h => by cases h
  | n + 1, hn, p, h => by
    rw [bendsL_succ] at h
    rcases List.mem_append.mp h with q | q
    · exact bendsL_in hm (by omega) p q
    · unfold bendRow at q
      obtain ⟨j, hj, rfl⟩ := List.mem_map.mp q
      have := List.mem_range.mp (List.mem_filter.mp hj).1
      exact ⟨by show n ≤ 99; omega, by show j ≤ 99; omega⟩
theorem eqv_list_nil (ds : List PyData) : PyData.eqv (.list ds) (.list []) = ds.isEmpty := by
  cases ds <;> simp [PyData.eqv, PyData.eqvAll]
theorem eqv_tup_nil (ds : List PyData) : PyData.eqv (.tuple ds) (.tuple []) = ds.isEmpty := by
  cases ds <;> simp [PyData.eqv, PyData.eqvAll]
theorem shaped_list {ds : List PyData} (h : SeqAt.shaped (.tuple ds) = true) : SeqAt.shaped (.list ds) = true := by
  have h1 := SeqAt.canLay_of_shaped h
  have h2 := SeqAt.depth_of_shaped h
  simp only [PyData.canLay0] at h1
  simp only [PyData.depth] at h2
  refine Bool.and_eq_true_iff.mpr ⟨?_, decide_eq_true ?_⟩
  · simp only [PyData.canLay0, h1]
  · simp only [PyData.depth]
    omega
theorem shaped_ones : ∀ n : Nat, SeqAt.shaped (.list (List.replicate n (.int 1))) = true := fun n => by
  have h : ∀ n : Nat, PyData.canLayAll0 (List.replicate n (.int 1)) = true ∧ PyData.depthAll (List.replicate n (.int 1)) = 0 := fun n => by
    induction n with
    | zero => exact ⟨rfl, rfl⟩
    | succ n ih =>
      rw [List.replicate_succ]
      refine ⟨?_, ?_⟩
      · simp only [PyData.canLayAll0, PyData.canLay0, ih.1, Bool.and_true]
      · simp only [PyData.depthAll, PyData.depth, ih.2, Nat.max_self]
  refine Bool.and_eq_true_iff.mpr ⟨?_, decide_eq_true ?_⟩
  · simp only [PyData.canLay0, (h n).1]
  · simp only [PyData.depth, (h n).2]
    omega
theorem flat_ones : ∀ n : Nat, flatDs (List.replicate n (.int 1)) = true
  | 0 => rfl
  | n + 1 => by
    rw [List.replicate_succ]
    show (flatD (.int 1) && flatDs (List.replicate n (.int 1))) = true
    rw [flat_ones n]
    rfl
section
variable {P : Program} {w : World} {K : PySem.W.Frag} {mg : Str → Option Value} {base : Heap}
theorem scLawDue : FnScope ["one", "other", "costs_so", "sheet", "ups", "downs", "spot"] ["one", "other", "costs_so", "sheet"] (defScope sLawDue) := ⟨rfl, rfl, rfl, by decide +kernel, rfl, by decide +kernel, by decide +kernel⟩
theorem ok_law_due {f f1 f2 : Addr} {fd fd1 fd2 : FuncData} (F : Df K mg "_law_due" sLawDue ["one", "other", "costs_so", "sheet"] f fd) (D1 : Df K mg "_law_bends" sLawBends ["one", "other", "costs_so"] f1 fd1) (G1 : FnOk P w K mg base CX0 1 f1 fd1 ["one", "other", "costs_so"] (spLBends K)) (D2 : Df K mg "_law_is_int" sLawIsInt ["thing", "least", "most"] f2 fd2) (G2 : FnOk P w K mg base CX0 1 f2 fd2 ["thing", "least", "most"] (spInD K)) (T : Bt mg) (mstr : mg "str" = none) : FnOk P w K mg base CX0 2 f fd ["one", "other", "costs_so", "sheet"] (spHeardK K) := by
  refine F.F.ok scLawDue (fun vs H Q E h => ?_) (fun cdv A outer s H vs Q E hr h => ?_)
  · obtain ⟨p, q, v, u, xs, ys, rows, d, rfl, _⟩ := h
    rfl
  · obtain ⟨p, q, v, u, xs, ys, rows, d, rfl, C, hd, sd, k⟩ := h
    have hu65 : (A.deeper (PyProof.Rows.envOfC "_law_due" (defScope sLawDue) s.heap.objs.size f cdv)).units + 65 < cLine := by have := hr.un; omega
    refine ⟨_, pss_cons (ps_if (PW.pt (pw_or (pt_not (pt_val (pe_callB call_isi (by rfl) T.isinstance (by decide +kernel) (pa_cons (pv 3) (pa_cons (pe_bltn (v := .ty "tuple") (by rfl) T.tuple (by decide +kernel) rfl) pa_nil))))) (pw_or (pt_cmpR (op_eqD hr.units) (pv 3) (pe_tup pa_nil) (nomark _)) (pw_or1 (pt_not (pt_val (pe_callB call_isi (by rfl) T.isinstance (by decide +kernel) (pa_cons (pe_ix ix_tup (pv 3) pe_int (fun _ _ => rfl)) (pa_cons (pe_bltn (v := .ty "str") (by rfl) mstr (by decide +kernel) rfl) pa_nil))))))))) (pss_one (ps_ret pe_str)) pss_nil)
      (pss_cons (ps_if (pt_cmpR (op_notT hr.units) (pe_tup (pa_cons (pe_ix ix_tup (pv 3) pe_int (fun _ _ => rfl)) (pa_cons (pe_callB call_len_seq (by rfl) T.len PySem.boot_len (pa_cons (pv 3) pa_nil)) pa_nil))) (pe_tup (pa_cons (pe_tup (pa_cons pe_str (pa_cons pe_int pa_nil))) (pa_cons (pe_tup (pa_cons pe_str (pa_cons pe_int pa_nil))) (pa_cons (pe_tup (pa_cons pe_str (pa_cons pe_int pa_nil))) (pa_cons (pe_tup (pa_cons pe_str (pa_cons pe_int pa_nil))) pa_nil))))) (by rfl)) (pss_one (ps_ret pe_str)) pss_nil)
      (pss_cons (ps_asg (pe_call G1 hr (by rfl) D1.g D1.F.kp D1.b .nil pass0 (pa_cons (pv 0) (pa_cons (pv 1) (pa_cons (pv 2) pa_nil)))) (pg_tup rfl (pgs_cons (pg_name (i := 4) scLawDue.nd rfl (Or.inl rfl)) (pgs_cons (pg_name (i := 5) scLawDue.nd rfl (Or.inl rfl)) pgs_nil))))
      (pss_cons (ps_if (pt_cmpR op_eq (pe_ix ix_tup (pv 3) pe_int (fun _ _ => rfl)) pe_str (nomark _)) (pss_cons (ps_if (pt_cmpR (op_neD hr.units) (pe_lc (own := [("spot", 6)]) (g := gName 6) (tt := _) rfl scLawDue.nd (pi_tup (pe_slice sl_data (pv 3) (po_some pe_int) po_none)) (blkOk_by (N := ["one", "other", "costs_so", "sheet", "ups", "downs", "spot"]) (sc := defScope sLawDue) (by decide +kernel)) (fun _ _ _ _ _ => pg_name (i := 6) scLawDue.nd rfl (Or.inl rfl)) (fun _ _ _ _ _ => pts_one (pt_not (pt_val (pe_call G2 hr (by rfl) D2.g D2.F.kp D2.b .nil pass0 (pa_cons (pv 6) (pa_cons pe_int (pa_cons pe_int pa_nil))))))) (fun _ _ _ _ _ => pe_int)) (pe_lst pa_nil) (nomark _)) (pss_one (ps_ret pe_str)) pss_nil)
          (pss_one (ps_ret (pe_ifExp (PW.pt (pw_and (pt_cmpR (op_memL hu65) (pe_slice sl_data (pv 3) (po_some pe_int) (po_some pe_int)) (pv 4) (by rfl)) (pw_and1 (pt_cmpR (op_memL hu65) (pe_slice sl_data (pv 3) (po_some pe_int) po_none) (pv 5) (by rfl))))) (pe_lst (pa_cons pe_str pa_nil)) pe_str)))) pss_nil)
      (pss_cons (ps_if (PW.pt (pw_or (PW.pt (pw_and (pt_cmpR op_ne (pe_ix ix_tup (pv 3) pe_int (fun _ _ => rfl)) pe_str (nomark _)) (pw_and1 (pt_cmpR (op_neD hr.units) (pv 4) (pe_lst pa_nil) (nomark _))))) (pw_or1 (PW.pt (pw_and (pt_cmpR op_ne (pe_ix ix_tup (pv 3) pe_int (fun _ _ => rfl)) pe_str (nomark _)) (pw_and1 (pt_cmpR (op_neD hr.units) (pv 5) (pe_lst pa_nil) (nomark _)))))))) (pss_one (ps_ret (pe_ix ix_tup (pv 3) pe_int (fun _ _ => rfl)))) pss_nil)
      (pss_one (ps_ret (pe_lst (pa_cons (pe_ix ix_tup (pv 3) pe_int (fun _ _ => rfl)) pa_nil)))))))), ?_⟩
    have kf : sortD kindSorts d = false → ∀ H', Same H H' → Q (.str "form") H' := fun so H' s' => by
      refine k H' _ s' .str ?_
      unfold heardD
      rw [if_neg (by rw [so]; exact Bool.false_ne_true)]
      exact .str _
    have kt : sortD kindSorts d = true → toldD (upsO ys rows) (downsO ys rows) d = true → ∀ H' r, Same H H' → NewV H r → Dp K H' r (.list [.str (headD d)]) → Q r H' := fun so tl H' r s' nr' hr' => by
      refine k H' _ s' nr' ?_
      unfold heardD
      rw [if_pos so, if_pos tl]
      exact hr'
    have kw : sortD kindSorts d = true → toldD (upsO ys rows) (downsO ys rows) d = false → ∀ H', Same H H' → Q (.str (headD d)) H' := fun so tl H' s' => by
      refine k H' _ s' .str ?_
      unfold heardD
      rw [if_pos so, if_neg (by rw [tl]; exact Bool.false_ne_true)]
      exact .str _
    have r0 := Same.refl H
    refine ⟨_, rfl, _, _, _, _, _, rfl, .ty _, hd.ty, kit_ty (kit_tuple d hd.noDict), _, rfl, ?_⟩
    cases d with
    | str x => exact iteT (kf rfl _ r0)
    | int i => exact iteT (kf rfl _ r0)
    | bool b => exact iteT (kf rfl _ r0)
    | none => exact iteT (kf rfl _ r0)
    | list ds => exact iteT (kf rfl _ r0)
    | dict ds => exact iteT (kf rfl _ r0)
    | tuple ds =>
      refine iteF ⟨_, rfl, (by show 0 ≤ sizeLine; decide), fun t0 n0 => ⟨_, _, hd.same (Same.new n0), .tup (SqT.of upd_same) .nil, sd, (by decide), _, rfl, ?_⟩⟩
      rw [eqv_tup_nil]
      have s0 := Same.new (o := .tup []) n0
      cases ds with
      | nil => exact iteT (kf rfl _ s0)
      | cons d0 ds =>
        obtain ⟨a, xs', rfl, hs, ha⟩ := (hd.same s0).tup_inv
        generalize upd H t0 (.tup []) = H0 at *
        cases ha with
        | @cons v0 vs0 _ _ h0 hds =>
        have i0 : atI (v0 :: vs0) 0 = some v0 := atI_nat (j := 0) rfl
        refine iteF ⟨_, rfl, a, _, 0, v0, rfl, rfl, hs, i0, _, _, _, _, _, rfl, .ty _, h0.ty, kit_ty (kit_str d0 h0.noDict), _, rfl, ?_⟩
        cases d0 with
        | int i => exact iteT (kf rfl _ s0)
        | bool b => exact iteT (kf rfl _ s0)
        | none => exact iteT (kf rfl _ s0)
        | list l => exact iteT (kf rfl _ s0)
        | dict l => exact iteT (kf rfl _ s0)
        | tuple l => exact iteT (kf rfl _ s0)
        | str x =>
          cases h0
          have hl := hds.len
          refine iteF ⟨_, rfl, a, _, 0, .str x, rfl, rfl, hs, i0, _, rfl, a, _, rfl, .inr hs, (by show 2 ≤ sizeLine; decide), fun t1 n1 => ⟨(by show 2 ≤ sizeLine; decide), fun t2 n2 => ⟨(by show 2 ≤ sizeLine; decide), fun t3 n3 => ⟨(by show 2 ≤ sizeLine; decide), fun t4 n4 => ⟨(by show 2 ≤ sizeLine; decide), fun t5 n5 => ⟨(by show 4 ≤ sizeLine; decide), fun t6 n6 => ?_⟩⟩⟩⟩⟩⟩
          have p1 := Dp.new_tup (K := K) (ds := [.str x, .int (((V.str x :: vs0).length : Nat) : Int)]) n1 (.cons (.str x) (.cons (.int _) .nil))
          have e1 := Same.new (o := .tup [V.str x, V.int (((V.str x :: vs0).length : Nat) : Int)]) n1
          generalize upd H0 t1 (.tup [V.str x, V.int (((V.str x :: vs0).length : Nat) : Int)]) = H1 at *
          have p2 := Dp.new_tup (K := K) (ds := [.str "down", .int 1]) n2 (.cons (.str _) (.cons (.int _) .nil))
          have e2 := Same.new (o := .tup [V.str "down", V.int 1]) n2
          generalize upd H1 t2 (.tup [V.str "down", V.int 1]) = H2 at *
          have p3 := Dp.new_tup (K := K) (ds := [.str "up", .int 1]) n3 (.cons (.str _) (.cons (.int _) .nil))
          have e3 := Same.new (o := .tup [V.str "up", V.int 1]) n3
          generalize upd H2 t3 (.tup [V.str "up", V.int 1]) = H3 at *
          have p4 := Dp.new_tup (K := K) (ds := [.str "straight", .int 1]) n4 (.cons (.str _) (.cons (.int _) .nil))
          have e4 := Same.new (o := .tup [V.str "straight", V.int 1]) n4
          generalize upd H3 t4 (.tup [V.str "straight", V.int 1]) = H4 at *
          have p5 := Dp.new_tup (K := K) (ds := [.str "mixed", .int 5]) n5 (.cons (.str _) (.cons (.int _) .nil))
          have e5 := Same.new (o := .tup [V.str "mixed", V.int 5]) n5
          generalize upd H4 t5 (.tup [V.str "mixed", V.int 5]) = H5 at *
          have e35 := e3.trans (e4.trans e5)
          have p6 := Dp.new_tup (K := K) (xs := [V.ref t2, V.ref t3, V.ref t4, V.ref t5]) (ds := kindSorts) n6 (.cons (p2.same e35) (.cons (p3.same (e4.trans e5)) (.cons (p4.same e5) (.cons p5 .nil))))
          have e6 := Same.new (o := .tup [V.ref t2, V.ref t3, V.ref t4, V.ref t5]) n6
          have p1' := p1.same ((e2.trans e35).trans e6)
          have s6 := s0.trans (e1.trans ((e2.trans e35).trans e6))
          have hs6 := (e1.trans ((e2.trans e35).trans e6)).tup hs
          generalize upd H5 t6 (.tup [V.ref t2, V.ref t3, V.ref t4, V.ref t5]) = H6 at *
          refine ⟨_, _, p1', p6, shaped_head sd, (by decide +kernel), _, rfl, ?_⟩
          rw [if_pos rfl]
          have eso : (kindSorts.any fun z => PyData.eqv z (.tuple [.str x, .int (((V.str x :: vs0).length : Nat) : Int)])) = sortD kindSorts (.tuple (.str x :: ds)) := by
            rw [List.length_cons, hl]
            rfl
          rw [eso]
          cases so : sortD kindSorts (.tuple (.str x :: ds)) with
          | false => exact iteT (kf so _ s6)
          | true =>
            refine iteF ⟨_, rfl, _, rfl, _, rfl, p, q, v, xs, ys, rows, rfl, C.same s6, fun H7 r a1 b1 s7 hr7 hu7 hd7 => ?_⟩
            have s07 := s6.trans s7
            have hs7 := s7.tup hs6
            have uin : ∀ p ∈ upsO ys rows, p.1 ≤ 99 ∧ p.2 ≤ 99 := bendsL_in (by rw [List.length_map]; have := C.2.2.2.1.1; omega) (by have := C.bends.2.1; omega)
            have din : ∀ p ∈ downsO ys rows, p.1 ≤ 99 ∧ p.2 ≤ 99 := bendsL_in (by rw [List.length_map]; have := C.2.2.2.1.1; omega) (by have := C.bends.2.1; omega)
            have hu7' : Dp K H7 a1 (.list ((upsO ys rows).map plD)) := hu7
            have hd7' : Dp K H7 b1 (.list ((downsO ys rows).map plD)) := hd7
            have hdS := hd.same s07
            clear hu7 hd7 kf k
            generalize upsO ys rows = ups at *
            generalize downsO ys rows = downs at *
            refine ⟨r, _, rfl, hr7, rfl, _, _, rfl, _, _, rfl, rfl, ?_⟩
            refine ⟨_, rfl, a, _, 0, .str x, rfl, rfl, hs7, i0, rfl, _, rfl, ?_⟩
            obtain ⟨x', ds', ee, hh⟩ := sort_inv so
            cases ee
            rcases hh with ⟨rfl, b1', b2, b3, b4, rfl⟩ | ⟨hw, rfl⟩
            · rw [decide_eq_true rfl]
              obtain ⟨sh1, sh2⟩ := shaped_sub sd
              rw [mixed_eq uin din] at kt kw
              refine iteT ⟨_, rfl, 1, rfl, _, hdS, fun H8 w8 s8 h8 => ?_⟩
              have h8' : Dp K H8 w8 (.tuple [b1', b2, b3, b4]) := h8
              obtain ⟨c, cs, rfl, hcs, hca⟩ := h8'.tup_inv
              refine ⟨c, rfl, ⟨_, hcs⟩, fun D nD => lc_tup (K := K) (a := c) (xs := cs) (fun i H' => LcD K H8 D (List.replicate (([b1', b2, b3, b4].take i).filter fun z => !inD 0 99 z).length (.int 1)) H') (LcD.start nD) (fun i H' _ h => h.same.tup hcs) ?_ ?_⟩
              · rintro i z H' hi h
                obtain ⟨dz, ez, hz⟩ := hca.get hi
                refine ⟨rfl, ?_⟩
                refine ⟨_, rfl, _, _, _, _, rfl, hz.same h.same, _, rfl, ?_⟩
                rw [take_snoc ez, List.filter_append]
                have hlen := List.length_filter_le (fun z => !inD 0 99 z) ([b1', b2, b3, b4].take i)
                rw [List.length_take] at hlen
                cases hc : inD 0 99 dz with
                | true =>
                  rw [List.filter_cons_of_neg (by simp [hc]), List.filter_nil, List.append_nil]
                  exact h
                | false =>
                  rw [List.filter_cons_of_pos (by simp [hc]), List.filter_nil, List.length_append, List.length_singleton, List.replicate_succ']
                  exact LcD.step nD h (Same.refl H') (.int 1) (flat_ones _) rfl (by rw [List.length_replicate]; simp at hlen; omega)
              · intro H9 h
                rw [hca.len, List.take_length] at h
                obtain ⟨ws9, g1, g2, g3⟩ := h
                have s9 := s8.trans g2
                refine ⟨(by show 0 ≤ sizeLine; decide), fun l nl => ⟨_, _, .lst (SqL.of (Same.new nl _ _ g1)) (g3.same (Same.new nl)), .lst (SqL.of upd_same) .nil, shaped_ones _, (by decide), _, rfl, ?_⟩⟩
                have s10 := s9.trans (Same.new (o := .lst []) nl)
                rw [eqv_list_nil]
                have s11 := s07.trans s10
                have hd11 := hdS.same s10
                have hu11 := hu7'.same s10
                have hn11 := hd7'.same s10
                generalize upd H9 l (.lst []) = Hx at *
                cases hall : [b1', b2, b3, b4].all (inD 0 99) with
                | false =>
                  have ne : (List.replicate ([b1', b2, b3, b4].filter fun z => !inD 0 99 z).length (PyData.int 1)).isEmpty = false := by
                    rw [List.isEmpty_replicate]
                    rw [Bool.eq_false_iff]
                    intro z
                    rw [List.all_eq_false] at hall
                    obtain ⟨y, hy, hy2⟩ := hall
                    have : y ∈ [b1', b2, b3, b4].filter fun z => !inD 0 99 z := List.mem_filter.mpr ⟨hy, by simpa using hy2⟩
                    rw [List.eq_nil_of_length_eq_zero (of_decide_eq_true z)] at this
                    cases this
                  rw [ne]
                  rw [hall] at kw
                  exact iteT (kw so rfl _ s11)
                | true =>
                  have em : ([b1', b2, b3, b4].filter fun z => !inD 0 99 z) = [] := by
                    rw [List.filter_eq_nil_iff]
                    intro y hy
                    have := List.all_eq_true.mp hall y hy
                    simp [this]
                  rw [em]
                  rw [hall, Bool.true_and] at kt kw
                  refine iteF ⟨_, rfl, 1, rfl, 3, rfl, _, hd11, fun Ha wa sa ha' => ⟨_, rfl, .tuple [b1', b2], ups.map plD, ha', hu11.same sa, sh1, shaped_list (shaped_pls _), _, rfl, ?_⟩⟩
                  show if hasPl ups (.tuple [b1', b2]) = true then _ else _
                  cases hu : hasPl ups (.tuple [b1', b2]) with
                  | false =>
                    rw [hu] at kw
                    exact iteF (kw so rfl _ (s11.trans sa))
                  | true =>
                    rw [hu, Bool.true_and] at kt kw
                    refine iteT ⟨_, rfl, 3, rfl, _, hd11.same sa, fun Hb wb sb hb => ⟨_, rfl, .tuple [b3, b4], downs.map plD, hb, (hn11.same sa).same sb, sh2, shaped_list (shaped_pls _), _, rfl, ?_⟩⟩
                    have sab := (s11.trans sa).trans sb
                    show if hasPl downs (.tuple [b3, b4]) = true then _ else _
                    cases hdn : hasPl downs (.tuple [b3, b4]) with
                    | false =>
                      rw [hdn] at kw
                      exact iteF (kw so rfl _ sab)
                    | true =>
                      rw [hdn] at kt
                      exact iteT ⟨(by show 1 ≤ sizeLine; decide), fun l2 nl2 => kt so rfl _ _ (sab.trans (Same.new nl2)) (.of sab nl2) (Dp.new_lst nl2 (.cons (.str _) .nil))⟩
            · have nm : x ≠ ("mixed" : Str) := by
                rcases hw with rfl | rfl | rfl <;> decide +kernel
              rw [strNe nm]
              have eto : toldD ups downs (.tuple [.str x]) = if x = ("down" : Str) then ups.isEmpty else if x = ("up" : Str) then downs.isEmpty else ups.isEmpty && downs.isEmpty := if_neg nm
              rw [eto] at kt kw
              cases hds
              have sl : ∀ {H' : Hp} {l : Addr}, H' l = none → Same H' (upd H' l (.lst [])) := fun n => Same.new n
              refine iteF ?_
              rcases hw with rfl | rfl | rfl
              · -- down
                rw [if_pos rfl] at kt kw
                refine ⟨_, rfl, a, _, 0, .str _, rfl, rfl, hs7, i0, rfl, _, rfl, ?_⟩
                rw [strNe (show ("down" : Str) ≠ ("up" : Str) by decide +kernel)]
                refine iteT ⟨_, rfl, (by show 0 ≤ sizeLine; decide), fun l nl => ⟨_, _, hu7'.same (sl nl), .lst (SqL.of upd_same) .nil, shaped_list (shaped_pls _), (by decide), _, rfl, ?_⟩⟩
                have sx := s07.trans (sl nl)
                have hsx := (sl nl).tup hs7
                rw [eqv_list_nil, show (ups.map plD).isEmpty = ups.isEmpty by cases ups <;> rfl]
                cases eu : ups.isEmpty with
                | false =>
                  rw [eu] at kw
                  exact iteT (iteT ⟨_, rfl, a, _, 0, .str _, rfl, rfl, hsx, i0, kw so rfl _ sx⟩)
                | true =>
                  rw [eu] at kt
                  refine iteF ⟨_, rfl, a, _, 0, .str _, rfl, rfl, hsx, i0, rfl, _, rfl, ?_⟩
                  rw [decide_eq_true rfl]
                  exact iteF (iteF ⟨_, rfl, a, _, 0, .str _, rfl, rfl, hsx, i0, (by show 1 ≤ sizeLine; decide), fun l2 nl2 => kt so rfl _ _ (sx.trans (Same.new nl2)) (.of sx nl2) (Dp.new_lst nl2 (.cons (.str _) .nil))⟩)
              · -- up
                rw [if_neg (show ("up" : Str) ≠ ("down" : Str) by decide +kernel), if_pos rfl] at kt kw
                refine ⟨_, rfl, a, _, 0, .str _, rfl, rfl, hs7, i0, rfl, _, rfl, ?_⟩
                rw [decide_eq_true rfl]
                refine iteF ⟨_, rfl, a, _, 0, .str _, rfl, rfl, hs7, i0, rfl, _, rfl, ?_⟩
                rw [strNe (show ("up" : Str) ≠ ("down" : Str) by decide +kernel)]
                refine iteT ⟨_, rfl, (by show 0 ≤ sizeLine; decide), fun l nl => ⟨_, _, hd7'.same (sl nl), .lst (SqL.of upd_same) .nil, shaped_list (shaped_pls _), (by decide), _, rfl, ?_⟩⟩
                have sx := s07.trans (sl nl)
                have hsx := (sl nl).tup hs7
                rw [eqv_list_nil, show (downs.map plD).isEmpty = downs.isEmpty by cases downs <;> rfl]
                cases ed : downs.isEmpty with
                | false =>
                  rw [ed] at kw
                  exact iteT ⟨_, rfl, a, _, 0, .str _, rfl, rfl, hsx, i0, kw so rfl _ sx⟩
                | true =>
                  rw [ed] at kt
                  exact iteF ⟨_, rfl, a, _, 0, .str _, rfl, rfl, hsx, i0, (by show 1 ≤ sizeLine; decide), fun l2 nl2 => kt so rfl _ _ (sx.trans (Same.new nl2)) (.of sx nl2) (Dp.new_lst nl2 (.cons (.str _) .nil))⟩
              · -- straight
                rw [if_neg (show ("straight" : Str) ≠ ("down" : Str) by decide +kernel), if_neg (show ("straight" : Str) ≠ ("up" : Str) by decide +kernel)] at kt kw
                refine ⟨_, rfl, a, _, 0, .str _, rfl, rfl, hs7, i0, rfl, _, rfl, ?_⟩
                rw [strNe (show ("straight" : Str) ≠ ("up" : Str) by decide +kernel)]
                refine iteT ⟨_, rfl, (by show 0 ≤ sizeLine; decide), fun l nl => ⟨_, _, hu7'.same (sl nl), .lst (SqL.of upd_same) .nil, shaped_list (shaped_pls _), (by decide), _, rfl, ?_⟩⟩
                have sx := s07.trans (sl nl)
                have hsx := (sl nl).tup hs7
                rw [eqv_list_nil, show (ups.map plD).isEmpty = ups.isEmpty by cases ups <;> rfl]
                cases eu : ups.isEmpty with
                | false =>
                  rw [eu] at kw
                  exact iteT (iteT ⟨_, rfl, a, _, 0, .str _, rfl, rfl, hsx, i0, kw so rfl _ sx⟩)
                | true =>
                  rw [eu, Bool.true_and] at kt kw
                  refine iteF ⟨_, rfl, a, _, 0, .str _, rfl, rfl, hsx, i0, rfl, _, rfl, ?_⟩
                  rw [strNe (show ("straight" : Str) ≠ ("down" : Str) by decide +kernel)]
                  refine iteT ⟨_, rfl, (by show 0 ≤ sizeLine; decide), fun l2 nl2 => ⟨_, _, (hd7'.same (sl nl)).same (sl nl2), .lst (SqL.of upd_same) .nil, shaped_list (shaped_pls _), (by decide), _, rfl, ?_⟩⟩
                  have sy := sx.trans (sl nl2)
                  have hsy := (sl nl2).tup hsx
                  rw [eqv_list_nil, show (downs.map plD).isEmpty = downs.isEmpty by cases downs <;> rfl]
                  cases ed : downs.isEmpty with
                  | false =>
                    rw [ed] at kw
                    exact iteT ⟨_, rfl, a, _, 0, .str _, rfl, rfl, hsy, i0, kw so rfl _ sy⟩
                  | true =>
                    rw [ed] at kt
                    exact iteF ⟨_, rfl, a, _, 0, .str _, rfl, rfl, hsy, i0, (by show 1 ≤ sizeLine; decide), fun l3 nl3 => kt so rfl _ _ (sy.trans (Same.new nl3)) (.of sy nl3) (Dp.new_lst nl3 (.cons (.str _) .nil))⟩
end
end CS
set_option Elab.async false
set_option maxRecDepth 100000
set_option maxHeartbeats 8000000
set_option linter.unusedVariables false
set_option pp.maxSteps 400
namespace L2
open PySem CS
theorem DpAll.set {K : PySem.W.Frag} {H : Hp} : ∀ {vs : List V} {ds : List PyData} (i : Nat) {v : V} {d : PyData}, DpAll K H vs ds → Dp K H v d → DpAll K H (vs.set i v) (ds.set i d)
  | _, _, _, _, _, .nil, _ => .nil
  | _, _, 0, _, _, .cons _ b, h => .cons h b
  | _, _, i + 1, _, _, .cons a b, h => .cons a (DpAll.set i b h)
end L2
namespace CS
open PySem L2 StX
abbrev rowDt (r : List Int) : PyData := .tuple (r.map PyData.int)
theorem flat_row (r : List Int) : flatD (rowDt r) = true := by
  have := flatDs_ints r
  simp only [rowDt, flatD, this]
theorem flat_rows : ∀ rows : List (List Int), flatDs (rows.map rowDt) = true
  | [] => rfl
  | r :: rs => by
    show (flatD (rowDt r) && flatDs (rs.map rowDt)) = true
    rw [flat_row, flat_rows rs]
    rfl
theorem shaped_rows (rows : List (List Int)) : SeqAt.shaped (.list (rows.map rowDt)) = true := by
  have hi : ∀ r : List Int, PyData.canLayAll0 (r.map PyData.int) = true ∧ PyData.depthAll (r.map PyData.int) = 0 := fun r => by
    induction r with
    | nil => exact ⟨rfl, rfl⟩
    | cons c r ih => exact ⟨by simp only [List.map_cons, PyData.canLayAll0, PyData.canLay0, ih.1, Bool.and_true], by simp only [List.map_cons, PyData.depthAll, PyData.depth, ih.2, Nat.max_self]⟩
  have h : PyData.canLayAll0 (rows.map rowDt) = true ∧ PyData.depthAll (rows.map rowDt) ≤ 1 := by
    induction rows with
    | nil => exact ⟨rfl, by decide⟩
    | cons r rs ih =>
      refine ⟨?_, ?_⟩
      · simp only [List.map_cons, PyData.canLayAll0, rowDt, PyData.canLay0, (hi r).1, Bool.true_and]
        exact ih.1
      · have h2 := ih.2
        have h3 : PyData.depthAll ((r :: rs).map rowDt) = max (rowDt r).depth (PyData.depthAll (rs.map rowDt)) := by simp only [List.map_cons, PyData.depthAll]
        have h4 : (rowDt r).depth = PyData.depthAll (r.map PyData.int) + 1 := by simp only [PyData.depth]
        rw [h3, h4, (hi r).2]
        omega
  refine Bool.and_eq_true_iff.mpr ⟨?_, decide_eq_true ?_⟩
  · simp only [PyData.canLay0, h.1]
  · have h2 := h.2
    simp only [PyData.depth]
    omega
theorem cut_to {α : Type} (xs : List α) (j : Nat) : cutD xs none (some (j : Int)) = xs.take j := by
  unfold cutD
  rw [HT.sIx_none, HT.sIx_nat, List.drop_zero, Nat.sub_zero]
  by_cases h : j ≤ xs.length
  · rw [Nat.min_eq_left h]
  · rw [Nat.min_eq_right (by omega), List.take_length, List.take_of_length_le (by omega)]
theorem cut_from {α : Type} (xs : List α) (j : Nat) : cutD xs (some (j : Int)) none = xs.drop j := by
  unfold cutD
  rw [HT.sIx_none, HT.sIx_nat]
  by_cases h : j ≤ xs.length
  · rw [Nat.min_eq_left h]
    exact List.take_of_length_le (by rw [List.length_drop]; omega)
  · rw [Nat.min_eq_right (by omega), List.drop_length, List.drop_of_length_le (by omega), List.take_nil]
/-- rows of costs while they are made -/
structure RowsOk (rows : List (List Int)) (m : Nat) : Prop where
  wide : ∀ r ∈ rows, r.length = m
  small : ∀ r ∈ rows, ∀ c ∈ r, c.natAbs ≤ 900
theorem RowsOk.snoc {rows : List (List Int)} {m : Nat} {r : List Int} (h : RowsOk rows m) (h1 : r.length = m) (h2 : ∀ c ∈ r, c.natAbs ≤ 900) : RowsOk (rows ++ [r]) m := by
  constructor
  · intro x hx
    rcases List.mem_append.mp hx with q | q
    · exact h.wide x q
    · rw [List.mem_singleton.mp q]
      exact h1
  · intro x hx
    rcases List.mem_append.mp hx with q | q
    · exact h.small x q
    · rw [List.mem_singleton.mp q]
      exact h2
theorem atI_ints {ns : List Int} {i : Int} (h0 : 0 ≤ i) (h1 : i < (ns.length : Int)) : ∃ e ∈ ns, atI (ns.map V.int) i = some (.int e) := by
  obtain ⟨j, rfl⟩ := Int.eq_ofNat_of_zero_le h0
  have hj : j < ns.length := by omega
  refine ⟨ns[j], List.getElem_mem hj, atI_nat ?_⟩
  rw [List.getElem?_map, List.getElem?_eq_getElem hj]
  rfl
section
variable {P : Program} {w : World} {K : PySem.W.Frag} {mg : Str → Option Value} {base : Heap}
def spCosts (K : PySem.W.Frag) : Sp := fun vs H Q _ => ∃ (d c l : Addr) (k : Nat) (p q : Addr) (xs ys : List (Int × Fx)), vs = [.ref d, .ref p, .ref q] ∧ StAt H d c l k ∧ k ≤ 60000 ∧ ShAt K H p xs ∧ ShAt K H q ys ∧ xs.length ≤ 8 ∧ ys.length ≤ 8 ∧ 0 < ys.length ∧ (∀ a ∈ xs, a.1.natAbs ≤ 200) ∧ (∀ a ∈ ys, a.1.natAbs ≤ 200) ∧
  ∀ H' r rows k', k' ≤ k + 100 → StAt H' d c l k' → Fm d l H H' → Dp K H' r (costD rows) → CostOk rows xs.length ys.length → Q r H'
theorem scLawCosts : FnScope ["state", "one", "other", "way", "sign", "found", "near", "heft", "row", "far", "own", "kinds", "at", "spot"] ["state", "one", "other"] (defScope sLawCosts) := ⟨rfl, rfl, rfl, by decide +kernel, rfl, by decide +kernel, by decide +kernel⟩
theorem ok_law_costs {f f1 : Addr} {fd fd1 : FuncData} (F : Df K mg "_law_costs" sLawCosts ["state", "one", "other"] f fd) (D1 : Df K mg "_law_draw" sDraw ["state", "many"] f1 fd1) (G1 : FnOk P w K mg base CX0 2 f1 fd1 ["state", "many"] spDraw) (T : Bt mg) (mmax : mg "max" = none) (mmin : mg "min" = none) : FnOk P w K mg base CX0 3 f fd ["state", "one", "other"] (spCosts K) := by
  refine F.F.ok scLawCosts (fun vs H Q E h => ?_) (fun cdv A outer s H vs Q E hr h => ?_)
  · obtain ⟨d, c, l, k, p, q, xs, ys, rfl, _⟩ := h
    rfl
  · obtain ⟨d, c, l, k0, p, q, xs, ys, rfl, S, hk0, hx, hy, x8, y8, y0, sx, sy, k⟩ := h
    refine ⟨_, pss_cons (ps_par3 (i := 3) (j := 4) (l := 5) rfl scLawCosts.nd rfl rfl rfl (by decide) (by decide) (by decide) rfl rfl rfl (pa_cons (pe_call G1 hr (by rfl) D1.g D1.F.kp D1.b .nil pass0 (pa_cons (pv 0) (pa_cons pe_int pa_nil))) (pa_cons (pe_ix ix_list (pe_lst (pa_cons pe_int (pa_cons (pe_un un_neg pe_int) pa_nil))) (pe_call G1 hr (by rfl) D1.g D1.F.kp D1.b .nil pass0 (pa_cons (pv 0) (pa_cons pe_int pa_nil))) (fun _ _ => rfl)) (pa_cons (pe_lst pa_nil) pa_nil))) (by rfl))
      (pss_cons (ps_for PassesOwn.never rfl (pi_tup (pv 1)) (pg_tup rfl (pgs_cons (pg_name (i := 6) scLawCosts.nd rfl (Or.inl rfl)) (pgs_cons (pg_name (i := 7) scLawCosts.nd rfl (Or.inl rfl)) pgs_nil)))
        (pss_cons (ps_set (i := 8) scLawCosts.nd rfl (Or.inl rfl) (pe_lst pa_nil))
        (pss_cons (ps_for PassesOwn.never rfl (pi_tup (pv 2)) (pg_tup rfl (pgs_cons (pg_name (i := 9) scLawCosts.nd rfl (Or.inl rfl)) (pgs_cons (pg_name (i := 10) scLawCosts.nd rfl (Or.inl rfl)) pgs_nil)))
          (pss_cons (ps_set (i := 11) scLawCosts.nd rfl (Or.inl rfl) (pe_lst (pa_cons (pe_op op_sub (pe_call G1 hr (by rfl) D1.g D1.F.kp D1.b .nil pass0 (pa_cons (pv 0) (pa_cons pe_int pa_nil))) pe_int) (pa_cons (pe_op op_fdivX (pe_op op_mul (pe_op op_mul (pe_op op_mul (pv 4) (pv 6)) (pv 9)) (pv 9)) pe_int) (pa_cons (pe_op op_mul (pe_op op_mul (pv 4) (pv 6)) (pe_callB call_abs (by rfl) T.abs (by decide +kernel) (pa_cons (pv 9) pa_nil))) (pa_cons (pe_op op_mul (pv 6) (pv 9)) (pa_cons pe_int pa_nil)))))))
          (pss_one (ps_expr (pe_bm PySem.F.plainAttrs_list PySem.F.slot_list_append PySem.F.type_list_append mt_append (pv 8) (pa_cons (pe_callB (call_max2 rfl) (by rfl) mmax (by decide +kernel) (pa_cons (pe_un un_neg pe_int) (pa_cons (pe_callB (call_min2 rfl) (by rfl) mmin (by decide +kernel) (pa_cons pe_int (pa_cons (pe_ix ix_list (pv 11) (pv 3) (fun _ _ => rfl)) pa_nil))) pa_nil))) pa_nil))))))
        (pss_one (ps_expr (pe_bm PySem.F.plainAttrs_list PySem.F.slot_list_append PySem.F.type_list_append mt_append (pv 5) (pa_cons (pe_callTy call_tuple_of (by rfl) T.tuple (by decide +kernel) (pa_cons (pv 8) pa_nil)) pa_nil)))))))
      (pss_cons (ps_if (PW.pt (pw_and (pt_cmpR op_eq (pv 3) pe_int (nomark _)) (pw_and (pt_cmpR (op_neD hr.units) (pv 5) (pe_lst pa_nil) (nomark _)) (pw_and1 (pt_cmpR op_eq (pe_call G1 hr (by rfl) D1.g D1.F.kp D1.b .nil pass0 (pa_cons (pv 0) (pa_cons pe_int pa_nil))) pe_int (nomark _))))))
        (pss_cons (ps_set (i := 12) scLawCosts.nd rfl (Or.inl rfl) (pe_call G1 hr (by rfl) D1.g D1.F.kp D1.b .nil pass0 (pa_cons (pv 0) (pa_cons (pe_callB (r := Evl.rLenS K) call_len_seq (by rfl) T.len PySem.boot_len (pa_cons (pv 5) pa_nil)) pa_nil))))
        (pss_cons (ps_set (i := 13) scLawCosts.nd rfl (Or.inl rfl) (pe_call G1 hr (by rfl) D1.g D1.F.kp D1.b .nil pass0 (pa_cons (pv 0) (pa_cons (pe_callB (r := Evl.rLenS K) call_len_seq (by rfl) T.len PySem.boot_len (pa_cons (pv 2) pa_nil)) pa_nil))))
        (pss_one (ps_asg (pe_op op_sumD (pe_op op_sumD (pe_slice sl_data (pe_ix ix_list (pv 5) (pv 12) (fun _ _ => rfl)) po_none (po_some (pv 13))) (pe_tup (pa_cons (pe_op op_add (pe_ix ix_tup (pe_ix ix_list (pv 5) (pv 12) (fun _ _ => rfl)) (pv 13) (fun _ _ => rfl)) pe_int) pa_nil))) (pe_slice sl_data (pe_ix ix_list (pv 5) (pv 12) (fun _ _ => rfl)) (po_some (pe_op op_add (pv 13) pe_int)) po_none)) (pg_sub (pv 5) (pv 12) set_list))))) pss_nil)
      (pss_one (ps_ret (pe_callTy call_tuple_of (by rfl) T.tuple (by decide +kernel) (pa_cons (pv 5) pa_nil)))))), ?_⟩
    obtain ⟨vx, hvx, hpx⟩ := hx
    obtain ⟨vy, hvy, hpy⟩ := hy
    have lx := hpx.len
    have ly := hpy.len
    refine ⟨_, rfl, d, c, l, k0, 5, rfl, S, by decide, by decide, by omega, fun r1 H1 r10 r11 S1 fm1 => ⟨_, rfl, (by show 2 ≤ sizeLine; decide), fun t nt => ?_⟩⟩
    have Nt := S1.neD nt
    have st := Same.new (o := .lst [V.int 1, V.int (-1)]) nt
    refine ⟨_, rfl, d, c, l, k0 + 1, 2, rfl, S1.same st, by decide, by decide, by omega, fun r2 H2 r20 r21 S2 fm2 => ?_⟩
    obtain ⟨sg, hsg, hat⟩ := atI_ints (ns := [1, -1]) r20 (by simpa using r21)
    have sg1 : sg.natAbs ≤ 1 := by
      simp only [List.mem_cons, List.not_mem_nil, or_false] at hsg
      rcases hsg with rfl | rfl <;> decide
    have ht2 : H2 t = some (.lst [V.int 1, V.int (-1)]) := fm2 t _ upd_same Nt.1 Nt.2.2
    have fmB : Fm d l H H2 := fun b o e n m => fm2 b o (st b o (fm1 b o e n m)) n m
    refine ⟨t, _, _, .int sg, rfl, rfl, SqL.of ht2, hat, (by show 0 ≤ sizeLine; decide), fun F nF => ⟨_, _, _, rfl, ?_⟩⟩
    have NF := S2.neD nF
    have nF0 : H F = none := fmB.none nF NF.1 NF.2.2
    have sF := Same.new (o := .lst []) nF
    have S3 := S2.same sF
    have fm3 := fmB.same sF
    have hF3 : (upd H2 F (.lst [])) F = some (.lst []) := upd_same
    generalize upd H2 F (.lst []) = H3 at *
    refine ⟨_, rfl, p, rfl, ⟨_, tk_fm fm3 S _ _ hvx⟩, for_tup (K := K) (a := p) (xs := vx) (fun i σ H' => ∃ v6 v7 v8 v9 v10 v11 kk ws rows, σ = [some (.ref d), some (.ref p), some (.ref q), some (.int r1), some (.int sg), some (.ref F), v6, v7, v8, v9, v10, v11, none, none] ∧ StAt H' d c l kk ∧ kk ≤ k0 + 2 + 9 * i ∧ Fm d l H H' ∧ H' F = some (.lst ws) ∧ DpAll K H' ws (rows.map rowDt) ∧ rows.length = i ∧ RowsOk rows ys.length)
      ⟨none, none, none, none, none, none, _, [], [], rfl, S3, by omega, fm3, hF3, .nil, rfl, ⟨fun r hr => (by cases hr), fun r hr => (by cases hr)⟩⟩ ?_ ?_ ?_⟩
    · rintro i σ H' _ ⟨_, _, _, _, _, _, _, _, _, _, _, _, fm, _⟩
      exact tk_fm fm S _ _ hvx
    · rintro i x σ H4 hi ⟨v6, v7, v8, v9, v10, v11, kk, ws, rows, rfl, S4, hkk, fm4, hF4, hw4, lr, ro⟩
      obtain ⟨q0, r0, m, y, rfl, hxi, hq0, hr0⟩ := hpx.get hi
      have hi2 : i < xs.length := (List.getElem?_eq_some_iff.mp hxi).1
      have hm := sx _ (List.mem_of_getElem? hxi)
      refine ⟨q0, _, rfl, tk_fm fm4 S _ _ hq0, rfl, _, _, rfl, _, _, rfl, rfl, (by show 0 ≤ sizeLine; decide), fun R nR => ?_⟩
      have NR := S4.neD nR
      have nR0 : H R = none := fm4.none nR NR.1 NR.2.2
      have sR := Same.new (o := .lst []) nR
      have RF : R ≠ F := fun z => by
        rw [z, hF4] at nR
        cases nR
      have S5 := S4.same sR
      have fm5 := fm4.same sR
      have hF5 := sR _ _ hF4
      have hw5 := hw4.same sR
      have hR5 : (upd H4 R (.lst [])) R = some (.lst []) := upd_same
      generalize upd H4 R (.lst []) = H5 at *
      refine ⟨_, rfl, q, rfl, ⟨_, tk_fm fm5 S _ _ hvy⟩, for_tup (K := K) (a := q) (xs := vy) (fun j σ H' => ∃ v9 v10 v11 kk row, σ = [some (.ref d), some (.ref p), some (.ref q), some (.int r1), some (.int sg), some (.ref F), some (.int m), some (.ref r0), some (.ref R), v9, v10, v11, none, none] ∧ StAt H' d c l kk ∧ kk ≤ k0 + 2 + 9 * i + j ∧ Fm d l H H' ∧ H' F = some (.lst ws) ∧ DpAll K H' ws (rows.map rowDt) ∧ H' R = some (.lst (row.map V.int)) ∧ row.length = j ∧ ∀ c ∈ row, c.natAbs ≤ 900)
        ⟨v9, v10, v11, kk, [], rfl, S5, by omega, fm5, hF5, hw5, hR5, rfl, fun c hc => (by cases hc)⟩ ?_ ?_ ?_⟩
      · rintro j σ H' _ ⟨_, _, _, _, _, _, _, _, fm, _⟩
        exact tk_fm fm S _ _ hvy
      · rintro j x σ H6 hj ⟨v9, v10, v11, kk6, row, rfl, S6, hk6, fm6, hF6, hw6, hR6, lrow, srow⟩
        obtain ⟨q1, b1, m2, y2, rfl, hyj, hq1, hb1⟩ := hpy.get hj
        have hj2 : j < ys.length := (List.getElem?_eq_some_iff.mp hyj).1
        have hm2 := sy _ (List.mem_of_getElem? hyj)
        refine ⟨q1, _, rfl, tk_fm fm6 S _ _ hq1, rfl, _, _, rfl, _, _, rfl, rfl, ?_⟩
        refine ⟨_, rfl, d, c, l, kk6, 19, rfl, S6, by decide, by decide, by omega, fun z H7 z0 z1 S7 fm7 => ⟨_, _, rfl, rfl, ?_⟩⟩
        refine ⟨_, rfl, _, rfl, _, _, rfl, rfl, .inr (by omega), _, rfl, _, _, rfl, rfl, .inr (by omega), _, rfl, _, _, rfl, rfl, .inr (by omega), _, _, rfl, rfl, ⟨by decide, by decide⟩, ?_⟩
        refine ⟨_, rfl, _, rfl, _, _, rfl, rfl, .inr (by omega), _, rfl, m2, rfl, _, _, rfl, rfl, .inr (by split <;> omega), ?_⟩
        refine ⟨_, rfl, _, rfl, _, _, rfl, rfl, .inr (by omega), (by show 5 ≤ sizeLine; decide), fun u nu => ?_⟩
        obtain ⟨ns, ens⟩ : ∃ ns : List Int, ns = [z - 9, (sg * m * m2 * m2).fdiv 2, sg * m * (if m2 < 0 then -m2 else m2), m * m2, 3] := ⟨_, rfl⟩
        have hu7 : ∀ H : Hp, upd H u (.lst [V.int (z - 9), V.int ((sg * m * m2 * m2).fdiv 2), V.int (sg * m * (if m2 < 0 then -m2 else m2)), V.int (m * m2), V.int 3]) = upd H u (.lst (ns.map V.int)) := fun H => by rw [ens]; rfl
        obtain ⟨e, _, hate⟩ := atI_ints (ns := ns) r10 (by rw [ens]; simpa using r11)
        have Nu := S7.neD nu
        have NR6 : R ≠ d ∧ R ≠ c ∧ R ≠ l := NR
        have su := Same.new (o := .lst (ns.map V.int)) nu
        have hR7 := su _ _ (fm7 R _ hR6 NR6.1 NR6.2.2)
        have hF7 := su _ _ (fm7 F _ hF6 NF.1 NF.2.2)
        have hu8 : (upd H7 u (.lst (ns.map V.int))) u = some (.lst (ns.map V.int)) := upd_same
        have hw7 := DpAll.same su (DpAll.tk (tk_fm fm7 S6) (flat_rows rows) hw6)
        have S8 := S7.same su
        have fm8 := (fm6.trans fm7).same su
        have eH : upd H7 u (.lst [V.int (z - 9), V.int ((sg * m * m2 * m2).fdiv 2), V.int (sg * m * (if m2 < 0 then -m2 else m2)), V.int (m * m2), V.int 3]) = upd H7 u (.lst (ns.map V.int)) := hu7 H7
        refine ⟨_, rfl, .inl ⟨rfl, _, SqL.of (K := K) (xs := row.map V.int) (by rw [eH]; exact hR7)⟩, _, rfl, _, rfl, _, rfl, u, _, _, .int e, rfl, rfl, SqL.of (K := K) (xs := ns.map V.int) (by rw [eH]; exact hu8), hate, _, _, rfl, _, _, rfl, ?_⟩
        rw [eH]
        generalize upd H7 u (.lst (ns.map V.int)) = H8 at *
        obtain ⟨g, eg⟩ : ∃ g : Int, g = (if (if e < 900 then e else 900) > -900 then (if e < 900 then e else 900) else -900) := ⟨_, rfl⟩
        have sg9 : g.natAbs ≤ 900 := by
          rw [eg]
          split <;> split at * <;> omega
        rw [← eg]
        refine ⟨R, _, _, rfl, rfl, hR7, small1000 (by rw [List.length_map]; omega), ?_⟩
        refine ⟨_, _, _, kk6 + 1, row ++ [g], rfl, S8.upd NR6.1 NR6.2.1 NR6.2.2, by omega, fm8.upd nR0, by rw [upd_ne (Ne.symm RF)]; exact hF7, DpAll.tk (tk_lst hR7) (flat_rows rows) hw7, by rw [List.map_append]; exact upd_same, by rw [List.length_append, lrow]; rfl, fun c hc => ?_⟩
        rcases List.mem_append.mp hc with q | q
        · exact srow c q
        · rw [List.mem_singleton.mp q]
          exact sg9
      · rintro σ H6 ⟨v9, v10, v11, kk6, row, rfl, S6, hk6, fm6, hF6, hw6, hR6, lrow, srow⟩
        refine ⟨_, rfl, .inl ⟨rfl, _, SqL.of hF6⟩, _, rfl, R, _, rfl, .inl ⟨SqL.of hR6, fun u nu => ?_⟩⟩
        have su := Same.new (o := .tup (row.map V.int)) nu
        have hF7 := su _ _ hF6
        have lw := hw6.len
        rw [List.length_map] at lw
        refine ⟨F, _, _, rfl, rfl, hF7, small1000 (by omega), ?_⟩
        refine ⟨_, _, _, _, _, _, kk6, ws ++ [.ref u], rows ++ [row], rfl, (S6.same su).upd NF.1 NF.2.1 NF.2.2, by omega, (fm6.same su).upd nF0, upd_same, ?_, by rw [List.length_append, lr]; rfl, ro.snoc (by omega) srow⟩
        rw [List.map_append]
        exact DpAll.tk (tk_lst hF7) (flatDs_app (flat_rows rows) (flat_rows [row])) ((hw6.same su).app (.cons (Dp.new_tup nu (DpAll.ints row)) .nil))
    · rintro σ H4 ⟨v6, v7, v8, v9, v10, v11, kk, ws, rows, rfl, S4, hkk, fm4, hF4, hw4, lr, ro⟩
      have fin : ∀ (σ : L2.St) (H' : Hp) (kk' : Nat) (ws : List V) (rows : List (List Int)), σ[5]? = some (some (.ref F)) → StAt H' d c l kk' → kk' ≤ k0 + 90 → Fm d l H H' → H' F = some (.lst ws) → DpAll K H' ws (rows.map rowDt) → CostOk rows xs.length ys.length →
          tRet (tCB (fun xs H Q => ∃ p ys, xs = [V.ref p] ∧ ((SqL K H p ys ∧ ∀ l, H l = none → Q (.ref l) (upd H l (.tup ys))) ∨ (SqT K H p ys ∧ Q (.ref p) H))) (tCons (tVar 5) tNil)) { nx := fun x H' => Q V.non H', rt := Q } σ H' := by
        intro σ H' kk' ws rows h5 S' hk' fm' hF' hw' ok
        refine ⟨_, h5, F, ws, rfl, .inl ⟨SqL.of hF', fun u nu => ?_⟩⟩
        have su := Same.new (o := .tup ws) nu
        exact k _ _ rows kk' (by omega) (S'.same su) (fm'.same su) (Dp.new_tup nu hw') ok
      rw [lx] at lr
      have ok0 : CostOk rows xs.length ys.length := ⟨lr, ro.wide, fun r hr c hc => Nat.le_trans (ro.small r hr c hc) (by decide)⟩
      have base0 := fun σ (e : σ[5]? = some (some (.ref F))) => fin σ H4 kk ws rows e S4 (by omega) fm4 hF4 hw4 ok0
      refine ⟨_, rfl, rfl, _, rfl, ?_⟩
      by_cases h1 : r1 = 1
      · subst h1
        rw [decide_eq_true rfl]
        refine iteT ⟨_, rfl, (by show 0 ≤ sizeLine; decide), fun u nu => ⟨_, _, .lst (SqL.of (Same.new nu _ _ hF4)) (hw4.same (Same.new nu)), .lst (SqL.of upd_same) .nil, shaped_rows rows, (by decide), _, rfl, ?_⟩⟩
        have su := Same.new (o := .lst []) nu
        have S5 := S4.same su
        have fm5 := fm4.same su
        have hF5 := su _ _ hF4
        have hw5 := hw4.same su
        rw [eqv_list_nil]
        generalize upd H4 u (.lst []) = H5 at *
        have base1 := fun σ (e : σ[5]? = some (some (.ref F))) => fin σ H5 kk ws rows e S5 (by omega) fm5 hF5 hw5 ok0
        cases he : (rows.map rowDt).isEmpty with
        | true => exact iteF (base1 _ rfl)
        | false =>
          have rpos : 0 < rows.length := by
            cases rows with
            | nil => cases he
            | cons r rs => simp
          have lw := hw5.len
          rw [List.length_map] at lw
          refine iteT ⟨_, rfl, d, c, l, kk, 2, rfl, S5, by decide, by decide, by omega, fun z H6 z0 z1 S6 fm6 => ?_⟩
          have hF6 := fm6 F _ hF5 NF.1 NF.2.2
          have hw6 := DpAll.tk (tk_fm fm6 S5) (flat_rows rows) hw5
          have fm56 := fm5.trans fm6
          refine ⟨rfl, _, rfl, ?_⟩
          by_cases h2 : z = 0
          · subst h2
            rw [decide_eq_true rfl]
            refine iteT ⟨_, rfl, _, rfl, F, ws, rfl, .inl (SqL.of hF6), d, c, l, _, _, rfl, S6, by omega, by omega, by omega, fun at_ H7 a0 a1 S7 fm7 => ?_⟩
            have hF7 := fm7 F _ hF6 NF.1 NF.2.2
            have hw7 := DpAll.tk (tk_fm fm7 S6) (flat_rows rows) hw6
            have fm57 := fm56.trans fm7
            refine ⟨_, rfl, _, rfl, q, vy, rfl, .inr (tk_fm fm57 S _ _ hvy), d, c, l, _, _, rfl, S7, by omega, by omega, by omega, fun sp H8 s0 s1 S8 fm8 => ?_⟩
            have hF8 := fm8 F _ hF7 NF.1 NF.2.2
            have hw8 := DpAll.tk (tk_fm fm8 S7) (flat_rows rows) hw7
            have fm58 := fm57.trans fm8
            obtain ⟨ia, rfl⟩ := Int.eq_ofNat_of_zero_le a0
            obtain ⟨is, rfl⟩ := Int.eq_ofNat_of_zero_le s0
            obtain ⟨R0, hR0⟩ : ∃ R, rows[ia]? = some R := ⟨_, List.getElem?_eq_getElem (show ia < rows.length by omega)⟩
            have mR := List.mem_of_getElem? hR0
            have wR := ro.wide _ mR
            have smR := ro.small _ mR
            obtain ⟨vr, hvr, hdr⟩ := hw8.at (i := ia) (by rw [List.getElem?_map, hR0]; rfl)
            obtain ⟨b, us, rfl, hb, hbd⟩ := hdr.tup_inv
            have eu := hbd.of_ints
            subst eu
            obtain ⟨cv, hcv⟩ : ∃ z, R0[is]? = some z := ⟨_, List.getElem?_eq_getElem (show is < R0.length by omega)⟩
            have scv := smR _ (List.mem_of_getElem? hcv)
            have hat2 : atI ws (ia : Int) = some (.ref b) := atI_nat hvr
            refine ⟨_, rfl, _, rfl, F, ws, _, .ref b, rfl, rfl, SqL.of hF8, hat2, _, rfl, _, rfl, _, hdr, fun H9 w9 s9 h9 => ?_⟩
            refine ⟨_, rfl, _, rfl, F, ws, _, .ref b, rfl, rfl, SqL.of (s9 _ _ hF8), hat2, _, rfl, b, _, _, .int cv, rfl, rfl, s9.tup hb, atI_nat (by rw [List.getElem?_map, hcv]; rfl), _, _, rfl, rfl, (by show 1 ≤ sizeLine; decide), fun u1 nu1 => ?_⟩
            have s10 := Same.new (o := .tup [V.int (cv + 7)]) nu1
            refine ⟨_, [.int (cv + 7)], h9.same s10, Dp.new_tup nu1 (.cons (.int _) .nil), ?_, fun H11 w11 s11 h11 => ?_⟩
            · rw [cut_to, List.length_take, List.length_map]
              show min _ _ + 1 ≤ 1000
              omega
            have s811 := s9.trans (s10.trans s11)
            refine ⟨_, rfl, _, rfl, F, ws, _, .ref b, rfl, rfl, SqL.of (s811 _ _ hF8), hat2, _, rfl, _, _, rfl, rfl, _, rfl, _, hdr.same s811, fun H12 w12 s12 h12 => ?_⟩
            rw [show ((is : Int) + 1) = ((is + 1 : Nat) : Int) from rfl, cut_from] at h12
            rw [cut_to] at h11
            refine ⟨_, _, h11.same s12, h12, ?_, fun H13 w13 s13 h13 => ?_⟩
            · rw [List.length_append, List.length_take, List.length_drop, List.length_map]
              show min _ _ + 1 + _ ≤ 1000
              omega
            have s813 := s811.trans (s12.trans s13)
            have hF13 := s813 _ _ hF8
            refine ⟨_, rfl, _, rfl, F, ws, _, ia, rfl, rfl, hF13, ?_, ?_⟩
            · show (if 0 ≤ (ia : Int) then (if (ia : Int) < (ws.length : Int) then some (ia : Int).toNat else none) else _) = some ia
              rw [if_pos (by omega), if_pos (by omega), Int.toNat_natCast]
            obtain ⟨R1, eR1⟩ : ∃ R1 : List Int, R1 = R0.take is ++ [cv + 7] ++ R0.drop (is + 1) := ⟨_, rfl⟩
            have h13' : Dp K H13 w13 (rowDt R1) := by
              have : R1.map PyData.int = (R0.map PyData.int).take is ++ [.int (cv + 7)] ++ (R0.map PyData.int).drop (is + 1) := by
                rw [eR1, List.map_append, List.map_append, List.map_take, List.map_drop]
                rfl
              show Dp K H13 w13 (.tuple (R1.map PyData.int))
              rw [this]
              exact h13
            have lR1 : R1.length = ys.length := by
              rw [eR1, List.length_append, List.length_append, List.length_take, List.length_drop]
              show min _ _ + 1 + _ = _
              omega
            have sR1 : ∀ c ∈ R1, c.natAbs ≤ 1000 := fun c hc => by
              rw [eR1] at hc
              rcases List.mem_append.mp hc with q | q
              · rcases List.mem_append.mp q with q | q
                · have := smR c (List.mem_of_mem_take q)
                  omega
                · rw [List.mem_singleton.mp q]
                  omega
              · have := smR c (List.mem_of_mem_drop q)
                omega
            have hset : DpAll K H13 (ws.set ia w13) ((rows.set ia R1).map rowDt) := by
              rw [List.map_set]
              exact (hw8.same s813).set ia h13'
            refine fin _ _ (kk + 1 + 1 + 1) _ (rows.set ia R1) rfl ((S8.same s813).upd NF.1 NF.2.1 NF.2.2) (by omega) ((fm58.same s813).upd nF0) upd_same (DpAll.tk (tk_lst hF13) (flat_rows _) hset) ⟨?_, fun r hr => ?_, fun r hr => ?_⟩
            · rw [List.length_set]
              exact lr
            · rcases List.mem_or_eq_of_mem_set hr with q | q
              · exact ro.wide r q
              · rw [q]
                exact lR1
            · rcases List.mem_or_eq_of_mem_set hr with q | q
              · intro c hc
                exact Nat.le_trans (ro.small r q c hc) (by decide)
              · rw [q]
                exact sR1
          · rw [decide_eq_false (fun e => h2 (V.int.inj e))]
            exact iteF (fin _ H6 (kk + 1) ws rows rfl S6 (by omega) fm56 hF6 hw6 ok0)
      · rw [decide_eq_false (fun e => h1 (V.int.inj e))]
        exact iteF (base0 _ rfl)
end
end CS
set_option Elab.async false
set_option maxRecDepth 100000
set_option maxHeartbeats 8000000
set_option linter.unusedVariables false
set_option pp.maxSteps 400
namespace CS
open PySem L2 StX
/-! data that may be shown -/
structure Fine (d : PyData) : Prop where
  sh : SeqAt.shaped d = true
  ok : d.showable = true
  dp : d.depth ≤ 4
  lv : d.leavesShort 100 = true
  wt : d.weight ≤ 1000
def Lf (d : PyData) : Bool := d.canLay0 && d.showable && decide (d.depth ≤ 2) && d.leavesShort 100 && decide (d.weight ≤ 110)
theorem lf_parts {d : PyData} (h : Lf d = true) : d.canLay0 = true ∧ d.showable = true ∧ d.depth ≤ 2 ∧ d.leavesShort 100 = true ∧ d.weight ≤ 110 := by
  simpa [Lf, and_assoc] using h
theorem lf_all : ∀ {ds : List PyData}, (∀ d ∈ ds, Lf d = true) → PyData.canLayAll0 ds = true ∧ PyData.showableAll ds = true ∧ PyData.depthAll ds ≤ 2 ∧ PyData.leavesShortAll 100 ds = true ∧ PyData.weightAll ds ≤ ds.length * 111
  | [], _ => ⟨rfl, rfl, by decide, rfl, Nat.le_refl _⟩
  | d :: ds, h => by
    obtain ⟨a1, a2, a3, a4, a5⟩ := lf_parts (h d (.head _))
    obtain ⟨b1, b2, b3, b4, b5⟩ := lf_all fun x hx => h x (.tail _ hx)
    refine ⟨by simp only [PyData.canLayAll0, a1, b1, Bool.and_self], by simp only [PyData.showableAll, a2, b2, Bool.and_self], ?_, by simp only [PyData.leavesShortAll, a4, b4, Bool.and_self], ?_⟩
    · simp only [PyData.depthAll]
      omega
    · simp only [PyData.weightAll, List.length_cons]
      omega
theorem fine_tup {ds : List PyData} (h : ∀ d ∈ ds, Lf d = true) (l : ds.length ≤ 8) : Fine (.tuple ds) := by
  obtain ⟨b1, b2, b3, b4, b5⟩ := lf_all h
  refine ⟨Bool.and_eq_true_iff.mpr ⟨by simp only [PyData.canLay0, b1], decide_eq_true ?_⟩, by simp only [PyData.showable, b2], ?_, by simp only [PyData.leavesShort, b4], ?_⟩
  · simp only [PyData.depth]
    omega
  · simp only [PyData.depth]
    omega
  · simp only [PyData.weight]
    omega
theorem fine_lst {ds : List PyData} (h : ∀ d ∈ ds, Lf d = true) (l : ds.length ≤ 8) : Fine (.list ds) := by
  obtain ⟨b1, b2, b3, b4, b5⟩ := lf_all h
  refine ⟨Bool.and_eq_true_iff.mpr ⟨by simp only [PyData.canLay0, b1], decide_eq_true ?_⟩, by simp only [PyData.showable, b2], ?_, by simp only [PyData.leavesShort, b4], ?_⟩
  · simp only [PyData.depth]
    omega
  · simp only [PyData.depth]
    omega
  · simp only [PyData.weight]
    omega
theorem lf_fine {d : PyData} (h : Lf d = true) : Fine d := by
  obtain ⟨a1, a2, a3, a4, a5⟩ := lf_parts h
  exact ⟨Bool.and_eq_true_iff.mpr ⟨a1, decide_eq_true (by omega)⟩, a2, by omega, a4, by omega⟩
theorem lf_int {i : Int} (h : i.natAbs ≤ 1000000) : Lf (.int i) = true := by
  have h1 : i.natAbs.log2 < 20 := PySem.Flt.log2_lt_of (by decide) (by omega)
  have h2 := PyData.shown_int_le (i := i) (by omega)
  have h3 : (PyData.int i).weight ≤ 110 := by
    simp only [PyData.weight]
    split <;> omega
  have h4 : (PyData.int i).leavesShort 100 = true := by
    simp only [PyData.leavesShort]
    exact decide_eq_true (by omega)
  have h5 : (PyData.int i).showable = true := by
    simp only [PyData.showable]
    exact decide_eq_true (by omega)
  simp only [Lf, h4, h5, decide_eq_true h3, PyData.canLay0, PyData.depth, Bool.and_true]
  rfl
/-! a heap without some places -/
def hide (L : List Addr) (H : Hp) : Hp := fun b => if b ∈ L then none else H b
section
variable {K : PySem.W.Frag} {L : List Addr} {H H' : Hp} {x : Addr} {o : HO}
theorem hide_out (h : x ∉ L) : hide L H x = H x := if_neg h
theorem hide_in (h : x ∈ L) : hide L H x = none := if_pos h
theorem hide_same (L : List Addr) (H : Hp) : Same (hide L H) H := fun b u e => by
  by_cases h : b ∈ L
  · rw [hide_in h] at e
    cases e
  · rw [hide_out h] at e
    exact e
theorem hide_mono (h : ∀ b u, b ∉ L → H b = some u → H' b = some u) : Same (hide L H) (hide L H') := fun b u e => by
  by_cases q : b ∈ L
  · rw [hide_in q] at e
    cases e
  · rw [hide_out q] at e ⊢
    exact h b u q e
theorem hide_upd (h : x ∈ L) : hide L (upd H x o) = hide L H := by
  funext b
  by_cases q : b ∈ L
  · rw [hide_in q, hide_in q]
  · rw [hide_out q, hide_out q, upd_ne (fun z => q (by rw [z]; exact h))]
/-- tuples stand in what is left, if none is hidden -/
theorem tk_hide (h : ∀ a ∈ L, (∃ us, H a = some (.lst us)) ∨ ∃ kvs, H a = some (.dK kvs)) : TK K H (hide L H) := fun p xs hp => by
  have np : ∀ u, H p = some u → (∀ us, u ≠ .lst us) → (∀ kvs, u ≠ .dK kvs) → p ∉ L := fun u e n1 n2 hm => by
    rcases h p hm with ⟨us, z⟩ | ⟨kvs, z⟩
    · rw [e] at z
      cases z
      exact n1 us rfl
    · rw [e] at z
      cases z
      exact n2 kvs rfl
  rcases hp with (hp | ⟨ob, hp⟩) | hp
  · exact .inl (.inl (by rw [hide_out (np _ hp (fun _ z => nomatch z) (fun _ z => nomatch z))]; exact hp))
  · exact .inl (.inr ⟨ob, by rw [hide_out (np _ hp (fun _ z => nomatch z) (fun _ z => nomatch z))]; exact hp⟩)
  · exact .inr hp
theorem seq_hide {us : List V} (h : H x = some (.lst us)) (n : x ∉ L) : SqL K (hide L H) x us := SqL.of (by rw [hide_out n]; exact h)
end
/-- the state, and a list of fine data at F -/
structure Bn (K : PySem.W.Frag) (H0 : Hp) (d c l F : Addr) (kk : Nat) (ws : List V) (ds : List PyData) (H : Hp) : Prop where
  S : StAt H d c l kk
  fm : Fm d l H0 H
  F0 : H0 F = none
  nd : F ≠ d
  nc : F ≠ c
  nl : F ≠ l
  hF : H F = some (.lst ws)
  hw : DpAll K (hide [d, l, F] H) ws ds
  fine : ∀ x ∈ ds, Fine x
section
variable {K : PySem.W.Frag} {H0 H H' : Hp} {d c l F : Addr} {kk : Nat} {ws : List V} {ds : List PyData}
theorem Bn.tk (B : Bn K H0 d c l F kk ws ds H) : TK K H (hide [d, l, F] H) := tk_hide fun a ha => by
  obtain ⟨hd, _, _, ls, _, hl, _⟩ := B.S
  simp only [List.mem_cons, List.not_mem_nil, or_false] at ha
  rcases ha with rfl | rfl | rfl
  · exact .inr ⟨_, hd⟩
  · exact .inl ⟨_, hl⟩
  · exact .inl ⟨_, B.hF⟩
theorem Bn.same (B : Bn K H0 d c l F kk ws ds H) (s : Same H H') : Bn K H0 d c l F kk ws ds H' :=
  ⟨B.S.same s, B.fm.same s, B.F0, B.nd, B.nc, B.nl, s _ _ B.hF, B.hw.same (hide_mono fun b u _ e => s b u e), B.fine⟩
theorem Bn.draw {k' : Nat} (B : Bn K H0 d c l F kk ws ds H) (f : Fm d l H H') (S' : StAt H' d c l k') : Bn K H0 d c l F k' ws ds H' := by
  refine ⟨S', B.fm.trans f, B.F0, B.nd, B.nc, B.nl, f F _ B.hF B.nd B.nl, B.hw.same (hide_mono fun b u n e => f b u e (fun z => n (by simp [z])) fun z => n (by simp [z])), B.fine⟩
theorem Bn.add {v : V} {x : PyData} (B : Bn K H0 d c l F kk ws ds H) (hv : Dp K H v x) (fx : flatD x = true) (ok : Fine x) : Bn K H0 d c l F kk (ws ++ [v]) (ds ++ [x]) (upd H F (.lst (ws ++ [v]))) := by
  refine ⟨B.S.upd B.nd B.nc B.nl, B.fm.upd B.F0, B.F0, B.nd, B.nc, B.nl, upd_same, ?_, fun y hy => ?_⟩
  · rw [hide_upd (by simp)]
    exact B.hw.app (.cons (hv.tk B.tk fx) .nil)
  · rcases List.mem_append.mp hy with q | q
    · exact B.fine y q
    · rw [List.mem_singleton.mp q]
      exact ok
end
theorem flat_mem : ∀ {zs : List PyData}, flatDs zs = true → ∀ x ∈ zs, flatD x = true
  | z :: zs, h, x, hx => by
    have h' : (flatD z && flatDs zs) = true := h
    rw [Bool.and_eq_true] at h'
    cases hx with
    | head => exact h'.1
    | tail _ hx => exact flat_mem h'.2 x hx
theorem flat_of : ∀ {zs : List PyData}, (∀ x ∈ zs, flatD x = true) → flatDs zs = true
  | [], _ => rfl
  | z :: zs, h => by
    show (flatD z && flatDs zs) = true
    rw [h z (.head _), flat_of fun x hx => h x (.tail _ hx)]
    rfl
/-- a paper on a kind as it may be told -/
structure Sheet (sd : List PyData) : Prop where
  lf : ∀ x ∈ sd, Lf x = true
  fl : flatDs sd = true
  ln : sd.length ≤ 5
  hd : ∃ x ds, sd = .str x :: ds ∧ (x = ("mixed" : Str) → ∃ a b c e : Int, ds = [.int a, .int b, .int c, .int e] ∧ a.natAbs ≤ 99 ∧ b.natAbs ≤ 99 ∧ c.natAbs ≤ 99 ∧ e.natAbs ≤ 99)
theorem sheet_of {ups downs : List (Nat × Nat)} (hu : ∀ p ∈ ups, p.1 ≤ 99 ∧ p.2 ≤ 99) (hd : ∀ p ∈ downs, p.1 ≤ 99 ∧ p.2 ≤ 99) : ∃ sd, kindD ups downs = .tuple sd ∧ Sheet sd := by
  have one : ∀ x : Str, Lf (.str x) = true → x ≠ ("mixed" : Str) → Sheet [.str x] := fun x h n => ⟨fun y hy => by rw [List.mem_singleton.mp hy]; exact h, rfl, by simp, x, [], rfl, fun z => absurd z n⟩
  unfold kindD
  split
  · next u us d ds =>
    have h1 := hu u (.head _)
    have h2 := hd d (.head _)
    refine ⟨_, rfl, fun y hy => ?_, rfl, by simp, _, _, rfl, fun _ => ⟨_, _, _, _, rfl, by omega, by omega, by omega, by omega⟩⟩
    simp only [List.mem_cons, List.not_mem_nil, or_false] at hy
    rcases hy with rfl | rfl | rfl | rfl | rfl
    · decide +kernel
    · exact lf_int (by omega)
    · exact lf_int (by omega)
    · exact lf_int (by omega)
    · exact lf_int (by omega)
  · exact ⟨_, rfl, one _ (by decide +kernel) (by decide +kernel)⟩
  · exact ⟨_, rfl, one _ (by decide +kernel) (by decide +kernel)⟩
  · exact ⟨_, rfl, one _ (by decide +kernel) (by decide +kernel)⟩
section
variable {P : Program} {w : World} {K : PySem.W.Frag} {mg : Str → Option Value} {base : Heap}
def spBent (K : PySem.W.Frag) : Sp := fun vs H Q _ => ∃ (d c l : Addr) (k : Nat) (p q : Addr) (v : V) (xs ys : List (Int × Fx)) (sd : List PyData), vs = [.ref d, .ref p, .ref q, v] ∧ StAt H d c l k ∧ k ≤ 60000 ∧ ShAt K H p xs ∧ ShAt K H q ys ∧ xs.length ≤ 8 ∧ ys.length ≤ 8 ∧ Dp K H v (.tuple sd) ∧ Sheet sd ∧
  ∀ H' F ws ds k', k' ≤ k + 40 → Bn K H d c l F k' ws ds H' → ds.length ≤ 60 → Q (.ref F) H'
theorem scLawBent : FnScope ["state", "one", "other", "sheet", "found", "rows", "spots", "again", "places", "at", "odd"] ["state", "one", "other", "sheet"] (defScope sLawBent) := ⟨rfl, rfl, rfl, by decide +kernel, rfl, by decide +kernel, by decide +kernel⟩
theorem ok_law_bent {f f1 : Addr} {fd fd1 : FuncData} (F : Df K mg "_law_bent" sLawBent ["state", "one", "other", "sheet"] f fd) (D1 : Df K mg "_law_draw" sDraw ["state", "many"] f1 fd1) (G1 : FnOk P w K mg base CX0 2 f1 fd1 ["state", "many"] spDraw) (T : Bt mg) (mmax : mg "max" = none) : FnOk P w K mg base CX0 3 f fd ["state", "one", "other", "sheet"] (spBent K) := by
  refine F.F.ok scLawBent (fun vs H Q E h => ?_) (fun cdv A outer s H vs Q E hr h => ?_)
  · obtain ⟨d, c, l, k, p, q, v, xs, ys, sd, rfl, _⟩ := h
    rfl
  · obtain ⟨d, c, l, k0, p, q, v, xs, ys, sd, rfl, S, hk0, hx, hy, x8, y8, hv, sh, k⟩ := h
    refine ⟨_, pss_cons (ps_set (i := 4) scLawBent.nd rfl (Or.inl rfl) (pe_lst (pa_cons (pv 3) (pa_cons (pe_callTy call_list_of (by rfl) T.list (by decide +kernel) (pa_cons (pv 3) pa_nil)) (pa_cons (pe_slice sl_data (pv 3) po_none (po_some (pe_un un_neg pe_int))) (pa_cons (pe_op op_sumD (pv 3) (pe_tup (pa_cons pe_int pa_nil))) (pa_cons pe_non (pa_cons (pe_tup pa_nil) (pa_cons pe_int (pa_cons pe_str (pa_cons (pe_tup (pa_cons pe_str pa_nil)) (pa_cons (pe_tup (pa_cons pe_non pa_nil)) (pa_cons (pe_tup (pa_cons (pe_lst (pa_cons pe_str pa_nil)) pa_nil)) pa_nil)))))))))))))
      (pss_cons (ps_set (i := 4) scLawBent.nd rfl (Or.inl rfl) (pe_op op_cat (pv 4) (pe_lst (pa_cons (pe_tup (pa_cons pe_str pa_nil)) (pa_cons (pe_tup (pa_cons pe_str pa_nil)) (pa_cons (pe_tup (pa_cons pe_str pa_nil)) (pa_cons (pe_tup (pa_cons pe_str pa_nil)) (pa_cons (pe_tup (pa_cons pe_str (pa_cons pe_int pa_nil))) (pa_cons (pe_tup (pa_cons pe_str (pa_cons pe_int (pa_cons pe_int (pa_cons pe_int pa_nil))))) (pa_cons (pe_tup (pa_cons pe_str (pa_cons pe_int pa_nil))) pa_nil))))))))))
      (pss_cons (ps_par (i := 5) (j := 6) (by rfl) scLawBent.nd rfl rfl (by decide) rfl rfl (pa_cons (pe_callB (call_max2 rfl) (by rfl) mmax (by decide +kernel) (pa_cons pe_int (pa_cons (pe_callB (r := Evl.rLenS K) call_len_seq (by rfl) T.len PySem.boot_len (pa_cons (pv 1) pa_nil)) pa_nil))) (pa_cons (pe_callB (call_max2 rfl) (by rfl) mmax (by decide +kernel) (pa_cons pe_int (pa_cons (pe_callB (r := Evl.rLenS K) call_len_seq (by rfl) T.len PySem.boot_len (pa_cons (pv 2) pa_nil)) pa_nil))) pa_nil)) (by rfl))
      (pss_cons (ps_for PassesOwn.never rfl (pi_range1 rfl T.range (pa_cons pe_int pa_nil)) (pg_name (i := 7) scLawBent.nd rfl (Or.inl rfl))
        (pss_cons (ps_set (i := 8) scLawBent.nd rfl (Or.inl rfl) (pe_tup (pa_cons (pe_call G1 hr (by rfl) D1.g D1.F.kp D1.b .nil pass0 (pa_cons (pv 0) (pa_cons (pv 5) pa_nil))) (pa_cons (pe_call G1 hr (by rfl) D1.g D1.F.kp D1.b .nil pass0 (pa_cons (pv 0) (pa_cons (pv 6) pa_nil))) (pa_cons (pe_call G1 hr (by rfl) D1.g D1.F.kp D1.b .nil pass0 (pa_cons (pv 0) (pa_cons (pv 5) pa_nil))) (pa_cons (pe_call G1 hr (by rfl) D1.g D1.F.kp D1.b .nil pass0 (pa_cons (pv 0) (pa_cons (pv 6) pa_nil))) pa_nil))))))
        (pss_one (ps_expr (pe_bm PySem.F.plainAttrs_list PySem.F.slot_list_append PySem.F.type_list_append mt_append (pv 4) (pa_cons (pe_op op_sumD (pe_tup (pa_cons pe_str pa_nil)) (pv 8)) pa_nil))))))
      (pss_cons (ps_if (pt_cmpR op_eq (pe_ix ix_tup (pv 3) pe_int (fun _ _ => rfl)) pe_str (nomark _))
        (pss_cons (ps_set (i := 9) scLawBent.nd rfl (Or.inl rfl) (pe_op op_add pe_int (pe_call G1 hr (by rfl) D1.g D1.F.kp D1.b .nil pass0 (pa_cons (pv 0) (pa_cons pe_int pa_nil)))))
        (pss_cons (ps_for PassesOwn.never rfl (pi_tup (pe_tup (pa_cons (pe_op op_add (pe_ix ix_tup (pv 3) (pv 9) (fun _ _ => rfl)) pe_int) (pa_cons (pe_op op_sub (pe_ix ix_tup (pv 3) (pv 9) (fun _ _ => rfl)) pe_int) (pa_cons (pe_un un_neg pe_int) (pa_cons pe_non (pa_cons pe_bl (pa_cons pe_bl (pa_cons pe_str (pa_cons (pe_tup (pa_cons pe_int pa_nil)) (pa_cons (pe_op op_pow pe_int pe_int) pa_nil))))))))))) (pg_name (i := 10) scLawBent.nd rfl (Or.inl rfl))
          (pss_one (ps_expr (pe_bm PySem.F.plainAttrs_list PySem.F.slot_list_append PySem.F.type_list_append mt_append (pv 4) (pa_cons (pe_op op_sumD (pe_op op_sumD (pe_slice sl_data (pv 3) po_none (po_some (pv 9))) (pe_tup (pa_cons (pv 10) pa_nil))) (pe_slice sl_data (pv 3) (po_some (pe_op op_add (pv 9) pe_int)) po_none)) pa_nil)))))
        (pss_one (ps_expr (pe_bm PySem.F.plainAttrs_list PySem.F.slot_list_append PySem.F.type_list_append mt_append (pv 4) (pa_cons (pe_op op_sumD (pe_op op_sumD (pe_tup (pa_cons pe_str pa_nil)) (pe_slice sl_data (pv 3) (po_some pe_int) po_none)) (pe_slice sl_data (pv 3) (po_some pe_int) (po_some pe_int))) pa_nil)))))) pss_nil)
      (pss_one (ps_ret (pv 4))))))), ?_⟩
    obtain ⟨vx, hvx, hpx⟩ := hx
    obtain ⟨vy, hvy, hpy⟩ := hy
    have lx := hpx.len
    have ly := hpy.len
    obtain ⟨a, us, rfl, hs, ha⟩ := hv.tup_inv
    have flS : flatD (.tuple sd) = true := by simp only [flatD, sh.fl]
    refine ⟨_, rfl, _, rfl, a, us, rfl, .inr hs, fun x1 n1 => ?_⟩
    have N1 := S.neD n1
    have s1 := Same.new (o := .lst us) n1
    have g1 : (upd H x1 (.lst us)) x1 = some (.lst us) := upd_same
    generalize upd H x1 (.lst us) = H1 at *
    refine ⟨_, rfl, 1, rfl, -1, rfl, _, hv.same s1, fun H2 w2 s2 h2 => ⟨_, rfl, (by show 1 ≤ sizeLine; decide), fun x3 n3 => ?_⟩⟩
    have s3 := Same.new (o := .tup [V.int 0]) n3
    have h3 := Dp.new_tup (K := K) (ds := [.int 0]) n3 (.cons (.int 0) .nil)
    generalize upd H2 x3 (.tup [V.int 0]) = H3 at *
    refine ⟨_, _, ((hv.same s1).same s2).same s3, h3, by have := sh.ln; simp; omega, fun H4 w4 s4 h4 => ⟨(by show 0 ≤ sizeLine; decide), fun x5 n5 => ?_⟩⟩
    have s5 := Same.new (o := .tup []) n5
    have h5 := Dp.new_tup (K := K) (ds := []) n5 .nil
    generalize upd H4 x5 (.tup []) = H5 at *
    refine ⟨(by show 1 ≤ sizeLine; decide), fun x6 n6 => ?_⟩
    have s6 := Same.new (o := .tup [V.str "Down"]) n6
    have h6 := Dp.new_tup (K := K) (ds := [.str "Down"]) n6 (.cons (.str _) .nil)
    generalize upd H5 x6 (.tup [V.str "Down"]) = H6 at *
    refine ⟨(by show 1 ≤ sizeLine; decide), fun x7 n7 => ?_⟩
    have s7 := Same.new (o := .tup [V.non]) n7
    have h7 := Dp.new_tup (K := K) (ds := [.none]) n7 (.cons .non .nil)
    generalize upd H6 x7 (.tup [V.non]) = H7 at *
    refine ⟨(by show 1 ≤ sizeLine; decide), fun x8 n8 => ?_⟩
    have S7 := S.same (s1.trans (s2.trans (s3.trans (s4.trans (s5.trans (s6.trans s7))))))
    have N8 := S7.neD n8
    have s8 := Same.new (o := .lst [V.str "down"]) n8
    have g8 : (upd H7 x8 (.lst [V.str "down"])) x8 = some (.lst [V.str "down"]) := upd_same
    generalize upd H7 x8 (.lst [V.str "down"]) = H8 at *
    refine ⟨(by show 1 ≤ sizeLine; decide), fun x9 n9 => ?_⟩
    have s9 := Same.new (o := .tup [V.ref x8]) n9
    have g9 : SqT K (upd H8 x9 (.tup [V.ref x8])) x9 [V.ref x8] := SqT.of upd_same
    generalize upd H8 x9 (.tup [V.ref x8]) = H9 at *
    refine ⟨(by show 11 ≤ sizeLine; decide), fun F1 nF1 => ?_⟩
    obtain ⟨ws1, ew1⟩ : ∃ ws1, ws1 = [V.ref a, V.ref x1, w2, w4, V.non, V.ref x5, V.int 5, V.str "down", V.ref x6, V.ref x7, V.ref x9] := ⟨_, rfl⟩
    rw [← ew1]
    have s10 := Same.new (o := .lst ws1) nF1
    have g10 : (upd H9 F1 (.lst ws1)) F1 = some (.lst ws1) := upd_same
    generalize upd H9 F1 (.lst ws1) = H10 at *
    refine ⟨_, rfl, (by show 1 ≤ sizeLine; decide), fun y1 m1 => ?_⟩
    have t1 := Same.new (o := .tup [V.str "down"]) m1
    have e1 := Dp.new_tup (K := K) (ds := [.str "down"]) m1 (.cons (.str _) .nil)
    generalize upd H10 y1 (.tup [V.str "down"]) = J1 at *
    refine ⟨(by show 1 ≤ sizeLine; decide), fun y2 m2 => ?_⟩
    have t2 := Same.new (o := .tup [V.str "up"]) m2
    have e2 := Dp.new_tup (K := K) (ds := [.str "up"]) m2 (.cons (.str _) .nil)
    generalize upd J1 y2 (.tup [V.str "up"]) = J2 at *
    refine ⟨(by show 1 ≤ sizeLine; decide), fun y3 m3 => ?_⟩
    have t3 := Same.new (o := .tup [V.str "straight"]) m3
    have e3 := Dp.new_tup (K := K) (ds := [.str "straight"]) m3 (.cons (.str _) .nil)
    generalize upd J2 y3 (.tup [V.str "straight"]) = J3 at *
    refine ⟨(by show 1 ≤ sizeLine; decide), fun y4 m4 => ?_⟩
    have t4 := Same.new (o := .tup [V.str "mixed"]) m4
    have e4 := Dp.new_tup (K := K) (ds := [.str "mixed"]) m4 (.cons (.str _) .nil)
    generalize upd J3 y4 (.tup [V.str "mixed"]) = J4 at *
    refine ⟨(by show 2 ≤ sizeLine; decide), fun y5 m5 => ?_⟩
    have t5 := Same.new (o := .tup [V.str "down", V.int 0]) m5
    have e5 := Dp.new_tup (K := K) (ds := [.str "down", .int 0]) m5 (.cons (.str _) (.cons (.int 0) .nil))
    generalize upd J4 y5 (.tup [V.str "down", V.int 0]) = J5 at *
    refine ⟨(by show 4 ≤ sizeLine; decide), fun y6 m6 => ?_⟩
    have t6 := Same.new (o := .tup [V.str "mixed", V.int 0, V.int 0, V.int 0]) m6
    have e6 := Dp.new_tup (K := K) (ds := [.str "mixed", .int 0, .int 0, .int 0]) m6 (.cons (.str _) (.cons (.int 0) (.cons (.int 0) (.cons (.int 0) .nil))))
    generalize upd J5 y6 (.tup [V.str "mixed", V.int 0, V.int 0, V.int 0]) = J6 at *
    refine ⟨(by show 2 ≤ sizeLine; decide), fun y7 m7 => ?_⟩
    have t7 := Same.new (o := .tup [V.str "", V.int 0]) m7
    have e7 := Dp.new_tup (K := K) (ds := [.str "", .int 0]) m7 (.cons (.str _) (.cons (.int 0) .nil))
    generalize upd J6 y7 (.tup [V.str "", V.int 0]) = J7 at *
    refine ⟨(by show 7 ≤ sizeLine; decide), fun F2 nF2 => ?_⟩
    obtain ⟨ws2, ew2⟩ : ∃ ws2, ws2 = [V.ref y1, V.ref y2, V.ref y3, V.ref y4, V.ref y5, V.ref y6, V.ref y7] := ⟨_, rfl⟩
    rw [← ew2]
    have t8 := Same.new (o := .lst ws2) nF2
    have g20 : (upd J7 F2 (.lst ws2)) F2 = some (.lst ws2) := upd_same
    generalize upd J7 F2 (.lst ws2) = J8 at *
    have b7 := t7.trans t8
    have b6 := t6.trans b7
    have b5 := t5.trans b6
    have b4 := t4.trans b5
    have b3 := t3.trans b4
    have b2 := t2.trans b3
    have b1 := t1.trans b2
    refine ⟨F1, F2, _, _, rfl, rfl, b1 _ _ g10, g20, Nat.le_of_lt (small1000 (by rw [ew1, ew2]; simp)), fun G nG => ?_⟩
    have t9 := Same.new (o := .lst (ws1 ++ ws2)) nG
    have g30 : (upd J8 G (.lst (ws1 ++ ws2))) G = some (.lst (ws1 ++ ws2)) := upd_same
    generalize upd J8 G (.lst (ws1 ++ ws2)) = J9 at *
    have c8 := t8.trans t9
    have c7 := t7.trans c8
    have c6 := t6.trans c7
    have c5 := t5.trans c6
    have c4 := t4.trans c5
    have c3 := t3.trans c4
    have c2 := t2.trans c3
    have c1 := t1.trans c2
    have d10 := s10.trans c1
    have d9 := s9.trans d10
    have d8 := s8.trans d9
    have d7 := s7.trans d8
    have d6 := s6.trans d7
    have d5 := s5.trans d6
    have d4 := s4.trans d5
    have d3 := s3.trans d4
    have d2 := s2.trans d3
    have d1 := s1.trans d2
    have toJ8 : Same H J8 := s1.trans (s2.trans (s3.trans (s4.trans (s5.trans (s6.trans (s7.trans (s8.trans (s9.trans (s10.trans b1)))))))))
    have NG := (S.same toJ8).neD nG
    have G0 : H G = none := by
      cases z : H G with
      | none => rfl
      | some o =>
        rw [toJ8 _ _ z] at nG
        cases nG
    have S9 := S.same d1
    have tkf : TK K J9 (hide [d, l, G] J9) := tk_hide fun z hz => by
      obtain ⟨hd', _, _, ls, _, hl', _⟩ := S9
      simp only [List.mem_cons, List.not_mem_nil, or_false] at hz
      rcases hz with rfl | rfl | rfl
      · exact .inr ⟨_, hd'⟩
      · exact .inl ⟨_, hl'⟩
      · exact .inl ⟨_, g30⟩
    have x1G : x1 ∉ [d, l, G] := fun z => by
      simp only [List.mem_cons, List.not_mem_nil, or_false] at z
      rcases z with z | z | z
      · exact N1.1 z
      · exact N1.2.2 z
      · rw [← z, (s2.trans (s3.trans (s4.trans (s5.trans (s6.trans (s7.trans (s8.trans (s9.trans (s10.trans b1))))))))) _ _ g1] at nG
        cases nG
    have x8G : x8 ∉ [d, l, G] := fun z => by
      simp only [List.mem_cons, List.not_mem_nil, or_false] at z
      rcases z with z | z | z
      · exact N8.1 z
      · exact N8.2.2 z
      · rw [← z, (s9.trans (s10.trans b1)) _ _ g8] at nG
        cases nG
    have hv9 := (hv.same d1).tk tkf flS
    obtain ⟨a', us', ea, hs', ha'⟩ := hv9.tup_inv
    have i1 : Dp K (hide [d, l, G] J9) (.ref x1) (.list sd) := by
      have q := DpAll.tk tkf sh.fl (ha.same d1)
      exact .lst (seq_hide (d2 _ _ g1) x1G) q
    have cutF : ∀ x ∈ cutD sd none (some (-1)), x ∈ sd := fun x hx => List.mem_of_mem_drop (List.mem_of_mem_take hx)
    have fl_sub : ∀ {xs : List PyData}, (∀ x ∈ xs, x ∈ sd) → flatDs xs = true := fun {xs} hh => flat_of fun x hx => flat_mem sh.fl x (hh x hx)
    have i2 : Dp K (hide [d, l, G] J9) w2 (.tuple (cutD sd none (some (-1)))) := (h2.same d3).tk tkf (by simp only [flatD, fl_sub cutF])
    have i3 : Dp K (hide [d, l, G] J9) w4 (.tuple (sd ++ [.int 0])) := (h4.same d5).tk tkf (by simp only [flatD, flatDs_app sh.fl (rfl : flatDs [.int 0] = true)])
    have i11 : Dp K (hide [d, l, G] J9) (.ref x9) (.tuple [.list [.str "down"]]) := .tup (tkf _ _ (d10.tup g9)) (.cons (.lst (seq_hide (d9 _ _ g8) x8G) (.cons (.str _) .nil)) .nil)
    have B0 : Bn K H d c l G k0 (ws1 ++ ws2) ([.tuple sd, .list sd, .tuple (cutD sd none (some (-1))), .tuple (sd ++ [.int 0]), .none, .tuple [], .int 5, .str "down", .tuple [.str "Down"], .tuple [.none], .tuple [.list [.str "down"]]] ++ [.tuple [.str "down"], .tuple [.str "up"], .tuple [.str "straight"], .tuple [.str "mixed"], .tuple [.str "down", .int 0], .tuple [.str "mixed", .int 0, .int 0, .int 0], .tuple [.str "", .int 0]]) J9 := by
      refine ⟨S9, same_fm d1, G0, NG.1, NG.2.1, NG.2.2, g30, ?_, fun x hx => ?_⟩
      · rw [ew1, ew2]
        refine DpAll.app ?_ ?_
        · exact .cons hv9 (.cons i1 (.cons i2 (.cons i3 (.cons .non (.cons ((h5.same d6).tk tkf rfl) (.cons (.int 5) (.cons (.str _) (.cons ((h6.same d7).tk tkf rfl) (.cons ((h7.same d8).tk tkf rfl) (.cons i11 .nil))))))))))
        · exact .cons ((e1.same c2).tk tkf rfl) (.cons ((e2.same c3).tk tkf rfl) (.cons ((e3.same c4).tk tkf rfl) (.cons ((e4.same c5).tk tkf rfl) (.cons ((e5.same c6).tk tkf rfl) (.cons ((e6.same c7).tk tkf rfl) (.cons ((e7.same c8).tk tkf rfl) .nil))))))
      · have ln := sh.ln
        simp only [List.mem_append, List.mem_cons, List.not_mem_nil, or_false] at hx
        rcases hx with (rfl | rfl | rfl | rfl | rfl | rfl | rfl | rfl | rfl | rfl | rfl) | rfl | rfl | rfl | rfl | rfl | rfl | rfl
        · exact fine_tup sh.lf (by omega)
        · exact fine_lst sh.lf (by omega)
        · refine fine_tup (fun x hx => sh.lf x (cutF x hx)) ?_
          have : (cutD sd none (some (-1))).length ≤ sd.length := by
            unfold cutD
            rw [List.length_take, List.length_drop]
            omega
          omega
        · refine fine_tup (fun x hx => ?_) (by rw [List.length_append]; simp; omega)
          rcases List.mem_append.mp hx with z | z
          · exact sh.lf x z
          · rw [List.mem_singleton.mp z]
            decide +kernel
        all_goals first | exact lf_fine (by decide +kernel) | exact fine_tup (by decide +kernel) (by decide)
    have tvx : SqT K J9 p vx := d1.tup hvx
    have tvy : SqT K J9 q vy := d1.tup hvy
    have tv9 : SqT K J9 a us := d1.tup hs
    obtain ⟨ws0, ew0⟩ : ∃ ws0, ws0 = ws1 ++ ws2 := ⟨_, rfl⟩
    rw [← ew0] at B0
    generalize eds0 : ([.tuple sd, .list sd, .tuple (cutD sd none (some (-1))), .tuple (sd ++ [.int 0]), .none, .tuple [], .int 5, .str "down", .tuple [.str "Down"], .tuple [.none], .tuple [.list [.str "down"]]] ++ [.tuple [.str "down"], .tuple [.str "up"], .tuple [.str "straight"], .tuple [.str "mixed"], .tuple [.str "down", .int 0], .tuple [.str "mixed", .int 0, .int 0, .int 0], .tuple [.str "", .int 0]] : List PyData) = ds0 at B0
    have lds0 : ds0.length = 18 := by rw [← eds0]; rfl
    have keepS : ∀ {kk ws ds H'}, Bn K H d c l G kk ws ds H' → SqT K H' a us := fun {kk ws ds H'} B => tk_fm B.fm S _ _ hs
    have keepV : ∀ {kk ws ds H'}, Bn K H d c l G kk ws ds H' → Dp K H' (.ref a) (.tuple sd) := fun {kk ws ds H'} B => hv.tk (tk_fm B.fm S) flS
    refine ⟨_, rfl, p, vx, rfl, .inr tvx, _, _, rfl, _, rfl, q, vy, rfl, .inr tvy, _, _, rfl, _, _, rfl, ?_⟩
    obtain ⟨rr, err⟩ : ∃ rr : Int, rr = (if (vx.length : Int) > 1 then (vx.length : Int) else 1) := ⟨_, rfl⟩
    obtain ⟨ss, ess⟩ : ∃ ss : Int, ss = (if (vy.length : Int) > 1 then (vy.length : Int) else 1) := ⟨_, rfl⟩
    have rr1 : 1 ≤ rr ∧ rr ≤ 8 := by rw [err]; split <;> omega
    have ss1 : 1 ≤ ss ∧ ss ≤ 8 := by rw [ess]; split <;> omega
    rw [← err, ← ess]
    refine ⟨8, rfl, by decide, by decide, for_range (lo := 0) (n := 8) (fun i σ H' => ∃ v7 v8 ws ds, σ = [some (.ref d), some (.ref p), some (.ref q), some (.ref a), some (.ref G), some (.int rr), some (.int ss), v7, v8, none, none] ∧ Bn K H d c l G (k0 + 4 * i) ws ds H' ∧ ds.length = 18 + i) ⟨none, none, ws0, ds0, rfl, B0, lds0⟩ ?_ ?_⟩
    · rintro i σ H2 hi ⟨v7, v8, ws, ds, rfl, B, lds⟩
      refine ⟨_, rfl, _, rfl, d, c, l, _, rr, rfl, B.S, by omega, by omega, by omega, fun r1 K1 a1 b1 S1 f1 => ?_⟩
      have B1 := B.draw f1 S1
      refine ⟨_, rfl, _, rfl, d, c, l, _, ss, rfl, S1, by omega, by omega, by omega, fun r2 K2 a2 b2 S2 f2 => ?_⟩
      have B2 := B1.draw f2 S2
      refine ⟨_, rfl, _, rfl, d, c, l, _, rr, rfl, S2, by omega, by omega, by omega, fun r3 K3 a3 b3 S3 f3 => ?_⟩
      have B3 := B2.draw f3 S3
      refine ⟨_, rfl, _, rfl, d, c, l, _, ss, rfl, S3, by omega, by omega, by omega, fun r4 K4 a4 b4 S4 f4 => ⟨(by show 4 ≤ sizeLine; decide), fun z nz => ?_⟩⟩
      have B4 := B3.draw f4 S4
      have sz := Same.new (o := .tup [V.int r1, V.int r2, V.int r3, V.int r4]) nz
      have hz := Dp.new_tup (K := K) (ds := [.int r1, .int r2, .int r3, .int r4]) nz (.cons (.int _) (.cons (.int _) (.cons (.int _) (.cons (.int _) .nil))))
      have B5 := B4.same sz
      generalize upd K4 z (.tup [V.int r1, V.int r2, V.int r3, V.int r4]) = K5 at *
      refine ⟨_, rfl, .inl ⟨rfl, _, SqL.of B5.hF⟩, (by show 1 ≤ sizeLine; decide), fun y ny => ?_⟩
      have sy := Same.new (o := .tup [V.str "mixed"]) ny
      have hy := Dp.new_tup (K := K) (ds := [.str "mixed"]) ny (.cons (.str _) .nil)
      have B6 := B5.same sy
      have hz6 := hz.same sy
      generalize upd K5 y (.tup [V.str "mixed"]) = K6 at *
      refine ⟨_, rfl, [.str "mixed"], [.int r1, .int r2, .int r3, .int r4], hy, hz6, by simp, fun K7 w7 s7' h7' => ?_⟩
      have B7 := B6.same s7'
      have lw := B7.hw.len
      refine ⟨G, _, _, rfl, rfl, B7.hF, small1000 (by omega), ?_⟩
      have h7'' : Dp K K7 w7 (.tuple [.str "mixed", .int r1, .int r2, .int r3, .int r4]) := h7'
      refine ⟨_, _, ws ++ [w7], ds ++ [.tuple [.str "mixed", .int r1, .int r2, .int r3, .int r4]], rfl, ?_, by rw [List.length_append, lds]; rfl⟩
      have fin : Fine (.tuple [.str "mixed", .int r1, .int r2, .int r3, .int r4]) := fine_tup (fun x hx => by
        simp only [List.mem_cons, List.not_mem_nil, or_false] at hx
        rcases hx with rfl | rfl | rfl | rfl | rfl
        · decide +kernel
        · exact lf_int (by omega)
        · exact lf_int (by omega)
        · exact lf_int (by omega)
        · exact lf_int (by omega)) (by simp)
      have := B7.add h7'' rfl fin
      rw [show k0 + 4 * (i + 1) = k0 + 4 * i + 1 + 1 + 1 + 1 by omega]
      exact this
    · rintro σ H2 ⟨v7, v8, ws, ds, rfl, B, lds⟩
      obtain ⟨x, sd', esd, mix⟩ := sh.hd
      subst esd
      have i0 : ∃ vs, us = .str x :: vs := by
        cases ha with
        | cons h0 _ =>
          cases h0
          exact ⟨_, rfl⟩
      obtain ⟨vs, rfl⟩ := i0
      refine ⟨_, rfl, a, _, 0, .str x, rfl, rfl, keepS B, atI_nat (j := 0) rfl, rfl, _, rfl, ?_⟩
      by_cases hm : x = ("mixed" : Str)
      · obtain ⟨m1', m2', m3', m4', rfl, q1, q2, q3, q4⟩ := mix hm
        subst hm
        rw [decide_eq_true rfl]
        refine iteT ⟨_, rfl, d, c, l, _, 4, rfl, B.S, by decide, by decide, by omega, fun r H3 r0 r4 S3 f3 => ⟨_, _, rfl, rfl, ?_⟩⟩
        have B3 := B.draw f3 S3
        obtain ⟨at_, eat⟩ : ∃ at_ : Nat, 1 + r = (at_ : Int) := ⟨(1 + r).toNat, by omega⟩
        have at1 : 1 ≤ at_ ∧ at_ ≤ 4 := by omega
        dsimp only
        rw [eat]
        have hvs : vs = [V.int m1', V.int m2', V.int m3', V.int m4'] := by
          cases ha with
          | cons _ hb => exact DpAll.of_ints (ns := [m1', m2', m3', m4']) hb
        subst hvs
        obtain ⟨sa, hsa, ssa⟩ : ∃ sa : Int, [V.str "mixed", V.int m1', V.int m2', V.int m3', V.int m4'][at_]? = some (.int sa) ∧ sa.natAbs ≤ 99 := by
          have : at_ = 1 ∨ at_ = 2 ∨ at_ = 3 ∨ at_ = 4 := by omega
          rcases this with rfl | rfl | rfl | rfl
          · exact ⟨_, rfl, q1⟩
          · exact ⟨_, rfl, q2⟩
          · exact ⟨_, rfl, q3⟩
          · exact ⟨_, rfl, q4⟩
        refine ⟨_, rfl, _, rfl, a, _, _, .int sa, rfl, rfl, keepS B3, atI_nat hsa, _, _, rfl, rfl, _, rfl, _, rfl, a, _, _, .int sa, rfl, rfl, keepS B3, atI_nat hsa, _, _, rfl, rfl, 1, rfl, (by show 1 ≤ sizeLine; decide), fun z nz => ⟨_, _, rfl, rfl, ⟨by decide, by decide, by decide⟩, (by show 9 ≤ sizeLine; decide), fun t nt => ?_⟩⟩
        have sz := Same.new (o := .tup [V.int 0]) nz
        have hz := Dp.new_tup (K := K) (ds := [.int 0]) nz (.cons (.int _) .nil)
        have B4 := B3.same sz
        generalize upd H3 z (.tup [V.int 0]) = H4 at *
        obtain ⟨tvs, etvs⟩ : ∃ tvs, tvs = [V.int (sa + 1), V.int (sa - 1), V.int (-1), V.non, V.bl true, V.bl false, V.str "0", V.ref z, V.int (10 ^ (30 : Int).toNat)] := ⟨_, rfl⟩
        obtain ⟨tds, etds⟩ : ∃ tds : List PyData, tds = [.int (sa + 1), .int (sa - 1), .int (-1), .none, .bool true, .bool false, .str "0", .tuple [.int 0], .int (10 ^ (30 : Int).toNat)] := ⟨_, rfl⟩
        have hT : DpAll K H4 tvs tds := by
          rw [etvs, etds]
          exact .cons (.int _) (.cons (.int _) (.cons (.int _) (.cons .non (.cons (.bl _) (.cons (.bl _) (.cons (.str _) (.cons hz (.cons (.int _) .nil))))))))
        have lfT : ∀ x ∈ tds, Lf x = true := fun x hx => by
          rw [etds] at hx
          simp only [List.mem_cons, List.not_mem_nil, or_false] at hx
          rcases hx with rfl | rfl | rfl | rfl | rfl | rfl | rfl | rfl | rfl
          · exact lf_int (by omega)
          · exact lf_int (by omega)
          all_goals decide +kernel
        have flT : flatDs tds = true := by rw [etds]; rfl
        have st := Same.new (o := .tup tvs) nt
        have B5 := B4.same st
        have hT5 := hT.same st
        have hTt : SqT K (upd H4 t (.tup tvs)) t tvs := SqT.of upd_same
        have eT : upd H4 t (.tup [V.int (sa + 1), V.int (sa - 1), V.int (-1), V.non, V.bl true, V.bl false, V.str "0", V.ref z, V.int (10 ^ (30 : Int).toNat)]) = upd H4 t (.tup tvs) := by rw [etvs]
        have eL : tvs.length = 9 := by rw [etvs]; rfl
        rw [eT]
        clear eT
        generalize upd H4 t (.tup tvs) = H5 at *
        refine ⟨t, rfl, ⟨tvs, hTt⟩, for_tup (K := K) (a := t) (xs := tvs) (fun i σ H' => ∃ v10 ws ds, σ = [some (.ref d), some (.ref p), some (.ref q), some (.ref a), some (.ref G), some (.int rr), some (.int ss), v7, v8, some (.int (at_ : Int)), v10] ∧ Bn K H d c l G (k0 + 4 * 8 + 1) ws ds H' ∧ DpAll K H' tvs tds ∧ SqT K H' t tvs ∧ ds.length = 26 + i) ⟨none, ws, ds, rfl, B5, hT5, hTt, by omega⟩ (fun i σ H' _ ⟨_, _, _, _, _, _, h, _⟩ => h) ?_ ?_⟩
        · rintro i z' σ H6 hi ⟨v10, ws, ds, rfl, B6, hT6, hTt6, lds6⟩
          obtain ⟨od, hod, hzd⟩ := hT6.get hi
          have hi9 : i < 9 := by rw [← eL]; exact (List.getElem?_eq_some_iff.mp hi).1
          have lfo := lfT od (List.mem_of_getElem? hod)
          have flo := flat_mem flT od (List.mem_of_getElem? hod)
          refine ⟨_, rfl, .inl ⟨rfl, _, SqL.of B6.hF⟩, _, rfl, _, rfl, _, rfl, _, keepV B6, fun H7 w7 s7' h7' => ⟨_, rfl, (by show 1 ≤ sizeLine; decide), fun y ny => ?_⟩⟩
          rw [cut_to] at h7'
          have sy := Same.new (o := .tup [z']) ny
          have hy := Dp.new_tup (K := K) (ds := [od]) ny (.cons (hzd.same s7') .nil)
          have B8 := (B6.same s7').same sy
          have h8 := h7'.same sy
          have s68 := s7'.trans sy
          generalize upd H7 y (.tup [z']) = H8 at *
          have lln : ∀ n : Nat, (List.take n [PyData.str "mixed", .int m1', .int m2', .int m3', .int m4']).length ≤ 5 := fun n => by rw [List.length_take]; exact Nat.min_le_right _ _
          refine ⟨_, [od], h8, hy, by have := lln at_; simp only [List.length_singleton]; omega, fun H9 w9 s9' h9' => ?_⟩
          have B9 := B8.same s9'
          refine ⟨_, rfl, _, rfl, _, _, rfl, rfl, _, rfl, _, keepV B9, fun Ha wa sa' ha' => ?_⟩
          rw [show ((at_ : Int) + 1) = ((at_ + 1 : Nat) : Int) from rfl, cut_from] at ha'
          have ldr : (List.drop (at_ + 1) [PyData.str "mixed", .int m1', .int m2', .int m3', .int m4']).length ≤ 5 := by rw [List.length_drop]; exact Nat.sub_le _ _
          refine ⟨_, _, h9'.same sa', ha', by have := lln at_; rw [List.length_append]; simp only [List.length_singleton]; omega, fun Hb wb sb hb => ?_⟩
          have Bb := (B9.same sa').same sb
          have s6b := ((s68.trans s9').trans sa').trans sb
          have lw := Bb.hw.len
          refine ⟨G, _, _, rfl, rfl, Bb.hF, small1000 (by omega), ?_⟩
          have memb : ∀ x ∈ List.take at_ [PyData.str "mixed", .int m1', .int m2', .int m3', .int m4'] ++ [od] ++ List.drop (at_ + 1) [PyData.str "mixed", .int m1', .int m2', .int m3', .int m4'], Lf x = true ∧ flatD x = true := fun x hx => by
            rcases List.mem_append.mp hx with hx | hx
            · rcases List.mem_append.mp hx with hx | hx
              · exact ⟨sh.lf x (List.mem_of_mem_take hx), flat_mem sh.fl x (List.mem_of_mem_take hx)⟩
              · rw [List.mem_singleton.mp hx]
                exact ⟨lfo, flo⟩
            · exact ⟨sh.lf x (List.mem_of_mem_drop hx), flat_mem sh.fl x (List.mem_of_mem_drop hx)⟩
          refine ⟨_, ws ++ [wb], ds ++ [_], rfl, Bb.add hb (by simp only [flatD]; exact flat_of fun x hx => (memb x hx).2) (fine_tup (fun x hx => (memb x hx).1) ?_), ?_, ?_, ?_⟩
          · have := lln at_
            have e2 : (List.take at_ [PyData.str "mixed", .int m1', .int m2', .int m3', .int m4']).length + (List.drop (at_ + 1) [PyData.str "mixed", .int m1', .int m2', .int m3', .int m4']).length ≤ 5 := by
              rw [List.length_take, List.length_drop]
              simp only [List.length_cons, List.length_nil]
              omega
            rw [List.length_append, List.length_append]
            simp only [List.length_singleton]
            omega
          · exact DpAll.tk (tk_lst Bb.hF) flT (hT6.same s6b)
          · exact tk_lst Bb.hF _ _ (s6b.tup hTt6)
          · rw [List.length_append, lds6]
            rfl
        · rintro σ H6 ⟨v10, ws, ds, rfl, B6, hT6, hTt6, lds6⟩
          rw [eL] at lds6
          refine ⟨_, rfl, .inl ⟨rfl, _, SqL.of B6.hF⟩, (by show 1 ≤ sizeLine; decide), fun y ny => ?_⟩
          have sy := Same.new (o := .tup [V.str "mixed"]) ny
          have hy := Dp.new_tup (K := K) (ds := [.str "mixed"]) ny (.cons (.str _) .nil)
          have B7 := B6.same sy
          generalize upd H6 y (.tup [V.str "mixed"]) = H7 at *
          refine ⟨_, rfl, 3, rfl, _, keepV B7, fun H8 w8 s8' h8' => ?_⟩
          have B8 := B7.same s8'
          have h8'' : Dp K H8 w8 (.tuple [.int m3', .int m4']) := h8'
          refine ⟨_, _, hy.same s8', h8'', by simp, fun H9 w9 s9' h9' => ?_⟩
          have B9 := B8.same s9'
          refine ⟨_, rfl, 1, rfl, 3, rfl, _, keepV B9, fun Ha wa sa' ha' => ?_⟩
          have ha'' : Dp K Ha wa (.tuple [.int m1', .int m2']) := ha'
          refine ⟨_, _, h9'.same sa', ha'', by simp, fun Hb wb sb hb => ?_⟩
          have Bb := (B9.same sa').same sb
          have lw := Bb.hw.len
          have hb' : Dp K Hb wb (.tuple [.str "mixed", .int m3', .int m4', .int m1', .int m2']) := hb
          refine ⟨G, _, _, rfl, rfl, Bb.hF, small1000 (by omega), ?_⟩
          have fin : Fine (.tuple [.str "mixed", .int m3', .int m4', .int m1', .int m2']) := fine_tup (fun x hx => by
            simp only [List.mem_cons, List.not_mem_nil, or_false] at hx
            rcases hx with rfl | rfl | rfl | rfl | rfl
            · decide +kernel
            · exact lf_int (by omega)
            · exact lf_int (by omega)
            · exact lf_int (by omega)
            · exact lf_int (by omega)) (by simp)
          exact ⟨_, rfl, k _ G _ _ _ (by omega) (Bb.add hb' rfl fin) (by rw [List.length_append, lds6]; simp)⟩
      · rw [strNe hm]
        exact iteF ⟨_, rfl, k H2 G ws ds _ (by omega) B (by omega)⟩
end
end CS
set_option Elab.async false
set_option maxRecDepth 100000
set_option maxHeartbeats 16000000
set_option linter.unusedVariables false
set_option pp.maxSteps 400
namespace CS
open PySem L2 StX
/-- what is heard of a fine paper may be shown, twice in a list too -/
structure Shows (d : PyData) : Prop where
  ok : d.showable = true
  nd : d.hasDict = false
  dp : d.depth ≤ 60
  sz : d.shown.length + 64 ≤ sizeLine
theorem shows_of {d : PyData} (ok : d.showable = true) (nd : d.hasDict = false) (dp : d.depth ≤ 60) (lv : d.leavesShort 100 = true) (wt : d.weight ≤ 10000) : Shows d := by
  refine ⟨ok, nd, dp, ?_⟩
  have h := PyData.shown_le 100 (by decide) d lv
  have h2 : (100 + 2) * d.weight + 100 ≤ 102 * 10000 + 100 := Nat.add_le_add_right (Nat.mul_le_mul_left 102 wt) 100
  have h3 : 102 * 10000 + 100 + 64 ≤ sizeLine := by decide
  omega
theorem Fine.shows {d : PyData} (h : Fine d) (nd : d.hasDict = false) : Shows d := shows_of h.ok nd (by have := h.dp; omega) h.lv (by have := h.wt; omega)
theorem head_fine {d : PyData} (h : Fine d) : (PyData.str (headD d)).leavesShort 100 = true ∧ (PyData.str (headD d)).weight ≤ 1000 := by
  have lv := h.lv
  have wt := h.wt
  have none_ : (PyData.str "").leavesShort 100 = true ∧ (PyData.str "").weight ≤ 1000 := ⟨by decide +kernel, by decide +kernel⟩
  cases d with
  | tuple ds =>
    cases ds with
    | nil => exact none_
    | cons d0 ds =>
      cases d0 with
      | str x =>
        simp only [PyData.leavesShort, PyData.leavesShortAll, Bool.and_eq_true] at lv
        simp only [PyData.weight, PyData.weightAll] at wt
        refine ⟨?_, ?_⟩
        · simp only [headD, PyData.leavesShort]
          exact lv.1
        · simp only [headD, PyData.weight]
          omega
      | _ => exact none_
  | _ => exact none_
theorem heard_pair {ups downs : List (Nat × Nat)} {d : PyData} (h : Fine d) : Shows (.list [heardD ups downs d, heardD ups downs d]) := by
  have key : ∀ e : PyData, e.showable = true → e.hasDict = false → e.depth ≤ 5 → e.leavesShort 100 = true → e.weight ≤ 2000 → Shows (.list [e, e]) := fun e e1 e2 e3 e4 e5 => by
    refine shows_of ?_ ?_ ?_ ?_ ?_
    · simp only [PyData.showable, PyData.showableAll, e1, Bool.and_self]
    · simp only [PyData.hasDict, PyData.hasDictAll, e2, Bool.or_self]
    · simp only [PyData.depth, PyData.depthAll]
      omega
    · simp only [PyData.leavesShort, PyData.leavesShortAll, e4, Bool.and_self]
    · simp only [PyData.weight, PyData.weightAll]
      omega
  obtain ⟨h1, h2⟩ := head_fine h
  have w2 : ∀ x : Str, (PyData.str x).weight = x.cps.size := fun x => by simp only [PyData.weight]
  unfold heardD
  split
  · split
    · refine key _ ?_ ?_ ?_ ?_ ?_
      · simp only [PyData.showable, PyData.showableAll, Bool.and_self]
      · simp only [PyData.hasDict, PyData.hasDictAll, Bool.or_self]
      · simp only [PyData.depth, PyData.depthAll]
        omega
      · simp only [PyData.leavesShort, PyData.leavesShortAll, Bool.and_true]
        simpa only [PyData.leavesShort] using h1
      · rw [w2] at h2
        simp only [PyData.weight, PyData.weightAll]
        omega
    · exact key _ (by simp only [PyData.showable]) (by simp only [PyData.hasDict]) (by simp only [PyData.depth]; omega) h1 (by omega)
  · exact key _ (by decide +kernel) (by decide +kernel) (by decide +kernel) (by decide +kernel) (by decide +kernel)
/-- a list of heard things at D; H1 stood ahead -/
def LcH (K : PySem.W.Frag) (H1 : Hp) (D : Addr) (es : List PyData) (H : Hp) : Prop := ∃ ws, H D = some (.lst ws) ∧ Same H1 H ∧ DpAll K (hide [D] H) ws es
theorem LcH.step {K : PySem.W.Frag} {H1 H H4 : Hp} {D : Addr} {es : List PyData} {e : PyData} {y : V} (n : H1 D = none) (h : LcH K H1 D es H) (s : Same H H4) (hy : Dp K (hide [D] H4) y e) (sz : es.length ≤ 1000) :
    ∃ acc, H4 D = some (.lst acc) ∧ acc.length < sizeLine ∧ LcH K H1 D (es ++ [e]) (upd H4 D (.lst (acc ++ [y]))) := by
  obtain ⟨ws, h1, s1, hd⟩ := h
  refine ⟨ws, s _ _ h1, small1000 (by rw [hd.len]; exact sz), ws ++ [y], upd_same, same_upd n (s1.trans s), ?_⟩
  rw [hide_upd (by simp)]
  exact (hd.same (hide_mono fun b u _ e => s b u e)).app (.cons hy .nil)
/-- a thing that is heard is no list that stood -/
theorem heard_cases (ups downs : List (Nat × Nat)) (d : PyData) : (∃ y, heardD ups downs d = .list [.str y]) ∨ ∃ y, heardD ups downs d = .str y := by
  unfold heardD
  split
  · split
    · exact .inl ⟨_, rfl⟩
    · exact .inr ⟨_, rfl⟩
  · exact .inr ⟨_, rfl⟩
theorem heard_hide {K : PySem.W.Frag} {H H' : Hp} {D : Addr} {ups downs : List (Nat × Nat)} {d : PyData} {r : V} {u : HO} (hD : H D = some u) (n : NewV H r) (h : Dp K H' r (heardD ups downs d)) : Dp K (hide [D] H') r (heardD ups downs d) := by
  rcases heard_cases ups downs d with ⟨y, e⟩ | ⟨y, e⟩
  · rw [e] at h ⊢
    obtain ⟨a, xs, rfl, hs, ha⟩ := h.lst_inv
    have aD : a ≠ D := fun z => by
      have := n a rfl
      rw [z, hD] at this
      cases this
    cases ha with
    | cons h0 h1 =>
    cases h0
    cases h1
    have so : SqL K (hide [D] H') a [.str y] := by
      have no : a ∉ [D] := fun z => aD (List.mem_singleton.mp z)
      rcases hs with (hs | ⟨o, hs⟩) | hs
      · exact .inl (.inl (by rw [hide_out no]; exact hs))
      · exact .inl (.inr ⟨o, by rw [hide_out no]; exact hs⟩)
      · exact .inr hs
    exact .lst so (.cons (.str _) .nil)
  · rw [e] at h ⊢
    cases h
    exact .str _
section
variable {P : Program} {w : World} {K : PySem.W.Frag} {mg : Str → Option Value} {base : Heap}
/-! the law's own example -/
abbrev exX : List (Int × Fx) := [(0, (1, 2)), (1, (1, 2))]
abbrev exY : List (Int × Fx) := [(-2, (1, 4)), (0, (1, 4)), (1, (1, 4)), (3, (1, 4))]
abbrev exM : List (List Int) := [[0, 0, 0, 0], [0, 3, 3, 7]]
abbrev exL : List (List Int) := [[0, 0, 0, 0], [0, 2, 3, 5]]
abbrev exD : List PyData := [.tuple [.str "mixed", .int 0, .int 1, .int 0, .int 0], .tuple [.str "mixed", .int 0, .int 0, .int 0, .int 1], .tuple [.str "up"]]
abbrev exHM (d : PyData) : PyData := heardD (upsO exY exM) (downsO exY exM) d
abbrev exHL (d : PyData) : PyData := heardD (upsO exY exL) (downsO exY exL) d
abbrev exE : List PyData := [.list [.str "mixed"], .str "mixed", .str "up", .str "mixed", .list [.str "up"], .list [.str "down"], .list [.str "straight"]]
theorem exS : ∀ d ∈ exD, SeqAt.shaped d = true := by decide +kernel
theorem exEq : PyData.eqv (.list (((exD.map exHM) ++ [exHM (.tuple [.str "mixed", .int 0, .bool true, .int 0, .int 0]), exHL (.tuple [.str "up"])]) ++ [exHL (.tuple [.str "down"]), exHL (.tuple [.str "straight"])])) (.list exE) = true := by decide +kernel
def spLawK (K : PySem.W.Frag) : Sp := fun vs H Q _ => ∃ (a : Addr) (ns : List Int), vs = [.ref a] ∧ SqL K H a (ns.map V.int) ∧ ns.length ≤ 63 ∧ ∀ H', Q (.bl true) H'
theorem scLawK : FnScope ["script", "state", "turn", "one", "other", "costs_so", "thing", "kept", "due", "told", "mixed", "line", "sheet"] ["script"] (defScope sLaw) := ⟨rfl, rfl, rfl, by decide +kernel, rfl, by decide +kernel, by decide +kernel⟩
theorem ok_lawK {f : Addr} {fd : FuncData} (F : Df K mg "law" sLaw ["script"] f fd) (T : Bt mg) (mmin : mg "min" = none) (mrepr : mg "repr" = none)
    {a_begin : Addr} {fdbegin : FuncData} (Dbegin : Df K mg "_law_begin" sBegin ["script"] a_begin fdbegin) (Gbegin : FnOk P w K mg base CX0 1 a_begin fdbegin ["script"] (spBegin K))
    {a_share : Addr} {fdshare : FuncData} (Dshare : Df K mg "_law_share" sLawShare ["state", "many"] a_share fdshare) (Gshare : FnOk P w K mg base CX0 4 a_share fdshare ["state", "many"] (spShare K))
    {a_costs : Addr} {fdcosts : FuncData} (Dcosts : Df K mg "_law_costs" sLawCosts ["state", "one", "other"] a_costs fdcosts) (Gcosts : FnOk P w K mg base CX0 3 a_costs fdcosts ["state", "one", "other"] (spCosts K))
    {a_bent : Addr} {fdbent : FuncData} (Dbent : Df K mg "_law_bent" sLawBent ["state", "one", "other", "sheet"] a_bent fdbent) (Gbent : FnOk P w K mg base CX0 3 a_bent fdbent ["state", "one", "other", "sheet"] (spBent K))
    {a_kind : Addr} {fdkind : FuncData} (Dkind : Df K mg "kind_paper" sKindPaper ["one", "other", "costs"] a_kind fdkind) (Gkind : FnOk P w K mg base CX0 10 a_kind fdkind ["one", "other", "costs"] (spKind K))
    {a_due : Addr} {fddue : FuncData} (Ddue : Df K mg "_law_due" sLawDue ["one", "other", "costs_so", "sheet"] a_due fddue) (Gdue : FnOk P w K mg base CX0 2 a_due fddue ["one", "other", "costs_so", "sheet"] (spHeardK K))
    {a_heard : Addr} {fdheard : FuncData} (Dheard : Df K mg "_law_heard" sLawHeard ["one", "other", "costs_so", "sheet"] a_heard fdheard) (Gheard : FnOk P w K mg base CX0 10 a_heard fdheard ["one", "other", "costs_so", "sheet"] (spHeardK K)) : FnG P w K mg base CX0 11 f fd ["script"] (spLawK K) := by
  refine FnG.of_body F.F scLawK (fun vs H Q E h => ?_) (fun cdv A outer s H vs Q E hq hr h => ?_)
  · obtain ⟨a, ns, rfl, _⟩ := h
    rfl
  · obtain ⟨a, ns, rfl, hS, hlen, k⟩ := h
    have hq' : (A.deeper (PyProof.Rows.envOfC "law" (defScope sLaw) s.heap.objs.size f cdv)).guards = some [] := hq
    refine ⟨_, PSs.nox (pss_cons (ps_set (i := 1) scLawK.nd rfl (Or.inl rfl) (pe_call Gbegin (hr.mono (by decide)) (by rfl) Dbegin.g Dbegin.F.kp Dbegin.b .nil pass0 (pa_cons (pv 0) pa_nil)))
      (pss_cons (ps_for PassesOwn.never rfl (pi_range1 rfl T.range (pa_cons (pe_op op_add pe_int (pe_callB (call_min2 rfl) (by rfl) mmin (by decide +kernel) (pa_cons (pe_callB call_len_seq (by rfl) T.len PySem.boot_len (pa_cons (pv 0) pa_nil)) (pa_cons pe_int pa_nil)))) pa_nil)) (pg_name (i := 2) scLawK.nd rfl (Or.inl rfl))
        (pss_cons (ps_asg (pe_tup (pa_cons (pe_call Gshare (hr.mono (by decide)) (by rfl) Dshare.g Dshare.F.kp Dshare.b .nil pass0 (pa_cons (pv 1) (pa_cons pe_int pa_nil))) (pa_cons (pe_call Gshare (hr.mono (by decide)) (by rfl) Dshare.g Dshare.F.kp Dshare.b .nil pass0 (pa_cons (pv 1) (pa_cons pe_int pa_nil))) pa_nil))) (pg_tup rfl (pgs_cons (pg_name (i := 3) scLawK.nd rfl (Or.inr rfl)) (pgs_cons (pg_name (i := 4) scLawK.nd rfl (Or.inr rfl)) pgs_nil))))
        (pss_cons (ps_set (i := 5) scLawK.nd rfl (Or.inl rfl) (pe_call Gcosts (hr.mono (by decide)) (by rfl) Dcosts.g Dcosts.F.kp Dcosts.b .nil pass0 (pa_cons (pv 1) (pa_cons (pv 3) (pa_cons (pv 4) pa_nil)))))
        (pss_one (ps_for PassesOwn.never rfl (pi_list (pe_call Gbent (hr.mono (by decide)) (by rfl) Dbent.g Dbent.F.kp Dbent.b .nil pass0 (pa_cons (pv 1) (pa_cons (pv 3) (pa_cons (pv 4) (pa_cons (pe_call Gkind hr (by rfl) Dkind.g Dkind.F.kp Dkind.b .nil pass0 (pa_cons (pv 3) (pa_cons (pv 4) (pa_cons (pv 5) pa_nil)))) pa_nil)))))) (pg_name (i := 6) scLawK.nd rfl (Or.inl rfl))
          (pss_cons (ps_par (i := 7) (j := 8) (by rfl) scLawK.nd rfl rfl (by decide) rfl rfl (pa_cons (pe_callB (call_show hq' hr.units) (by rfl) mrepr (by decide +kernel) (pa_cons (pv 6) pa_nil)) (pa_cons (pe_call Gdue (hr.mono (by decide)) (by rfl) Ddue.g Ddue.F.kp Ddue.b .nil pass0 (pa_cons (pv 3) (pa_cons (pv 4) (pa_cons (pv 5) (pa_cons (pv 6) pa_nil))))) pa_nil)) (by rfl))
          (pss_cons (ps_set (i := 9) scLawK.nd rfl (Or.inl rfl) (pe_lst (pa_cons (pe_call Gheard hr (by rfl) Dheard.g Dheard.F.kp Dheard.b .nil pass0 (pa_cons (pv 3) (pa_cons (pv 4) (pa_cons (pv 5) (pa_cons (pv 6) pa_nil))))) (pa_cons (pe_call Gheard hr (by rfl) Dheard.g Dheard.F.kp Dheard.b .nil pass0 (pa_cons (pv 3) (pa_cons (pv 4) (pa_cons (pv 5) (pa_cons (pv 6) pa_nil))))) pa_nil))))
          (pss_one (ps_if (PW.pt (pw_or (pt_cmpR op_ne (pe_callB (call_show hq' hr.units) (by rfl) mrepr (by decide +kernel) (pa_cons (pv 9) pa_nil)) (pe_callB (call_show hq' hr.units) (by rfl) mrepr (by decide +kernel) (pa_cons (pe_lst (pa_cons (pv 8) (pa_cons (pv 8) pa_nil))) pa_nil)) (nomark _)) (pw_or1 (pt_cmpR op_ne (pe_callB (call_show hq' hr.units) (by rfl) mrepr (by decide +kernel) (pa_cons (pv 6) pa_nil)) (pv 7) (nomark _))))) (pss_one (ps_ret pe_bl)) pss_nil)))))))))
      (pss_cons (ps_asg (pe_tup (pa_cons (pe_tup (pa_cons (pe_tup (pa_cons pe_int (pa_cons (pe_tup (pa_cons pe_int (pa_cons pe_int pa_nil))) pa_nil))) (pa_cons (pe_tup (pa_cons pe_int (pa_cons (pe_tup (pa_cons pe_int (pa_cons pe_int pa_nil))) pa_nil))) pa_nil)))
          (pa_cons (pe_tup (pa_cons (pe_tup (pa_cons (pe_un un_neg pe_int) (pa_cons (pe_tup (pa_cons pe_int (pa_cons pe_int pa_nil))) pa_nil))) (pa_cons (pe_tup (pa_cons pe_int (pa_cons (pe_tup (pa_cons pe_int (pa_cons pe_int pa_nil))) pa_nil))) (pa_cons (pe_tup (pa_cons pe_int (pa_cons (pe_tup (pa_cons pe_int (pa_cons pe_int pa_nil))) pa_nil))) (pa_cons (pe_tup (pa_cons pe_int (pa_cons (pe_tup (pa_cons pe_int (pa_cons pe_int pa_nil))) pa_nil))) pa_nil))))) pa_nil)))
          (pg_tup rfl (pgs_cons (pg_name (i := 3) scLawK.nd rfl (Or.inr rfl)) (pgs_cons (pg_name (i := 4) scLawK.nd rfl (Or.inr rfl)) pgs_nil))))
      (pss_cons (ps_asg (pe_tup (pa_cons (pe_tup (pa_cons (pe_tup (pa_cons pe_int (pa_cons pe_int (pa_cons pe_int (pa_cons pe_int pa_nil))))) (pa_cons (pe_tup (pa_cons pe_int (pa_cons pe_int (pa_cons pe_int (pa_cons pe_int pa_nil))))) pa_nil))) (pa_cons (pe_tup (pa_cons (pe_tup (pa_cons pe_int (pa_cons pe_int (pa_cons pe_int (pa_cons pe_int pa_nil))))) (pa_cons (pe_tup (pa_cons pe_int (pa_cons pe_int (pa_cons pe_int (pa_cons pe_int pa_nil))))) pa_nil))) pa_nil)))
          (pg_tup rfl (pgs_cons (pg_name (i := 10) scLawK.nd rfl (Or.inr rfl)) (pgs_cons (pg_name (i := 11) scLawK.nd rfl (Or.inl rfl)) pgs_nil))))
      (pss_cons (ps_setLc (i := 9) (own := [("sheet", 12)]) (g := gName 12) (tt := tYes) rfl scLawK.nd rfl rfl (sw_true rfl rfl rfl (by decide +kernel)) (pi_tup (pe_tup (pa_cons (pe_tup (pa_cons pe_str (pa_cons pe_int (pa_cons pe_int (pa_cons pe_int (pa_cons pe_int pa_nil)))))) (pa_cons (pe_tup (pa_cons pe_str (pa_cons pe_int (pa_cons pe_int (pa_cons pe_int (pa_cons pe_int pa_nil)))))) (pa_cons (pe_tup (pa_cons pe_str pa_nil)) pa_nil))))) (blkOk_by (N := ["script", "state", "turn", "one", "other", "costs_so", "thing", "kept", "due", "told", "mixed", "line", "sheet"]) (sc := defScope sLaw) (by decide +kernel)) (fun _ _ _ _ _ => pg_name (i := 12) scLawK.nd rfl (Or.inl rfl)) (fun _ _ _ _ _ => pts_nil) (fun _ _ _ _ _ => pe_call Gheard hr (by rfl) Dheard.g Dheard.F.kp Dheard.b .nil pass0 (pa_cons (pv 3) (pa_cons (pv 4) (pa_cons (pv 10) (pa_cons (pv 12) pa_nil))))))
      (pss_cons (ps_set (i := 9) scLawK.nd rfl (Or.inl rfl) (pe_op op_cat (pv 9) (pe_lst (pa_cons (pe_call Gheard hr (by rfl) Dheard.g Dheard.F.kp Dheard.b .nil pass0 (pa_cons (pv 3) (pa_cons (pv 4) (pa_cons (pv 10) (pa_cons (pe_tup (pa_cons pe_str (pa_cons pe_int (pa_cons pe_bl (pa_cons pe_int (pa_cons pe_int pa_nil)))))) pa_nil))))) (pa_cons (pe_call Gheard hr (by rfl) Dheard.g Dheard.F.kp Dheard.b .nil pass0 (pa_cons (pv 3) (pa_cons (pv 4) (pa_cons (pv 11) (pa_cons (pe_tup (pa_cons pe_str pa_nil)) pa_nil))))) pa_nil)))))
      (pss_cons (ps_set (i := 9) scLawK.nd rfl (Or.inl rfl) (pe_op op_cat (pv 9) (pe_lst (pa_cons (pe_call Gheard hr (by rfl) Dheard.g Dheard.F.kp Dheard.b .nil pass0 (pa_cons (pv 3) (pa_cons (pv 4) (pa_cons (pv 11) (pa_cons (pe_tup (pa_cons pe_str pa_nil)) pa_nil))))) (pa_cons (pe_call Gheard hr (by rfl) Dheard.g Dheard.F.kp Dheard.b .nil pass0 (pa_cons (pv 3) (pa_cons (pv 4) (pa_cons (pv 11) (pa_cons (pe_tup (pa_cons pe_str pa_nil)) pa_nil))))) pa_nil)))))
      (pss_one (ps_ret (pe_cmpR (op_eqD hr.units) (pv 9) (pe_lst (pa_cons (pe_lst (pa_cons pe_str pa_nil)) (pa_cons pe_str (pa_cons pe_str (pa_cons pe_str (pa_cons (pe_lst (pa_cons pe_str pa_nil)) (pa_cons (pe_lst (pa_cons pe_str pa_nil)) (pa_cons (pe_lst (pa_cons pe_str pa_nil)) pa_nil)))))))) (nomark _))))))))))), ?_⟩
    refine ⟨_, rfl, a, ns, rfl, hS, hlen, fun d c l H1 nd s1 S1 => ?_⟩
    have hS1 := s1.seq hS
    refine ⟨_, rfl, a, _, rfl, .inl hS1, _, _, rfl, _, _, rfl, rfl, _, rfl, by split <;> (rw [List.length_map] at *; omega), by split <;> (rw [List.length_map] at *; omega), ?_⟩
    obtain ⟨nn, enn⟩ : ∃ nn : Nat, (8 + (if (9 : Int) < ((ns.map V.int).length : Int) then (9 : Int) else ((ns.map V.int).length : Int))).toNat = nn := ⟨_, rfl⟩
    have nn17 : nn ≤ 17 := by
      rw [List.length_map] at enn
      split at enn <;> omega
    rw [enn]
    refine for_range (lo := 0) (n := nn) (fun i σ H' => ∃ v2 v3 v4 v5 v6 v7 v8 v9 kk, σ = [some (.ref a), some (.ref d), v2, v3, v4, v5, v6, v7, v8, v9, none, none, none] ∧ StAt H' d c l kk ∧ kk ≤ 300 * i) ⟨none, none, none, none, none, none, none, none, 0, rfl, S1, by omega⟩ ?_ ?_
    · rintro i σ H2 hi ⟨v2, v3, v4, v5, v6, v7, v8, v9, kk, rfl, S2, hk⟩
      have kk6 : kk ≤ 6000 := by omega
      refine ⟨_, rfl, d, c, l, kk, 4, rfl, S2, by omega, by decide, by decide, fun H3 p xs k3 hk3 gx x8 x0 S3 f3 zx => ?_⟩
      refine ⟨_, rfl, d, c, l, k3, 6, rfl, S3, by omega, by decide, by decide, fun H4 q ys k4 hk4 gy y8 y0 S4 f4 zy => ?_⟩
      have hx4 := zx.sh.tk (tk_fm f4 S3)
      have hy4 := zy.sh
      refine ⟨(by show 2 ≤ sizeLine; decide), fun t nt => ?_⟩
      have st := Same.new (o := .tup [V.ref p, V.ref q]) nt
      have S5 := S4.same st
      have hx5 := hx4.tk (tk_same st)
      have hy5 := hy4.tk (tk_same st)
      have ht : SqT K (upd H4 t (.tup [V.ref p, V.ref q])) t [V.ref p, V.ref q] := SqT.of upd_same
      generalize upd H4 t (.tup [V.ref p, V.ref q]) = H5 at *
      have sx := gx.shr x8
      have sy := gy.shr y8
      refine ⟨t, _, rfl, ht, rfl, _, _, rfl, _, _, rfl, rfl, ?_⟩
      refine ⟨_, rfl, _, rfl, _, rfl, d, c, l, k4, p, q, xs, ys, rfl, S5, by omega, hx5, hy5, x8, y8, y0, sx.abs, sy.abs, fun H6 cv rows k6 hk6 S6 f6 hc6 ok => ?_⟩
      have C6 : CArg K H6 p q cv xs ys rows := ⟨hx5.tk (tk_fm f6 S5), hy5.tk (tk_fm f6 S5), sx, sy, hc6, ok⟩
      have hxs := C6.1
      have hys := C6.2.1
      refine ⟨_, rfl, _, rfl, _, rfl, _, rfl, _, rfl, _, rfl, p, q, cv, xs, ys, rows, rfl, C6, fun H7 pv7 s7 hp7 => ?_⟩
      have C7 := C6.same s7
      have uin : ∀ p ∈ upsO ys rows, p.1 ≤ 99 ∧ p.2 ≤ 99 := bendsL_in (by rw [List.length_map]; omega) (by have := C6.bends.2.1; omega)
      have din : ∀ p ∈ downsO ys rows, p.1 ≤ 99 ∧ p.2 ≤ 99 := bendsL_in (by rw [List.length_map]; omega) (by have := C6.bends.2.1; omega)
      obtain ⟨sd, esd, sh⟩ := sheet_of uin din
      rw [esd] at hp7
      refine ⟨d, c, l, k6, p, q, pv7, xs, ys, sd, rfl, S6.same s7, by omega, C7.1, C7.2.1, x8, y8, hp7, sh, fun H8 F8 ws ds k8 hk8 B8 l60 => ?_⟩
      have C8 := C7.tk (tk_fm B8.fm (S6.same s7))
      refine ⟨F8, rfl, ⟨_, SqL.of B8.hF⟩, for_list (K := K) (a := F8) (xs := ws) (fun j σ H' => ∃ v6 v7 v8 v9, σ = [some (.ref a), some (.ref d), some (.int (0 + (i : Int))), some (.ref p), some (.ref q), some cv, v6, v7, v8, v9, none, none, none] ∧ Bn K H7 d c l F8 k8 ws ds H' ∧ CArg K H' p q cv xs ys rows) ⟨v6, v7, v8, v9, rfl, B8, C8⟩ (fun j σ H' _ ⟨_, _, _, _, _, B, _⟩ => SqL.of B.hF) ?_ ?_⟩
      · rintro j x σ H9 hj ⟨v6, v7, v8, v9, rfl, B9, C9⟩
        obtain ⟨dt, hdt, hx⟩ := B9.hw.get hj
        have fdt := B9.fine dt (List.mem_of_getElem? hdt)
        have hx9 := hx.same (hide_same _ _)
        have sh9 := fdt.shows hx9.noDict
        refine ⟨_, rfl, x, dt, rfl, hx9, sh9.ok, sh9.nd, sh9.dp, sh9.sz, ?_⟩
        refine ⟨_, rfl, _, rfl, _, rfl, _, rfl, p, q, cv, x, xs, ys, rows, dt, rfl, C9, hx9, fdt.sh, fun Ha ra sa na ha => ⟨_, _, rfl, ?_⟩⟩
        have Ca := C9.same sa
        have hxa := hx9.same sa
        refine ⟨_, rfl, _, rfl, _, rfl, _, rfl, p, q, cv, x, xs, ys, rows, dt, rfl, Ca, hxa, fdt.sh, fun Hb rb sb nb hb => ?_⟩
        have Cb := Ca.same sb
        have hxb := hxa.same sb
        refine ⟨_, rfl, _, rfl, _, rfl, _, rfl, p, q, cv, x, xs, ys, rows, dt, rfl, Cb, hxb, fdt.sh, fun Hc rc sc nc hc => ⟨(by show 2 ≤ sizeLine; decide), fun T nT => ?_⟩⟩
        have sT := Same.new (o := .lst [rb, rc]) nT
        have told := Dp.new_lst (K := K) nT (.cons (hb.same sc) (.cons hc .nil))
        have ha' := ((ha.same sb).same sc).same sT
        have hx' := (hxb.same sc).same sT
        have C' := (Cb.same sc).same sT
        have B' := (((B9.same sa).same sb).same sc).same sT
        generalize upd Hc T (.lst [rb, rc]) = Hd at *
        have hp := heard_pair (ups := upsO ys rows) (downs := downsO ys rows) fdt
        refine ⟨_, rfl, _, _, rfl, told, hp.ok, hp.nd, hp.dp, hp.sz, _, rfl, _, rfl, (by show 2 ≤ sizeLine; decide), fun U nU => ?_⟩
        have sU := Same.new (o := .lst [ra, ra]) nU
        have dues := Dp.new_lst (K := K) nU (.cons ha' (.cons ha' .nil))
        have hx2 := hx'.same sU
        have C2 := C'.same sU
        have B2 := B'.same sU
        generalize upd Hd U (.lst [ra, ra]) = He at *
        refine ⟨_, _, rfl, dues, hp.ok, hp.nd, hp.dp, hp.sz, rfl, _, rfl, ?_⟩
        rw [decide_eq_true rfl]
        refine iteF ⟨_, rfl, x, dt, rfl, hx2, sh9.ok, sh9.nd, sh9.dp, sh9.sz, _, rfl, rfl, _, rfl, ?_⟩
        rw [decide_eq_true rfl]
        exact iteF ⟨_, _, _, _, rfl, B2, C2⟩
      · rintro σ H9 ⟨v6, v7, v8, v9, rfl, B9, C9⟩
        exact ⟨_, _, _, _, _, _, _, _, k8, rfl, B9.S, by omega⟩
    · rintro σ H2 ⟨v2, v3, v4, v5, v6, v7, v8, v9, kk, rfl, S2, hk⟩
      refine ⟨(by show 2 ≤ sizeLine; decide), fun a1 na1 => ?_⟩
      have s1 := Same.new (o := .tup [V.int 1, V.int 2]) na1
      have fa1 : SqT K (upd H2 a1 (.tup [V.int 1, V.int 2])) a1 [V.int 1, V.int 2] := SqT.of upd_same
      generalize upd H2 a1 (.tup [V.int 1, V.int 2]) = G1 at *
      refine ⟨(by show 2 ≤ sizeLine; decide), fun a2 na2 => ?_⟩
      have s2 := Same.new (o := .tup [V.int 0, V.ref a1]) na2
      have fa2 : SqT K (upd G1 a2 (.tup [V.int 0, V.ref a1])) a2 [V.int 0, V.ref a1] := SqT.of upd_same
      generalize upd G1 a2 (.tup [V.int 0, V.ref a1]) = G2 at *
      refine ⟨(by show 2 ≤ sizeLine; decide), fun a3 na3 => ?_⟩
      have s3 := Same.new (o := .tup [V.int 1, V.int 2]) na3
      have fa3 : SqT K (upd G2 a3 (.tup [V.int 1, V.int 2])) a3 [V.int 1, V.int 2] := SqT.of upd_same
      generalize upd G2 a3 (.tup [V.int 1, V.int 2]) = G3 at *
      refine ⟨(by show 2 ≤ sizeLine; decide), fun a4 na4 => ?_⟩
      have s4 := Same.new (o := .tup [V.int 1, V.ref a3]) na4
      have fa4 : SqT K (upd G3 a4 (.tup [V.int 1, V.ref a3])) a4 [V.int 1, V.ref a3] := SqT.of upd_same
      generalize upd G3 a4 (.tup [V.int 1, V.ref a3]) = G4 at *
      refine ⟨(by show 2 ≤ sizeLine; decide), fun p np => ?_⟩
      have s5 := Same.new (o := .tup [V.ref a2, V.ref a4]) np
      have fp : SqT K (upd G4 p (.tup [V.ref a2, V.ref a4])) p [V.ref a2, V.ref a4] := SqT.of upd_same
      generalize upd G4 p (.tup [V.ref a2, V.ref a4]) = G5 at *
      refine ⟨2, rfl, (by show 2 ≤ sizeLine; decide), fun b1 nb1 => ?_⟩
      have s6 := Same.new (o := .tup [V.int 1, V.int 4]) nb1
      have fb1 : SqT K (upd G5 b1 (.tup [V.int 1, V.int 4])) b1 [V.int 1, V.int 4] := SqT.of upd_same
      generalize upd G5 b1 (.tup [V.int 1, V.int 4]) = G6 at *
      refine ⟨(by show 2 ≤ sizeLine; decide), fun b2 nb2 => ?_⟩
      have s7 := Same.new (o := .tup [V.int (-2), V.ref b1]) nb2
      have fb2 : SqT K (upd G6 b2 (.tup [V.int (-2), V.ref b1])) b2 [V.int (-2), V.ref b1] := SqT.of upd_same
      generalize upd G6 b2 (.tup [V.int (-2), V.ref b1]) = G7 at *
      refine ⟨(by show 2 ≤ sizeLine; decide), fun b3 nb3 => ?_⟩
      have s8 := Same.new (o := .tup [V.int 1, V.int 4]) nb3
      have fb3 : SqT K (upd G7 b3 (.tup [V.int 1, V.int 4])) b3 [V.int 1, V.int 4] := SqT.of upd_same
      generalize upd G7 b3 (.tup [V.int 1, V.int 4]) = G8 at *
      refine ⟨(by show 2 ≤ sizeLine; decide), fun b4 nb4 => ?_⟩
      have s9 := Same.new (o := .tup [V.int 0, V.ref b3]) nb4
      have fb4 : SqT K (upd G8 b4 (.tup [V.int 0, V.ref b3])) b4 [V.int 0, V.ref b3] := SqT.of upd_same
      generalize upd G8 b4 (.tup [V.int 0, V.ref b3]) = G9 at *
      refine ⟨(by show 2 ≤ sizeLine; decide), fun b5 nb5 => ?_⟩
      have s10 := Same.new (o := .tup [V.int 1, V.int 4]) nb5
      have fb5 : SqT K (upd G9 b5 (.tup [V.int 1, V.int 4])) b5 [V.int 1, V.int 4] := SqT.of upd_same
      generalize upd G9 b5 (.tup [V.int 1, V.int 4]) = G10 at *
      refine ⟨(by show 2 ≤ sizeLine; decide), fun b6 nb6 => ?_⟩
      have s11 := Same.new (o := .tup [V.int 1, V.ref b5]) nb6
      have fb6 : SqT K (upd G10 b6 (.tup [V.int 1, V.ref b5])) b6 [V.int 1, V.ref b5] := SqT.of upd_same
      generalize upd G10 b6 (.tup [V.int 1, V.ref b5]) = G11 at *
      refine ⟨(by show 2 ≤ sizeLine; decide), fun b7 nb7 => ?_⟩
      have s12 := Same.new (o := .tup [V.int 1, V.int 4]) nb7
      have fb7 : SqT K (upd G11 b7 (.tup [V.int 1, V.int 4])) b7 [V.int 1, V.int 4] := SqT.of upd_same
      generalize upd G11 b7 (.tup [V.int 1, V.int 4]) = G12 at *
      refine ⟨(by show 2 ≤ sizeLine; decide), fun b8 nb8 => ?_⟩
      have s13 := Same.new (o := .tup [V.int 3, V.ref b7]) nb8
      have fb8 : SqT K (upd G12 b8 (.tup [V.int 3, V.ref b7])) b8 [V.int 3, V.ref b7] := SqT.of upd_same
      generalize upd G12 b8 (.tup [V.int 3, V.ref b7]) = G13 at *
      refine ⟨(by show 4 ≤ sizeLine; decide), fun q nq => ?_⟩
      have s14 := Same.new (o := .tup [V.ref b2, V.ref b4, V.ref b6, V.ref b8]) nq
      have fq : SqT K (upd G13 q (.tup [V.ref b2, V.ref b4, V.ref b6, V.ref b8])) q [V.ref b2, V.ref b4, V.ref b6, V.ref b8] := SqT.of upd_same
      generalize upd G13 q (.tup [V.ref b2, V.ref b4, V.ref b6, V.ref b8]) = G14 at *
      refine ⟨(by show 2 ≤ sizeLine; decide), fun t0 nt0 => ?_⟩
      have s15 := Same.new (o := .tup [V.ref p, V.ref q]) nt0
      have ft0 : SqT K (upd G14 t0 (.tup [V.ref p, V.ref q])) t0 [V.ref p, V.ref q] := SqT.of upd_same
      generalize upd G14 t0 (.tup [V.ref p, V.ref q]) = G15 at *
      refine ⟨t0, _, rfl, ft0, rfl, _, _, rfl, _, _, rfl, rfl, ?_⟩
      refine ⟨(by show 4 ≤ sizeLine; decide), fun c1 nc1 => ?_⟩
      have s16 := Same.new (o := .tup [V.int 0, V.int 0, V.int 0, V.int 0]) nc1
      have fc1 : SqT K (upd G15 c1 (.tup [V.int 0, V.int 0, V.int 0, V.int 0])) c1 [V.int 0, V.int 0, V.int 0, V.int 0] := SqT.of upd_same
      generalize upd G15 c1 (.tup [V.int 0, V.int 0, V.int 0, V.int 0]) = G16 at *
      refine ⟨(by show 4 ≤ sizeLine; decide), fun c2 nc2 => ?_⟩
      have s17 := Same.new (o := .tup [V.int 0, V.int 3, V.int 3, V.int 7]) nc2
      have fc2 : SqT K (upd G16 c2 (.tup [V.int 0, V.int 3, V.int 3, V.int 7])) c2 [V.int 0, V.int 3, V.int 3, V.int 7] := SqT.of upd_same
      generalize upd G16 c2 (.tup [V.int 0, V.int 3, V.int 3, V.int 7]) = G17 at *
      refine ⟨(by show 2 ≤ sizeLine; decide), fun mx nmx => ?_⟩
      have s18 := Same.new (o := .tup [V.ref c1, V.ref c2]) nmx
      have fmx : SqT K (upd G17 mx (.tup [V.ref c1, V.ref c2])) mx [V.ref c1, V.ref c2] := SqT.of upd_same
      generalize upd G17 mx (.tup [V.ref c1, V.ref c2]) = G18 at *
      refine ⟨(by show 4 ≤ sizeLine; decide), fun c3 nc3 => ?_⟩
      have s19 := Same.new (o := .tup [V.int 0, V.int 0, V.int 0, V.int 0]) nc3
      have fc3 : SqT K (upd G18 c3 (.tup [V.int 0, V.int 0, V.int 0, V.int 0])) c3 [V.int 0, V.int 0, V.int 0, V.int 0] := SqT.of upd_same
      generalize upd G18 c3 (.tup [V.int 0, V.int 0, V.int 0, V.int 0]) = G19 at *
      refine ⟨(by show 4 ≤ sizeLine; decide), fun c4 nc4 => ?_⟩
      have s20 := Same.new (o := .tup [V.int 0, V.int 2, V.int 3, V.int 5]) nc4
      have fc4 : SqT K (upd G19 c4 (.tup [V.int 0, V.int 2, V.int 3, V.int 5])) c4 [V.int 0, V.int 2, V.int 3, V.int 5] := SqT.of upd_same
      generalize upd G19 c4 (.tup [V.int 0, V.int 2, V.int 3, V.int 5]) = G20 at *
      refine ⟨(by show 2 ≤ sizeLine; decide), fun ln nln => ?_⟩
      have s21 := Same.new (o := .tup [V.ref c3, V.ref c4]) nln
      have fln : SqT K (upd G20 ln (.tup [V.ref c3, V.ref c4])) ln [V.ref c3, V.ref c4] := SqT.of upd_same
      generalize upd G20 ln (.tup [V.ref c3, V.ref c4]) = G21 at *
      refine ⟨(by show 2 ≤ sizeLine; decide), fun t1 nt1 => ?_⟩
      have s22 := Same.new (o := .tup [V.ref mx, V.ref ln]) nt1
      have ft1 : SqT K (upd G21 t1 (.tup [V.ref mx, V.ref ln])) t1 [V.ref mx, V.ref ln] := SqT.of upd_same
      generalize upd G21 t1 (.tup [V.ref mx, V.ref ln]) = G22 at *
      refine ⟨t1, _, rfl, ft1, rfl, _, _, rfl, _, _, rfl, rfl, ?_⟩
      refine ⟨(by show 5 ≤ sizeLine; decide), fun e1 ne1 => ?_⟩
      have s23 := Same.new (o := .tup [V.str "mixed", V.int 0, V.int 1, V.int 0, V.int 0]) ne1
      have fe1 : SqT K (upd G22 e1 (.tup [V.str "mixed", V.int 0, V.int 1, V.int 0, V.int 0])) e1 [V.str "mixed", V.int 0, V.int 1, V.int 0, V.int 0] := SqT.of upd_same
      generalize upd G22 e1 (.tup [V.str "mixed", V.int 0, V.int 1, V.int 0, V.int 0]) = G23 at *
      refine ⟨(by show 5 ≤ sizeLine; decide), fun e2 ne2 => ?_⟩
      have s24 := Same.new (o := .tup [V.str "mixed", V.int 0, V.int 0, V.int 0, V.int 1]) ne2
      have fe2 : SqT K (upd G23 e2 (.tup [V.str "mixed", V.int 0, V.int 0, V.int 0, V.int 1])) e2 [V.str "mixed", V.int 0, V.int 0, V.int 0, V.int 1] := SqT.of upd_same
      generalize upd G23 e2 (.tup [V.str "mixed", V.int 0, V.int 0, V.int 0, V.int 1]) = G24 at *
      refine ⟨(by show 1 ≤ sizeLine; decide), fun e3 ne3 => ?_⟩
      have s25 := Same.new (o := .tup [V.str "up"]) ne3
      have fe3 : SqT K (upd G24 e3 (.tup [V.str "up"])) e3 [V.str "up"] := SqT.of upd_same
      generalize upd G24 e3 (.tup [V.str "up"]) = G25 at *
      refine ⟨(by show 3 ≤ sizeLine; decide), fun e4 ne4 => ?_⟩
      have s26 := Same.new (o := .tup [V.ref e1, V.ref e2, V.ref e3]) ne4
      have fe4 : SqT K (upd G25 e4 (.tup [V.ref e1, V.ref e2, V.ref e3])) e4 [V.ref e1, V.ref e2, V.ref e3] := SqT.of upd_same
      generalize upd G25 e4 (.tup [V.ref e1, V.ref e2, V.ref e3]) = G26 at *
      have r26 : Same G26 G26 := Same.refl _
      have r25 := s26.trans r26
      have r24 := s25.trans r25
      have r23 := s24.trans r24
      have r22 := s23.trans r23
      have r21 := s22.trans r22
      have r20 := s21.trans r21
      have r19 := s20.trans r20
      have r18 := s19.trans r19
      have r17 := s18.trans r18
      have r16 := s17.trans r17
      have r15 := s16.trans r16
      have r14 := s15.trans r15
      have r13 := s14.trans r14
      have r12 := s13.trans r13
      have r11 := s12.trans r12
      have r10 := s11.trans r11
      have r9 := s10.trans r10
      have r8 := s9.trans r9
      have r7 := s8.trans r8
      have r6 := s7.trans r7
      have r5 := s6.trans r6
      have r4 := s5.trans r5
      have r3 := s4.trans r4
      have r2 := s3.trans r3
      have r1 := s2.trans r2
      have X : ShAt K G26 p [(0, (1, 2)), (1, (1, 2))] := ⟨_, (r5.tup fp), .cons (r2.tup fa2) (r1.tup fa1) (.cons (r4.tup fa4) (r3.tup fa3) .nil)⟩
      have Y : ShAt K G26 q [(-2, (1, 4)), (0, (1, 4)), (1, (1, 4)), (3, (1, 4))] := ⟨_, (r14.tup fq), .cons (r7.tup fb2) (r6.tup fb1) (.cons (r9.tup fb4) (r8.tup fb3) (.cons (r11.tup fb6) (r10.tup fb5) (.cons (r13.tup fb8) (r12.tup fb7) .nil)))⟩
      have hM : Dp K G26 (.ref mx) (costD [[0, 0, 0, 0], [0, 3, 3, 7]]) := .tup (r18.tup fmx) (.cons (.tup (r16.tup fc1) (DpAll.ints [0, 0, 0, 0])) (.cons (.tup (r17.tup fc2) (DpAll.ints [0, 3, 3, 7])) .nil))
      have hL : Dp K G26 (.ref ln) (costD [[0, 0, 0, 0], [0, 2, 3, 5]]) := .tup (r21.tup fln) (.cons (.tup (r19.tup fc3) (DpAll.ints [0, 0, 0, 0])) (.cons (.tup (r20.tup fc4) (DpAll.ints [0, 2, 3, 5])) .nil))
      have e4' : SqT K G26 e4 [V.ref e1, V.ref e2, V.ref e3] := (r26.tup fe4)
      have hE : DpAll K G26 [V.ref e1, V.ref e2, V.ref e3] exD := .cons (.tup (r23.tup fe1) (.cons (.str _) (.cons (.int _) (.cons (.int _) (.cons (.int _) (.cons (.int _) .nil)))))) (.cons (.tup (r24.tup fe2) (.cons (.str _) (.cons (.int _) (.cons (.int _) (.cons (.int _) (.cons (.int _) .nil)))))) (.cons (.tup (r25.tup fe3) (.cons (.str _) .nil)) .nil))
      have sX : Shr exX := by decide +kernel
      have sY : Shr exY := by decide +kernel
      have CM : CArg K G26 p q (.ref mx) exX exY exM := ⟨X, Y, sX, sY, hM, ⟨rfl, by decide, by decide⟩⟩
      have CL : CArg K G26 p q (.ref ln) exX exY exL := ⟨X, Y, sX, sY, hL, ⟨rfl, by decide, by decide⟩⟩
      clear fa1 fa2 fa3 fa4 fp fb1 fb2 fb3 fb4 fb5 fb6 fb7 fb8 fq ft0 fc1 fc2 fmx fc3 fc4 fln ft1 fe1 fe2 fe3 fe4 X Y hM hL
      clear s1 s2 s3 s4 s5 s6 s7 s8 s9 s10 s11 s12 s13 s14 s15 s16 s17 s18 s19 s20 s21 s22 s23 s24 s25 s26 r1 r2 r3 r4 r5 r6 r7 r8 r9 r10 r11 r12 r13 r14 r15 r16 r17 r18 r19 r20 r21 r22 r23 r24 r25 r26
      generalize G26 = G at *
      refine ⟨e4, rfl, ⟨_, e4'⟩, fun D nD => lc_tup (K := K) (a := e4) (xs := [V.ref e1, V.ref e2, V.ref e3]) (fun i H' => LcH K G D ((exD.take i).map exHM) H') ⟨[], upd_same, Same.new nD, .nil⟩ (fun i H' _ ⟨_, _, s', _⟩ => s'.tup e4') ?_ ?_⟩
      · rintro i x H' hi h
        obtain ⟨dt, hdt, hx⟩ := hE.get hi
        obtain ⟨ws, h1, s', h3⟩ := id h
        have sdt : SeqAt.shaped dt = true := exS dt (List.mem_of_getElem? hdt)
        refine ⟨rfl, ?_⟩
        dsimp only [tYes]
        rw [if_pos rfl]
        refine ⟨_, rfl, _, rfl, _, rfl, _, rfl, p, q, .ref mx, x, exX, exY, exM, dt, rfl, CM.same s', hx.same s', sdt, fun Ha ra sa na ha => ?_⟩
        rw [take_snoc hdt, List.map_append]
        exact LcH.step nD h sa (heard_hide h1 na ha) (by rw [List.length_map, List.length_take]; have : exD.length = 3 := rfl; omega)
      · rintro H3 ⟨ws, hD3, s3, hw3⟩
        have hw3' : DpAll K H3 ws (exD.map exHM) := hw3.same (hide_same _ _)
        have CM3 := CM.same s3
        have CL3 := CL.same s3
        refine ⟨_, rfl, _, rfl, _, rfl, _, rfl, (by show 5 ≤ sizeLine; decide), fun u1 m1 => ?_⟩
        have k1 := Same.new (o := .tup [V.str "mixed", V.int 0, V.bl true, V.int 0, V.int 0]) m1
        have g1 := Dp.new_tup (K := K) (ds := [.str "mixed", .int 0, .bool true, .int 0, .int 0]) m1 (.cons (.str _) (.cons (.int _) (.cons (.bl _) (.cons (.int _) (.cons (.int _) .nil)))))
        generalize upd H3 u1 (.tup [V.str "mixed", V.int 0, V.bl true, V.int 0, V.int 0]) = J1 at *
        refine ⟨p, q, .ref mx, .ref u1, exX, exY, exM, _, rfl, CM3.same k1, g1, (by decide +kernel), fun J2 w2 k2 _ h2 => ⟨_, rfl, _, rfl, _, rfl, (by show 1 ≤ sizeLine; decide), fun u2 m2 => ?_⟩⟩
        have k3 := Same.new (o := .tup [V.str "up"]) m2
        have g2 := Dp.new_tup (K := K) (ds := [.str "up"]) m2 (.cons (.str _) .nil)
        generalize upd J2 u2 (.tup [V.str "up"]) = J3 at *
        refine ⟨p, q, .ref ln, .ref u2, exX, exY, exL, _, rfl, ((CL3.same k1).same k2).same k3, g2, (by decide +kernel), fun J4 w4 k4 _ h4 => ⟨(by show 2 ≤ sizeLine; decide), fun L1 nL1 => ?_⟩⟩
        have k5 := Same.new (o := .lst [w2, w4]) nL1
        have kk1 := (k1.trans (k2.trans (k3.trans (k4.trans k5))))
        have hL1 : (upd J4 L1 (.lst [w2, w4])) L1 = some (.lst [w2, w4]) := upd_same
        have h2' := h2.same (k3.trans (k4.trans k5))
        have h4' := h4.same k5
        generalize upd J4 L1 (.lst [w2, w4]) = J5 at *
        have lw3 := hw3'.len
        have lw3' : ws.length = 3 := lw3
        refine ⟨D, L1, ws, _, rfl, rfl, kk1 _ _ hD3, hL1, Nat.le_of_lt (small1000 (by rw [lw3']; simp)), fun L2 nL2 => ?_⟩
        have k6 := Same.new (o := .lst (ws ++ [w2, w4])) nL2
        have hL2 : (upd J5 L2 (.lst (ws ++ [w2, w4]))) L2 = some (.lst (ws ++ [w2, w4])) := upd_same
        have hw5 := ((hw3'.same kk1).app (.cons h2' (.cons h4' .nil))).same k6
        have CL5 := (CL3.same kk1).same k6
        generalize upd J5 L2 (.lst (ws ++ [w2, w4])) = J6 at *
        refine ⟨_, rfl, _, rfl, _, rfl, _, rfl, (by show 1 ≤ sizeLine; decide), fun u3 m3 => ?_⟩
        have k7 := Same.new (o := .tup [V.str "down"]) m3
        have g3 := Dp.new_tup (K := K) (ds := [.str "down"]) m3 (.cons (.str _) .nil)
        generalize upd J6 u3 (.tup [V.str "down"]) = J7 at *
        refine ⟨p, q, .ref ln, .ref u3, exX, exY, exL, _, rfl, CL5.same k7, g3, (by decide +kernel), fun J8 w8 k8 _ h8 => ⟨_, rfl, _, rfl, _, rfl, (by show 1 ≤ sizeLine; decide), fun u4 m4 => ?_⟩⟩
        have k9 := Same.new (o := .tup [V.str "straight"]) m4
        have g4 := Dp.new_tup (K := K) (ds := [.str "straight"]) m4 (.cons (.str _) .nil)
        generalize upd J8 u4 (.tup [V.str "straight"]) = J9 at *
        refine ⟨p, q, .ref ln, .ref u4, exX, exY, exL, _, rfl, ((CL5.same k7).same k8).same k9, g4, (by decide +kernel), fun Ja wa ka _ ha => ⟨(by show 2 ≤ sizeLine; decide), fun L3 nL3 => ?_⟩⟩
        have kb := Same.new (o := .lst [w8, wa]) nL3
        have kk2 := (k7.trans (k8.trans (k9.trans (ka.trans kb))))
        have hL3 : (upd Ja L3 (.lst [w8, wa])) L3 = some (.lst [w8, wa]) := upd_same
        have h8' := h8.same (k9.trans (ka.trans kb))
        have ha' := ha.same kb
        generalize upd Ja L3 (.lst [w8, wa]) = Jb at *
        refine ⟨L2, L3, _, _, rfl, rfl, kk2 _ _ hL2, hL3, Nat.le_of_lt (small1000 (by rw [List.length_append, lw3']; simp)), fun L4 nL4 => ?_⟩
        have kc := Same.new (o := .lst ((ws ++ [w2, w4]) ++ [w8, wa])) nL4
        have hL4 : (upd Jb L4 (.lst ((ws ++ [w2, w4]) ++ [w8, wa]))) L4 = some (.lst ((ws ++ [w2, w4]) ++ [w8, wa])) := upd_same
        have hwc := ((hw5.same kk2).app (.cons h8' (.cons ha' .nil))).same kc
        generalize upd Jb L4 (.lst ((ws ++ [w2, w4]) ++ [w8, wa])) = Jc at *
        have told := Dp.lst (SqL.of hL4) hwc
        refine ⟨_, rfl, (by show 1 ≤ sizeLine; decide), fun z1 o1 => ?_⟩
        have q1 := Same.new (o := .lst [V.str "mixed"]) o1
        have d1 := Dp.new_lst (K := K) (ds := [.str "mixed"]) o1 (.cons (.str _) .nil)
        generalize upd Jc z1 (.lst [V.str "mixed"]) = M1 at *
        refine ⟨(by show 1 ≤ sizeLine; decide), fun z2 o2 => ?_⟩
        have q2 := Same.new (o := .lst [V.str "up"]) o2
        have d2 := Dp.new_lst (K := K) (ds := [.str "up"]) o2 (.cons (.str _) .nil)
        generalize upd M1 z2 (.lst [V.str "up"]) = M2 at *
        refine ⟨(by show 1 ≤ sizeLine; decide), fun z3 o3 => ?_⟩
        have q3 := Same.new (o := .lst [V.str "down"]) o3
        have d3 := Dp.new_lst (K := K) (ds := [.str "down"]) o3 (.cons (.str _) .nil)
        generalize upd M2 z3 (.lst [V.str "down"]) = M3 at *
        refine ⟨(by show 1 ≤ sizeLine; decide), fun z4 o4 => ?_⟩
        have q4 := Same.new (o := .lst [V.str "straight"]) o4
        have d4 := Dp.new_lst (K := K) (ds := [.str "straight"]) o4 (.cons (.str _) .nil)
        generalize upd M3 z4 (.lst [V.str "straight"]) = M4 at *
        refine ⟨(by show 7 ≤ sizeLine; decide), fun z5 o5 => ?_⟩
        have q5 := Same.new (o := .lst [V.ref z1, V.str "mixed", V.str "up", V.str "mixed", V.ref z2, V.ref z3, V.ref z4]) o5
        refine ⟨_, .list exE, told.same (q1.trans (q2.trans (q3.trans (q4.trans q5)))), Dp.new_lst o5 (.cons (d1.same (q2.trans (q3.trans q4))) (.cons (.str _) (.cons (.str _) (.cons (.str _) (.cons (d2.same (q3.trans q4)) (.cons (d3.same q4) (.cons d4 .nil))))))), (by decide +kernel), (by decide +kernel), ?_⟩
        rw [show PyData.eqv _ (.list exE) = true from exEq]
        exact k _
end
end CS
set_option Elab.async false
set_option maxRecDepth 100000
set_option linter.unusedVariables false
namespace CS
open PySem L2
set_option maxHeartbeats 16000000 in
theorem all_mk {l : PySem.W.OpenLaw} {w : World} {K : PySem.W.Frag} {h : Heap} {mg : Str → Option Value} {fa fIsWhole fIsWord fIsRow fIsRowOf fIsWholeWithin fIsNumber fIsFraction fIsWeight fAscends fIsSharePair fIsShare fHasSort fNeedShare fIsCostRow fNeedCosts fBow fBends fBendsUp fKindPaper fIsAsTold fCheckKind fMixed fBegin fDraw fLawRatio fLawHeft fLawMarks fLawShare fLawIsInt fLawCosts fLawBends fLawDue fLawHeard fLawBent fLaw : Addr} (X : K.In h) (G : h.Ns mainGlobals mg) (hfa : mg "law" = some (.ref fa))
    {odIsWhole anIsWhole : Option Addr} {slIsWhole : Array (Option Value)} {ocIsWhole kVIsWhole dcIsWhole pmIsWhole ctIsWhole cdIsWhole : Value} (aIsWhole : PySem.W.nsIn K mainGlobals "is_whole" = some (some (.ref fIsWhole))) (lIsWhole : K.lookup fIsWhole = some ⟨ocIsWhole, odIsWhole, .func (PySem.W.fnOf "is_whole" "is_whole" (defArgs sIsWhole) (defBody sIsWhole) (defScope sIsWhole) .none kVIsWhole dcIsWhole pmIsWhole anIsWhole cdIsWhole ctIsWhole), slIsWhole⟩) (cIsWhole : PySem.W.codeIn K cdIsWhole "is_whole" = true) (kIsWhole : PySem.W.keepIn K (.ref fIsWhole) = true)
    {odIsWord anIsWord : Option Addr} {slIsWord : Array (Option Value)} {ocIsWord kVIsWord dcIsWord pmIsWord ctIsWord cdIsWord : Value} (aIsWord : PySem.W.nsIn K mainGlobals "is_word" = some (some (.ref fIsWord))) (lIsWord : K.lookup fIsWord = some ⟨ocIsWord, odIsWord, .func (PySem.W.fnOf "is_word" "is_word" (defArgs sIsWord) (defBody sIsWord) (defScope sIsWord) .none kVIsWord dcIsWord pmIsWord anIsWord cdIsWord ctIsWord), slIsWord⟩) (cIsWord : PySem.W.codeIn K cdIsWord "is_word" = true) (kIsWord : PySem.W.keepIn K (.ref fIsWord) = true)
    {odIsRow anIsRow : Option Addr} {slIsRow : Array (Option Value)} {ocIsRow kVIsRow dcIsRow pmIsRow ctIsRow cdIsRow : Value} (aIsRow : PySem.W.nsIn K mainGlobals "is_row" = some (some (.ref fIsRow))) (lIsRow : K.lookup fIsRow = some ⟨ocIsRow, odIsRow, .func (PySem.W.fnOf "is_row" "is_row" (defArgs sIsRow) (defBody sIsRow) (defScope sIsRow) .none kVIsRow dcIsRow pmIsRow anIsRow cdIsRow ctIsRow), slIsRow⟩) (cIsRow : PySem.W.codeIn K cdIsRow "is_row" = true) (kIsRow : PySem.W.keepIn K (.ref fIsRow) = true)
    {odIsRowOf anIsRowOf : Option Addr} {slIsRowOf : Array (Option Value)} {ocIsRowOf kVIsRowOf dcIsRowOf pmIsRowOf ctIsRowOf cdIsRowOf : Value} (aIsRowOf : PySem.W.nsIn K mainGlobals "is_row_of" = some (some (.ref fIsRowOf))) (lIsRowOf : K.lookup fIsRowOf = some ⟨ocIsRowOf, odIsRowOf, .func (PySem.W.fnOf "is_row_of" "is_row_of" (defArgs sIsRowOf) (defBody sIsRowOf) (defScope sIsRowOf) .none kVIsRowOf dcIsRowOf pmIsRowOf anIsRowOf cdIsRowOf ctIsRowOf), slIsRowOf⟩) (cIsRowOf : PySem.W.codeIn K cdIsRowOf "is_row_of" = true) (kIsRowOf : PySem.W.keepIn K (.ref fIsRowOf) = true)
    {odIsWholeWithin anIsWholeWithin : Option Addr} {slIsWholeWithin : Array (Option Value)} {ocIsWholeWithin kVIsWholeWithin dcIsWholeWithin pmIsWholeWithin ctIsWholeWithin cdIsWholeWithin : Value} (aIsWholeWithin : PySem.W.nsIn K mainGlobals "is_whole_within" = some (some (.ref fIsWholeWithin))) (lIsWholeWithin : K.lookup fIsWholeWithin = some ⟨ocIsWholeWithin, odIsWholeWithin, .func (PySem.W.fnOf "is_whole_within" "is_whole_within" (defArgs sIsWholeWithin) (defBody sIsWholeWithin) (defScope sIsWholeWithin) .none kVIsWholeWithin dcIsWholeWithin pmIsWholeWithin anIsWholeWithin cdIsWholeWithin ctIsWholeWithin), slIsWholeWithin⟩) (cIsWholeWithin : PySem.W.codeIn K cdIsWholeWithin "is_whole_within" = true) (kIsWholeWithin : PySem.W.keepIn K (.ref fIsWholeWithin) = true)
    {odIsNumber anIsNumber : Option Addr} {slIsNumber : Array (Option Value)} {ocIsNumber kVIsNumber dcIsNumber pmIsNumber ctIsNumber cdIsNumber : Value} (aIsNumber : PySem.W.nsIn K mainGlobals "is_number" = some (some (.ref fIsNumber))) (lIsNumber : K.lookup fIsNumber = some ⟨ocIsNumber, odIsNumber, .func (PySem.W.fnOf "is_number" "is_number" (defArgs sIsNumber) (defBody sIsNumber) (defScope sIsNumber) .none kVIsNumber dcIsNumber pmIsNumber anIsNumber cdIsNumber ctIsNumber), slIsNumber⟩) (cIsNumber : PySem.W.codeIn K cdIsNumber "is_number" = true) (kIsNumber : PySem.W.keepIn K (.ref fIsNumber) = true)
    {odIsFraction anIsFraction : Option Addr} {slIsFraction : Array (Option Value)} {ocIsFraction kVIsFraction dcIsFraction pmIsFraction ctIsFraction cdIsFraction : Value} (aIsFraction : PySem.W.nsIn K mainGlobals "is_fraction" = some (some (.ref fIsFraction))) (lIsFraction : K.lookup fIsFraction = some ⟨ocIsFraction, odIsFraction, .func (PySem.W.fnOf "is_fraction" "is_fraction" (defArgs sIsFraction) (defBody sIsFraction) (defScope sIsFraction) .none kVIsFraction dcIsFraction pmIsFraction anIsFraction cdIsFraction ctIsFraction), slIsFraction⟩) (cIsFraction : PySem.W.codeIn K cdIsFraction "is_fraction" = true) (kIsFraction : PySem.W.keepIn K (.ref fIsFraction) = true)
    {odIsWeight anIsWeight : Option Addr} {slIsWeight : Array (Option Value)} {ocIsWeight kVIsWeight dcIsWeight pmIsWeight ctIsWeight cdIsWeight : Value} (aIsWeight : PySem.W.nsIn K mainGlobals "is_weight" = some (some (.ref fIsWeight))) (lIsWeight : K.lookup fIsWeight = some ⟨ocIsWeight, odIsWeight, .func (PySem.W.fnOf "is_weight" "is_weight" (defArgs sIsWeight) (defBody sIsWeight) (defScope sIsWeight) .none kVIsWeight dcIsWeight pmIsWeight anIsWeight cdIsWeight ctIsWeight), slIsWeight⟩) (cIsWeight : PySem.W.codeIn K cdIsWeight "is_weight" = true) (kIsWeight : PySem.W.keepIn K (.ref fIsWeight) = true)
    {odAscends anAscends : Option Addr} {slAscends : Array (Option Value)} {ocAscends kVAscends dcAscends pmAscends ctAscends cdAscends : Value} (aAscends : PySem.W.nsIn K mainGlobals "ascends" = some (some (.ref fAscends))) (lAscends : K.lookup fAscends = some ⟨ocAscends, odAscends, .func (PySem.W.fnOf "ascends" "ascends" (defArgs sAscends) (defBody sAscends) (defScope sAscends) .none kVAscends dcAscends pmAscends anAscends cdAscends ctAscends), slAscends⟩) (cAscends : PySem.W.codeIn K cdAscends "ascends" = true) (kAscends : PySem.W.keepIn K (.ref fAscends) = true)
    {odIsSharePair anIsSharePair : Option Addr} {slIsSharePair : Array (Option Value)} {ocIsSharePair kVIsSharePair dcIsSharePair pmIsSharePair ctIsSharePair cdIsSharePair : Value} (aIsSharePair : PySem.W.nsIn K mainGlobals "is_share_pair" = some (some (.ref fIsSharePair))) (lIsSharePair : K.lookup fIsSharePair = some ⟨ocIsSharePair, odIsSharePair, .func (PySem.W.fnOf "is_share_pair" "is_share_pair" (defArgs sIsSharePair) (defBody sIsSharePair) (defScope sIsSharePair) .none kVIsSharePair dcIsSharePair pmIsSharePair anIsSharePair cdIsSharePair ctIsSharePair), slIsSharePair⟩) (cIsSharePair : PySem.W.codeIn K cdIsSharePair "is_share_pair" = true) (kIsSharePair : PySem.W.keepIn K (.ref fIsSharePair) = true)
    {odIsShare anIsShare : Option Addr} {slIsShare : Array (Option Value)} {ocIsShare kVIsShare dcIsShare pmIsShare ctIsShare cdIsShare : Value} (aIsShare : PySem.W.nsIn K mainGlobals "is_share" = some (some (.ref fIsShare))) (lIsShare : K.lookup fIsShare = some ⟨ocIsShare, odIsShare, .func (PySem.W.fnOf "is_share" "is_share" (defArgs sIsShare) (defBody sIsShare) (defScope sIsShare) .none kVIsShare dcIsShare pmIsShare anIsShare cdIsShare ctIsShare), slIsShare⟩) (cIsShare : PySem.W.codeIn K cdIsShare "is_share" = true) (kIsShare : PySem.W.keepIn K (.ref fIsShare) = true)
    {odHasSort anHasSort : Option Addr} {slHasSort : Array (Option Value)} {ocHasSort kVHasSort dcHasSort pmHasSort ctHasSort cdHasSort : Value} (aHasSort : PySem.W.nsIn K mainGlobals "has_sort" = some (some (.ref fHasSort))) (lHasSort : K.lookup fHasSort = some ⟨ocHasSort, odHasSort, .func (PySem.W.fnOf "has_sort" "has_sort" (defArgs sHasSort) (defBody sHasSort) (defScope sHasSort) .none kVHasSort dcHasSort pmHasSort anHasSort cdHasSort ctHasSort), slHasSort⟩) (cHasSort : PySem.W.codeIn K cdHasSort "has_sort" = true) (kHasSort : PySem.W.keepIn K (.ref fHasSort) = true)
    {odNeedShare anNeedShare : Option Addr} {slNeedShare : Array (Option Value)} {ocNeedShare kVNeedShare dcNeedShare pmNeedShare ctNeedShare cdNeedShare : Value} (aNeedShare : PySem.W.nsIn K mainGlobals "need_share" = some (some (.ref fNeedShare))) (lNeedShare : K.lookup fNeedShare = some ⟨ocNeedShare, odNeedShare, .func (PySem.W.fnOf "need_share" "need_share" (defArgs sNeedShare) (defBody sNeedShare) (defScope sNeedShare) .none kVNeedShare dcNeedShare pmNeedShare anNeedShare cdNeedShare ctNeedShare), slNeedShare⟩) (cNeedShare : PySem.W.codeIn K cdNeedShare "need_share" = true) (kNeedShare : PySem.W.keepIn K (.ref fNeedShare) = true)
    {odIsCostRow anIsCostRow : Option Addr} {slIsCostRow : Array (Option Value)} {ocIsCostRow kVIsCostRow dcIsCostRow pmIsCostRow ctIsCostRow cdIsCostRow : Value} (aIsCostRow : PySem.W.nsIn K mainGlobals "is_cost_row" = some (some (.ref fIsCostRow))) (lIsCostRow : K.lookup fIsCostRow = some ⟨ocIsCostRow, odIsCostRow, .func (PySem.W.fnOf "is_cost_row" "is_cost_row" (defArgs sIsCostRow) (defBody sIsCostRow) (defScope sIsCostRow) .none kVIsCostRow dcIsCostRow pmIsCostRow anIsCostRow cdIsCostRow ctIsCostRow), slIsCostRow⟩) (cIsCostRow : PySem.W.codeIn K cdIsCostRow "is_cost_row" = true) (kIsCostRow : PySem.W.keepIn K (.ref fIsCostRow) = true)
    {odNeedCosts anNeedCosts : Option Addr} {slNeedCosts : Array (Option Value)} {ocNeedCosts kVNeedCosts dcNeedCosts pmNeedCosts ctNeedCosts cdNeedCosts : Value} (aNeedCosts : PySem.W.nsIn K mainGlobals "need_costs" = some (some (.ref fNeedCosts))) (lNeedCosts : K.lookup fNeedCosts = some ⟨ocNeedCosts, odNeedCosts, .func (PySem.W.fnOf "need_costs" "need_costs" (defArgs sNeedCosts) (defBody sNeedCosts) (defScope sNeedCosts) .none kVNeedCosts dcNeedCosts pmNeedCosts anNeedCosts cdNeedCosts ctNeedCosts), slNeedCosts⟩) (cNeedCosts : PySem.W.codeIn K cdNeedCosts "need_costs" = true) (kNeedCosts : PySem.W.keepIn K (.ref fNeedCosts) = true)
    {odBow anBow : Option Addr} {slBow : Array (Option Value)} {ocBow kVBow dcBow pmBow ctBow cdBow : Value} (aBow : PySem.W.nsIn K mainGlobals "bow" = some (some (.ref fBow))) (lBow : K.lookup fBow = some ⟨ocBow, odBow, .func (PySem.W.fnOf "bow" "bow" (defArgs sBow) (defBody sBow) (defScope sBow) .none kVBow dcBow pmBow anBow cdBow ctBow), slBow⟩) (cBow : PySem.W.codeIn K cdBow "bow" = true) (kBow : PySem.W.keepIn K (.ref fBow) = true)
    {odBends anBends : Option Addr} {slBends : Array (Option Value)} {ocBends kVBends dcBends pmBends ctBends cdBends : Value} (aBends : PySem.W.nsIn K mainGlobals "bends" = some (some (.ref fBends))) (lBends : K.lookup fBends = some ⟨ocBends, odBends, .func (PySem.W.fnOf "bends" "bends" (defArgs sBends) (defBody sBends) (defScope sBends) .none kVBends dcBends pmBends anBends cdBends ctBends), slBends⟩) (cBends : PySem.W.codeIn K cdBends "bends" = true) (kBends : PySem.W.keepIn K (.ref fBends) = true)
    {odBendsUp anBendsUp : Option Addr} {slBendsUp : Array (Option Value)} {ocBendsUp kVBendsUp dcBendsUp pmBendsUp ctBendsUp cdBendsUp : Value} (aBendsUp : PySem.W.nsIn K mainGlobals "bends_up" = some (some (.ref fBendsUp))) (lBendsUp : K.lookup fBendsUp = some ⟨ocBendsUp, odBendsUp, .func (PySem.W.fnOf "bends_up" "bends_up" (defArgs sBendsUp) (defBody sBendsUp) (defScope sBendsUp) .none kVBendsUp dcBendsUp pmBendsUp anBendsUp cdBendsUp ctBendsUp), slBendsUp⟩) (cBendsUp : PySem.W.codeIn K cdBendsUp "bends_up" = true) (kBendsUp : PySem.W.keepIn K (.ref fBendsUp) = true)
    {odKindPaper anKindPaper : Option Addr} {slKindPaper : Array (Option Value)} {ocKindPaper kVKindPaper dcKindPaper pmKindPaper ctKindPaper cdKindPaper : Value} (aKindPaper : PySem.W.nsIn K mainGlobals "kind_paper" = some (some (.ref fKindPaper))) (lKindPaper : K.lookup fKindPaper = some ⟨ocKindPaper, odKindPaper, .func (PySem.W.fnOf "kind_paper" "kind_paper" (defArgs sKindPaper) (defBody sKindPaper) (defScope sKindPaper) .none kVKindPaper dcKindPaper pmKindPaper anKindPaper cdKindPaper ctKindPaper), slKindPaper⟩) (cKindPaper : PySem.W.codeIn K cdKindPaper "kind_paper" = true) (kKindPaper : PySem.W.keepIn K (.ref fKindPaper) = true)
    {odIsAsTold anIsAsTold : Option Addr} {slIsAsTold : Array (Option Value)} {ocIsAsTold kVIsAsTold dcIsAsTold pmIsAsTold ctIsAsTold cdIsAsTold : Value} (aIsAsTold : PySem.W.nsIn K mainGlobals "is_as_told" = some (some (.ref fIsAsTold))) (lIsAsTold : K.lookup fIsAsTold = some ⟨ocIsAsTold, odIsAsTold, .func (PySem.W.fnOf "is_as_told" "is_as_told" (defArgs sIsAsTold) (defBody sIsAsTold) (defScope sIsAsTold) .none kVIsAsTold dcIsAsTold pmIsAsTold anIsAsTold cdIsAsTold ctIsAsTold), slIsAsTold⟩) (cIsAsTold : PySem.W.codeIn K cdIsAsTold "is_as_told" = true) (kIsAsTold : PySem.W.keepIn K (.ref fIsAsTold) = true)
    {odCheckKind anCheckKind : Option Addr} {slCheckKind : Array (Option Value)} {ocCheckKind kVCheckKind dcCheckKind pmCheckKind ctCheckKind cdCheckKind : Value} (aCheckKind : PySem.W.nsIn K mainGlobals "check_kind" = some (some (.ref fCheckKind))) (lCheckKind : K.lookup fCheckKind = some ⟨ocCheckKind, odCheckKind, .func (PySem.W.fnOf "check_kind" "check_kind" (defArgs sCheckKind) (defBody sCheckKind) (defScope sCheckKind) .none kVCheckKind dcCheckKind pmCheckKind anCheckKind cdCheckKind ctCheckKind), slCheckKind⟩) (cCheckKind : PySem.W.codeIn K cdCheckKind "check_kind" = true) (kCheckKind : PySem.W.keepIn K (.ref fCheckKind) = true)
    {odMixed anMixed : Option Addr} {slMixed : Array (Option Value)} {ocMixed kVMixed dcMixed pmMixed ctMixed cdMixed : Value} (aMixed : PySem.W.nsIn K mainGlobals "_law_mixed" = some (some (.ref fMixed))) (lMixed : K.lookup fMixed = some ⟨ocMixed, odMixed, .func (PySem.W.fnOf "_law_mixed" "_law_mixed" (defArgs sMixed) (defBody sMixed) (defScope sMixed) .none kVMixed dcMixed pmMixed anMixed cdMixed ctMixed), slMixed⟩) (cMixed : PySem.W.codeIn K cdMixed "_law_mixed" = true) (kMixed : PySem.W.keepIn K (.ref fMixed) = true)
    {odBegin anBegin : Option Addr} {slBegin : Array (Option Value)} {ocBegin kVBegin dcBegin pmBegin ctBegin cdBegin : Value} (aBegin : PySem.W.nsIn K mainGlobals "_law_begin" = some (some (.ref fBegin))) (lBegin : K.lookup fBegin = some ⟨ocBegin, odBegin, .func (PySem.W.fnOf "_law_begin" "_law_begin" (defArgs sBegin) (defBody sBegin) (defScope sBegin) .none kVBegin dcBegin pmBegin anBegin cdBegin ctBegin), slBegin⟩) (cBegin : PySem.W.codeIn K cdBegin "_law_begin" = true) (kBegin : PySem.W.keepIn K (.ref fBegin) = true)
    {odDraw anDraw : Option Addr} {slDraw : Array (Option Value)} {ocDraw kVDraw dcDraw pmDraw ctDraw cdDraw : Value} (aDraw : PySem.W.nsIn K mainGlobals "_law_draw" = some (some (.ref fDraw))) (lDraw : K.lookup fDraw = some ⟨ocDraw, odDraw, .func (PySem.W.fnOf "_law_draw" "_law_draw" (defArgs sDraw) (defBody sDraw) (defScope sDraw) .none kVDraw dcDraw pmDraw anDraw cdDraw ctDraw), slDraw⟩) (cDraw : PySem.W.codeIn K cdDraw "_law_draw" = true) (kDraw : PySem.W.keepIn K (.ref fDraw) = true)
    {odLawRatio anLawRatio : Option Addr} {slLawRatio : Array (Option Value)} {ocLawRatio kVLawRatio dcLawRatio pmLawRatio ctLawRatio cdLawRatio : Value} (aLawRatio : PySem.W.nsIn K mainGlobals "_law_ratio" = some (some (.ref fLawRatio))) (lLawRatio : K.lookup fLawRatio = some ⟨ocLawRatio, odLawRatio, .func (PySem.W.fnOf "_law_ratio" "_law_ratio" (defArgs sLawRatio) (defBody sLawRatio) (defScope sLawRatio) .none kVLawRatio dcLawRatio pmLawRatio anLawRatio cdLawRatio ctLawRatio), slLawRatio⟩) (cLawRatio : PySem.W.codeIn K cdLawRatio "_law_ratio" = true) (kLawRatio : PySem.W.keepIn K (.ref fLawRatio) = true)
    {odLawHeft anLawHeft : Option Addr} {slLawHeft : Array (Option Value)} {ocLawHeft kVLawHeft dcLawHeft pmLawHeft ctLawHeft cdLawHeft : Value} (aLawHeft : PySem.W.nsIn K mainGlobals "_law_heft" = some (some (.ref fLawHeft))) (lLawHeft : K.lookup fLawHeft = some ⟨ocLawHeft, odLawHeft, .func (PySem.W.fnOf "_law_heft" "_law_heft" (defArgs sLawHeft) (defBody sLawHeft) (defScope sLawHeft) .none kVLawHeft dcLawHeft pmLawHeft anLawHeft cdLawHeft ctLawHeft), slLawHeft⟩) (cLawHeft : PySem.W.codeIn K cdLawHeft "_law_heft" = true) (kLawHeft : PySem.W.keepIn K (.ref fLawHeft) = true)
    {odLawMarks anLawMarks : Option Addr} {slLawMarks : Array (Option Value)} {ocLawMarks kVLawMarks dcLawMarks pmLawMarks ctLawMarks cdLawMarks : Value} (aLawMarks : PySem.W.nsIn K mainGlobals "_law_marks" = some (some (.ref fLawMarks))) (lLawMarks : K.lookup fLawMarks = some ⟨ocLawMarks, odLawMarks, .func (PySem.W.fnOf "_law_marks" "_law_marks" (defArgs sLawMarks) (defBody sLawMarks) (defScope sLawMarks) .none kVLawMarks dcLawMarks pmLawMarks anLawMarks cdLawMarks ctLawMarks), slLawMarks⟩) (cLawMarks : PySem.W.codeIn K cdLawMarks "_law_marks" = true) (kLawMarks : PySem.W.keepIn K (.ref fLawMarks) = true)
    {odLawShare anLawShare : Option Addr} {slLawShare : Array (Option Value)} {ocLawShare kVLawShare dcLawShare pmLawShare ctLawShare cdLawShare : Value} (aLawShare : PySem.W.nsIn K mainGlobals "_law_share" = some (some (.ref fLawShare))) (lLawShare : K.lookup fLawShare = some ⟨ocLawShare, odLawShare, .func (PySem.W.fnOf "_law_share" "_law_share" (defArgs sLawShare) (defBody sLawShare) (defScope sLawShare) .none kVLawShare dcLawShare pmLawShare anLawShare cdLawShare ctLawShare), slLawShare⟩) (cLawShare : PySem.W.codeIn K cdLawShare "_law_share" = true) (kLawShare : PySem.W.keepIn K (.ref fLawShare) = true)
    {odLawIsInt anLawIsInt : Option Addr} {slLawIsInt : Array (Option Value)} {ocLawIsInt kVLawIsInt dcLawIsInt pmLawIsInt ctLawIsInt cdLawIsInt : Value} (aLawIsInt : PySem.W.nsIn K mainGlobals "_law_is_int" = some (some (.ref fLawIsInt))) (lLawIsInt : K.lookup fLawIsInt = some ⟨ocLawIsInt, odLawIsInt, .func (PySem.W.fnOf "_law_is_int" "_law_is_int" (defArgs sLawIsInt) (defBody sLawIsInt) (defScope sLawIsInt) .none kVLawIsInt dcLawIsInt pmLawIsInt anLawIsInt cdLawIsInt ctLawIsInt), slLawIsInt⟩) (cLawIsInt : PySem.W.codeIn K cdLawIsInt "_law_is_int" = true) (kLawIsInt : PySem.W.keepIn K (.ref fLawIsInt) = true)
    {odLawCosts anLawCosts : Option Addr} {slLawCosts : Array (Option Value)} {ocLawCosts kVLawCosts dcLawCosts pmLawCosts ctLawCosts cdLawCosts : Value} (aLawCosts : PySem.W.nsIn K mainGlobals "_law_costs" = some (some (.ref fLawCosts))) (lLawCosts : K.lookup fLawCosts = some ⟨ocLawCosts, odLawCosts, .func (PySem.W.fnOf "_law_costs" "_law_costs" (defArgs sLawCosts) (defBody sLawCosts) (defScope sLawCosts) .none kVLawCosts dcLawCosts pmLawCosts anLawCosts cdLawCosts ctLawCosts), slLawCosts⟩) (cLawCosts : PySem.W.codeIn K cdLawCosts "_law_costs" = true) (kLawCosts : PySem.W.keepIn K (.ref fLawCosts) = true)
    {odLawBends anLawBends : Option Addr} {slLawBends : Array (Option Value)} {ocLawBends kVLawBends dcLawBends pmLawBends ctLawBends cdLawBends : Value} (aLawBends : PySem.W.nsIn K mainGlobals "_law_bends" = some (some (.ref fLawBends))) (lLawBends : K.lookup fLawBends = some ⟨ocLawBends, odLawBends, .func (PySem.W.fnOf "_law_bends" "_law_bends" (defArgs sLawBends) (defBody sLawBends) (defScope sLawBends) .none kVLawBends dcLawBends pmLawBends anLawBends cdLawBends ctLawBends), slLawBends⟩) (cLawBends : PySem.W.codeIn K cdLawBends "_law_bends" = true) (kLawBends : PySem.W.keepIn K (.ref fLawBends) = true)
    {odLawDue anLawDue : Option Addr} {slLawDue : Array (Option Value)} {ocLawDue kVLawDue dcLawDue pmLawDue ctLawDue cdLawDue : Value} (aLawDue : PySem.W.nsIn K mainGlobals "_law_due" = some (some (.ref fLawDue))) (lLawDue : K.lookup fLawDue = some ⟨ocLawDue, odLawDue, .func (PySem.W.fnOf "_law_due" "_law_due" (defArgs sLawDue) (defBody sLawDue) (defScope sLawDue) .none kVLawDue dcLawDue pmLawDue anLawDue cdLawDue ctLawDue), slLawDue⟩) (cLawDue : PySem.W.codeIn K cdLawDue "_law_due" = true) (kLawDue : PySem.W.keepIn K (.ref fLawDue) = true)
    {odLawHeard anLawHeard : Option Addr} {slLawHeard : Array (Option Value)} {ocLawHeard kVLawHeard dcLawHeard pmLawHeard ctLawHeard cdLawHeard : Value} (aLawHeard : PySem.W.nsIn K mainGlobals "_law_heard" = some (some (.ref fLawHeard))) (lLawHeard : K.lookup fLawHeard = some ⟨ocLawHeard, odLawHeard, .func (PySem.W.fnOf "_law_heard" "_law_heard" (defArgs sLawHeard) (defBody sLawHeard) (defScope sLawHeard) .none kVLawHeard dcLawHeard pmLawHeard anLawHeard cdLawHeard ctLawHeard), slLawHeard⟩) (cLawHeard : PySem.W.codeIn K cdLawHeard "_law_heard" = true) (kLawHeard : PySem.W.keepIn K (.ref fLawHeard) = true)
    {odLawBent anLawBent : Option Addr} {slLawBent : Array (Option Value)} {ocLawBent kVLawBent dcLawBent pmLawBent ctLawBent cdLawBent : Value} (aLawBent : PySem.W.nsIn K mainGlobals "_law_bent" = some (some (.ref fLawBent))) (lLawBent : K.lookup fLawBent = some ⟨ocLawBent, odLawBent, .func (PySem.W.fnOf "_law_bent" "_law_bent" (defArgs sLawBent) (defBody sLawBent) (defScope sLawBent) .none kVLawBent dcLawBent pmLawBent anLawBent cdLawBent ctLawBent), slLawBent⟩) (cLawBent : PySem.W.codeIn K cdLawBent "_law_bent" = true) (kLawBent : PySem.W.keepIn K (.ref fLawBent) = true)
    {odLaw anLaw : Option Addr} {slLaw : Array (Option Value)} {ocLaw kVLaw dcLaw pmLaw ctLaw cdLaw : Value} (aLaw : PySem.W.nsIn K mainGlobals "law" = some (some (.ref fLaw))) (lLaw : K.lookup fLaw = some ⟨ocLaw, odLaw, .func (PySem.W.fnOf "law" "law" (defArgs sLaw) (defBody sLaw) (defScope sLaw) .none kVLaw dcLaw pmLaw anLaw cdLaw ctLaw), slLaw⟩) (cLaw : PySem.W.codeIn K cdLaw "law" = true) (kLaw : PySem.W.keepIn K (.ref fLaw) = true)
    (z_isinstance : PySem.W.nsIn K mainGlobals "isinstance" = some none) (z_int : PySem.W.nsIn K mainGlobals "int" = some none) (z_tuple : PySem.W.nsIn K mainGlobals "tuple" = some none) (z_len : PySem.W.nsIn K mainGlobals "len" = some none) (z_abs : PySem.W.nsIn K mainGlobals "abs" = some none) (z_range : PySem.W.nsIn K mainGlobals "range" = some none) (z_list : PySem.W.nsIn K mainGlobals "list" = some none) (z_sorted : PySem.W.nsIn K mainGlobals "sorted" = some none) (z_zip : PySem.W.nsIn K mainGlobals "zip" = some none) (z_all : PySem.W.nsIn K mainGlobals "all" = some none) (z_dict : PySem.W.nsIn K mainGlobals "dict" = some none) (z_str : PySem.W.nsIn K mainGlobals "str" = some none) (z_bool : PySem.W.nsIn K mainGlobals "bool" = some none) (z_max : PySem.W.nsIn K mainGlobals "max" = some none) (z_min : PySem.W.nsIn K mainGlobals "min" = some none) (z_repr : PySem.W.nsIn K mainGlobals "repr" = some none) (z_gcd : PySem.W.nsIn K mainGlobals "gcd" = some (some (.builtin "math.gcd")))
    {t8 tU tD : Tok} (a8 : PySem.W.nsIn K mainGlobals "MOST_PAIRS" = some (some (.int 8 t8))) (aU : PySem.W.nsIn K mainGlobals "UP" = some (some (.int 1 tU))) (aD : PySem.W.nsIn K mainGlobals "DOWN" = some (some (.int (-1) tD)))
    {aS b0 b1 b2 b3 : Addr} {odS od0 od1 od2 od3 : Option Addr} {slS sl0 sl1 sl2 sl3 : Array (Option Value)} {nS n0 n1 n2 n3 : Nat} {tx0 ty0 tx1 ty1 tx2 ty2 tx3 ty3 : Tok} (aSo : PySem.W.nsIn K mainGlobals "SORTS" = some (some (.ref aS))) (lSo : K.lookup aS = some ⟨.type "tuple", odS, .seq #[.ref b0, .ref b1, .ref b2, .ref b3] nS, slS⟩) (lS0 : K.lookup b0 = some ⟨.type "tuple", od0, .seq #[.str "down" tx0, .int 1 ty0] n0, sl0⟩) (lS1 : K.lookup b1 = some ⟨.type "tuple", od1, .seq #[.str "up" tx1, .int 1 ty1] n1, sl1⟩) (lS2 : K.lookup b2 = some ⟨.type "tuple", od2, .seq #[.str "straight" tx2, .int 1 ty2] n2, sl2⟩) (lS3 : K.lookup b3 = some ⟨.type "tuple", od3, .seq #[.str "mixed" tx3, .int 5 ty3] n3, sl3⟩)
    {CP gP : Addr} {odP anP : Option Addr} {slP : Array (Option Value)} {ocP kVP dcP pmP cdP ctP : Value} (aP : PySem.W.nsIn K mainGlobals "BadPaper" = some (some (.ref CP))) (iP : PySem.W.excInitIn K CP bmV "ValueError.__new__" = true) (oP : PySem.W.excOver K CP bmV = true) (sP : PySem.W.findIn K (.ref CP) "__setattr__" = some (some (.builtin "object.__setattr__"))) (tP : PySem.W.takerIn K CP "part" = some none)
    (xP : xfB K CP = true) (nP : PySem.W.findIn K (.ref CP) "part" = some none) (jP : PySem.W.findIn K (.ref CP) "__init__" = some (some (.ref gP))) (vP : PySem.W.typeIn K (.ref gP) = some (.type "function")) (qP : PySem.W.keepIn K (.ref CP) = true) (yP : PySem.W.typeIn K (.ref CP) = some (.type "type"))
    (lP : K.lookup gP = some ⟨ocP, odP, .func (PySem.W.fnOf "__init__" "BadPaper.__init__" (defArgs (inClass sBadPaper 0)) (defBody (inClass sBadPaper 0)) (defScope (inClass sBadPaper 0)) .none kVP dcP pmP anP cdP ctP), slP⟩) (cP : PySem.W.codeIn K cdP "BadPaper.__init__" = true) (kP : PySem.W.keepIn K (.ref gP) = true)
    (xPP : PySem.W.exmOne K (.ref CP) (.ref CP) = some true) :
    ∃ fd : FuncData, (∀ (s : Shared) (v : Value), BindsTo s fd ⟨[v], []⟩ [("script", v)]) ∧ ∀ base : Heap, K.In base → base.Ns mainGlobals mg → FnG l.prog w K mg base CX0 11 fa fd ["script"] (spLawK K) := by
  have e := hfa.symm.trans (PySem.W.mg_of X G aLaw)
  cases e
  have T : Bt mg := ⟨PySem.W.mg_of X G z_gcd, PySem.W.mg_none_of X G z_isinstance, PySem.W.mg_none_of X G z_int, PySem.W.mg_none_of X G z_tuple, PySem.W.mg_none_of X G z_len, PySem.W.mg_none_of X G z_abs, PySem.W.mg_none_of X G z_range, PySem.W.mg_none_of X G z_list, PySem.W.mg_none_of X G z_sorted, PySem.W.mg_none_of X G z_zip, PySem.W.mg_none_of X G z_all, PySem.W.mg_none_of X G z_dict⟩
  have mstr := PySem.W.mg_none_of X G z_str
  have mbool := PySem.W.mg_none_of X G z_bool
  have mmax := PySem.W.mg_none_of X G z_max
  have mmin := PySem.W.mg_none_of X G z_min
  have mrepr := PySem.W.mg_none_of X G z_repr
  have g8 := PySem.W.mg_of X G a8
  have gU := PySem.W.mg_of X G aU
  have gD := PySem.W.mg_of X G aD
  have gS := PySem.W.mg_of X G aSo
  have hS : ∀ H, Dp K H (.ref aS) (.tuple kindSorts) := fun H => Dp.tup (xs := [V.ref b0, V.ref b1, V.ref b2, V.ref b3]) (.inr ⟨_, _, _, lSo, rfl, rfl, (by show 4 ≤ sizeLine; decide), .cons rfl (.cons rfl (.cons rfl (.cons rfl .nil)))⟩) (.cons (Dp.tup (xs := [V.str "down", V.int 1]) (.inr ⟨_, _, _, lS0, rfl, rfl, (by show 2 ≤ sizeLine; decide), .cons ⟨tx0, rfl⟩ (.cons ⟨ty0, rfl⟩ .nil)⟩) (.cons (.str _) (.cons (.int _) .nil))) (.cons (Dp.tup (xs := [V.str "up", V.int 1]) (.inr ⟨_, _, _, lS1, rfl, rfl, (by show 2 ≤ sizeLine; decide), .cons ⟨tx1, rfl⟩ (.cons ⟨ty1, rfl⟩ .nil)⟩) (.cons (.str _) (.cons (.int _) .nil))) (.cons (Dp.tup (xs := [V.str "straight", V.int 1]) (.inr ⟨_, _, _, lS2, rfl, rfl, (by show 2 ≤ sizeLine; decide), .cons ⟨tx2, rfl⟩ (.cons ⟨ty2, rfl⟩ .nil)⟩) (.cons (.str _) (.cons (.int _) .nil))) (.cons (Dp.tup (xs := [V.str "mixed", V.int 5]) (.inr ⟨_, _, _, lS3, rfl, rfl, (by show 2 ≤ sizeLine; decide), .cons ⟨tx3, rfl⟩ (.cons ⟨ty3, rfl⟩ .nil)⟩) (.cons (.str _) (.cons (.int _) .nil))) .nil))))
  have FIsWhole := fun_mk (st := sIsWhole) lIsWhole cIsWhole kIsWhole
  have DIsWhole : Df K mg "is_whole" sIsWhole ["thing"] fIsWhole _ := ⟨FIsWhole, FIsWhole.binds (ps := ["thing"]) fun _ _ _ _ _ _ us hl => match us, hl with | [_], _ => rfl, PySem.W.mg_of X G aIsWhole⟩
  have FIsWord := fun_mk (st := sIsWord) lIsWord cIsWord kIsWord
  have DIsWord : Df K mg "is_word" sIsWord ["thing"] fIsWord _ := ⟨FIsWord, FIsWord.binds (ps := ["thing"]) fun _ _ _ _ _ _ us hl => match us, hl with | [_], _ => rfl, PySem.W.mg_of X G aIsWord⟩
  have FIsRow := fun_mk (st := sIsRow) lIsRow cIsRow kIsRow
  have DIsRow : Df K mg "is_row" sIsRow ["thing"] fIsRow _ := ⟨FIsRow, FIsRow.binds (ps := ["thing"]) fun _ _ _ _ _ _ us hl => match us, hl with | [_], _ => rfl, PySem.W.mg_of X G aIsRow⟩
  have FIsRowOf := fun_mk (st := sIsRowOf) lIsRowOf cIsRowOf kIsRowOf
  have DIsRowOf : Df K mg "is_row_of" sIsRowOf ["thing", "many"] fIsRowOf _ := ⟨FIsRowOf, FIsRowOf.binds (ps := ["thing", "many"]) fun _ _ _ _ _ _ us hl => match us, hl with | [_, _], _ => rfl, PySem.W.mg_of X G aIsRowOf⟩
  have FIsWholeWithin := fun_mk (st := sIsWholeWithin) lIsWholeWithin cIsWholeWithin kIsWholeWithin
  have DIsWholeWithin : Df K mg "is_whole_within" sIsWholeWithin ["thing", "least", "most"] fIsWholeWithin _ := ⟨FIsWholeWithin, FIsWholeWithin.binds (ps := ["thing", "least", "most"]) fun _ _ _ _ _ _ us hl => match us, hl with | [_, _, _], _ => rfl, PySem.W.mg_of X G aIsWholeWithin⟩
  have FIsNumber := fun_mk (st := sIsNumber) lIsNumber cIsNumber kIsNumber
  have DIsNumber : Df K mg "is_number" sIsNumber ["thing"] fIsNumber _ := ⟨FIsNumber, FIsNumber.binds (ps := ["thing"]) fun _ _ _ _ _ _ us hl => match us, hl with | [_], _ => rfl, PySem.W.mg_of X G aIsNumber⟩
  have FIsFraction := fun_mk (st := sIsFraction) lIsFraction cIsFraction kIsFraction
  have DIsFraction : Df K mg "is_fraction" sIsFraction ["thing"] fIsFraction _ := ⟨FIsFraction, FIsFraction.binds (ps := ["thing"]) fun _ _ _ _ _ _ us hl => match us, hl with | [_], _ => rfl, PySem.W.mg_of X G aIsFraction⟩
  have FIsWeight := fun_mk (st := sIsWeight) lIsWeight cIsWeight kIsWeight
  have DIsWeight : Df K mg "is_weight" sIsWeight ["thing"] fIsWeight _ := ⟨FIsWeight, FIsWeight.binds (ps := ["thing"]) fun _ _ _ _ _ _ us hl => match us, hl with | [_], _ => rfl, PySem.W.mg_of X G aIsWeight⟩
  have FAscends := fun_mk (st := sAscends) lAscends cAscends kAscends
  have DAscends : Df K mg "ascends" sAscends ["things"] fAscends _ := ⟨FAscends, FAscends.binds (ps := ["things"]) fun _ _ _ _ _ _ us hl => match us, hl with | [_], _ => rfl, PySem.W.mg_of X G aAscends⟩
  have FIsSharePair := fun_mk (st := sIsSharePair) lIsSharePair cIsSharePair kIsSharePair
  have DIsSharePair : Df K mg "is_share_pair" sIsSharePair ["thing"] fIsSharePair _ := ⟨FIsSharePair, FIsSharePair.binds (ps := ["thing"]) fun _ _ _ _ _ _ us hl => match us, hl with | [_], _ => rfl, PySem.W.mg_of X G aIsSharePair⟩
  have FIsShare := fun_mk (st := sIsShare) lIsShare cIsShare kIsShare
  have DIsShare : Df K mg "is_share" sIsShare ["thing"] fIsShare _ := ⟨FIsShare, FIsShare.binds (ps := ["thing"]) fun _ _ _ _ _ _ us hl => match us, hl with | [_], _ => rfl, PySem.W.mg_of X G aIsShare⟩
  have FHasSort := fun_mk (st := sHasSort) lHasSort cHasSort kHasSort
  have DHasSort : Df K mg "has_sort" sHasSort ["paper", "sorts"] fHasSort _ := ⟨FHasSort, FHasSort.binds (ps := ["paper", "sorts"]) fun _ _ _ _ _ _ us hl => match us, hl with | [_, _], _ => rfl, PySem.W.mg_of X G aHasSort⟩
  have FNeedShare := fun_mk (st := sNeedShare) lNeedShare cNeedShare kNeedShare
  have DNeedShare : Df K mg "need_share" sNeedShare ["thing"] fNeedShare _ := ⟨FNeedShare, FNeedShare.binds (ps := ["thing"]) fun _ _ _ _ _ _ us hl => match us, hl with | [_], _ => rfl, PySem.W.mg_of X G aNeedShare⟩
  have FIsCostRow := fun_mk (st := sIsCostRow) lIsCostRow cIsCostRow kIsCostRow
  have DIsCostRow : Df K mg "is_cost_row" sIsCostRow ["thing", "many"] fIsCostRow _ := ⟨FIsCostRow, FIsCostRow.binds (ps := ["thing", "many"]) fun _ _ _ _ _ _ us hl => match us, hl with | [_, _], _ => rfl, PySem.W.mg_of X G aIsCostRow⟩
  have FNeedCosts := fun_mk (st := sNeedCosts) lNeedCosts cNeedCosts kNeedCosts
  have DNeedCosts : Df K mg "need_costs" sNeedCosts ["one", "other", "thing"] fNeedCosts _ := ⟨FNeedCosts, FNeedCosts.binds (ps := ["one", "other", "thing"]) fun _ _ _ _ _ _ us hl => match us, hl with | [_, _, _], _ => rfl, PySem.W.mg_of X G aNeedCosts⟩
  have FBow := fun_mk (st := sBow) lBow cBow kBow
  have DBow : Df K mg "bow" sBow ["other", "rises", "column"] fBow _ := ⟨FBow, FBow.binds (ps := ["other", "rises", "column"]) fun _ _ _ _ _ _ us hl => match us, hl with | [_, _, _], _ => rfl, PySem.W.mg_of X G aBow⟩
  have FBends := fun_mk (st := sBends) lBends cBends kBends
  have DBends : Df K mg "bends" sBends ["other", "costs", "way"] fBends _ := ⟨FBends, FBends.binds (ps := ["other", "costs", "way"]) fun _ _ _ _ _ _ us hl => match us, hl with | [_, _, _], _ => rfl, PySem.W.mg_of X G aBends⟩
  have FBendsUp := fun_mk (st := sBendsUp) lBendsUp cBendsUp kBendsUp
  have DBendsUp : Df K mg "bends_up" sBendsUp ["one", "other", "costs"] fBendsUp _ := ⟨FBendsUp, FBendsUp.binds (ps := ["one", "other", "costs"]) fun _ _ _ _ _ _ us hl => match us, hl with | [_, _, _], _ => rfl, PySem.W.mg_of X G aBendsUp⟩
  have FKindPaper := fun_mk (st := sKindPaper) lKindPaper cKindPaper kKindPaper
  have DKindPaper : Df K mg "kind_paper" sKindPaper ["one", "other", "costs"] fKindPaper _ := ⟨FKindPaper, FKindPaper.binds (ps := ["one", "other", "costs"]) fun _ _ _ _ _ _ us hl => match us, hl with | [_, _, _], _ => rfl, PySem.W.mg_of X G aKindPaper⟩
  have FIsAsTold := fun_mk (st := sIsAsTold) lIsAsTold cIsAsTold kIsAsTold
  have DIsAsTold : Df K mg "is_as_told" sIsAsTold ["other", "costs", "paper"] fIsAsTold _ := ⟨FIsAsTold, FIsAsTold.binds (ps := ["other", "costs", "paper"]) fun _ _ _ _ _ _ us hl => match us, hl with | [_, _, _], _ => rfl, PySem.W.mg_of X G aIsAsTold⟩
  have FCheckKind := fun_mk (st := sCheckKind) lCheckKind cCheckKind kCheckKind
  have DCheckKind : Df K mg "check_kind" sCheckKind ["one", "other", "costs", "paper"] fCheckKind _ := ⟨FCheckKind, FCheckKind.binds (ps := ["one", "other", "costs", "paper"]) fun _ _ _ _ _ _ us hl => match us, hl with | [_, _, _, _], _ => rfl, PySem.W.mg_of X G aCheckKind⟩
  have FMixed := fun_mk (st := sMixed) lMixed cMixed kMixed
  have DMixed : Df K mg "_law_mixed" sMixed ["cell", "k"] fMixed _ := ⟨FMixed, FMixed.binds (ps := ["cell", "k"]) fun _ _ _ _ _ _ us hl => match us, hl with | [_, _], _ => rfl, PySem.W.mg_of X G aMixed⟩
  have FBegin := fun_mk (st := sBegin) lBegin cBegin kBegin
  have DBegin : Df K mg "_law_begin" sBegin ["script"] fBegin _ := ⟨FBegin, FBegin.binds (ps := ["script"]) fun _ _ _ _ _ _ us hl => match us, hl with | [_], _ => rfl, PySem.W.mg_of X G aBegin⟩
  have FDraw := fun_mk (st := sDraw) lDraw cDraw kDraw
  have DDraw : Df K mg "_law_draw" sDraw ["state", "many"] fDraw _ := ⟨FDraw, FDraw.binds (ps := ["state", "many"]) fun _ _ _ _ _ _ us hl => match us, hl with | [_, _], _ => rfl, PySem.W.mg_of X G aDraw⟩
  have FLawRatio := fun_mk (st := sLawRatio) lLawRatio cLawRatio kLawRatio
  have DLawRatio : Df K mg "_law_ratio" sLawRatio ["top", "bottom"] fLawRatio _ := ⟨FLawRatio, FLawRatio.binds (ps := ["top", "bottom"]) fun _ _ _ _ _ _ us hl => match us, hl with | [_, _], _ => rfl, PySem.W.mg_of X G aLawRatio⟩
  have FLawHeft := fun_mk (st := sLawHeft) lLawHeft cLawHeft kLawHeft
  have DLawHeft : Df K mg "_law_heft" sLawHeft ["state"] fLawHeft _ := ⟨FLawHeft, FLawHeft.binds (ps := ["state"]) fun _ _ _ _ _ _ us hl => match us, hl with | [_], _ => rfl, PySem.W.mg_of X G aLawHeft⟩
  have FLawMarks := fun_mk (st := sLawMarks) lLawMarks cLawMarks kLawMarks
  have DLawMarks : Df K mg "_law_marks" sLawMarks ["state", "many", "most"] fLawMarks _ := ⟨FLawMarks, FLawMarks.binds (ps := ["state", "many", "most"]) fun _ _ _ _ _ _ us hl => match us, hl with | [_, _, _], _ => rfl, PySem.W.mg_of X G aLawMarks⟩
  have FLawShare := fun_mk (st := sLawShare) lLawShare cLawShare kLawShare
  have DLawShare : Df K mg "_law_share" sLawShare ["state", "many"] fLawShare _ := ⟨FLawShare, FLawShare.binds (ps := ["state", "many"]) fun _ _ _ _ _ _ us hl => match us, hl with | [_, _], _ => rfl, PySem.W.mg_of X G aLawShare⟩
  have FLawIsInt := fun_mk (st := sLawIsInt) lLawIsInt cLawIsInt kLawIsInt
  have DLawIsInt : Df K mg "_law_is_int" sLawIsInt ["thing", "least", "most"] fLawIsInt _ := ⟨FLawIsInt, FLawIsInt.binds (ps := ["thing", "least", "most"]) fun _ _ _ _ _ _ us hl => match us, hl with | [_, _, _], _ => rfl, PySem.W.mg_of X G aLawIsInt⟩
  have FLawCosts := fun_mk (st := sLawCosts) lLawCosts cLawCosts kLawCosts
  have DLawCosts : Df K mg "_law_costs" sLawCosts ["state", "one", "other"] fLawCosts _ := ⟨FLawCosts, FLawCosts.binds (ps := ["state", "one", "other"]) fun _ _ _ _ _ _ us hl => match us, hl with | [_, _, _], _ => rfl, PySem.W.mg_of X G aLawCosts⟩
  have FLawBends := fun_mk (st := sLawBends) lLawBends cLawBends kLawBends
  have DLawBends : Df K mg "_law_bends" sLawBends ["one", "other", "costs_so"] fLawBends _ := ⟨FLawBends, FLawBends.binds (ps := ["one", "other", "costs_so"]) fun _ _ _ _ _ _ us hl => match us, hl with | [_, _, _], _ => rfl, PySem.W.mg_of X G aLawBends⟩
  have FLawDue := fun_mk (st := sLawDue) lLawDue cLawDue kLawDue
  have DLawDue : Df K mg "_law_due" sLawDue ["one", "other", "costs_so", "sheet"] fLawDue _ := ⟨FLawDue, FLawDue.binds (ps := ["one", "other", "costs_so", "sheet"]) fun _ _ _ _ _ _ us hl => match us, hl with | [_, _, _, _], _ => rfl, PySem.W.mg_of X G aLawDue⟩
  have FLawHeard := fun_mk (st := sLawHeard) lLawHeard cLawHeard kLawHeard
  have DLawHeard : Df K mg "_law_heard" sLawHeard ["one", "other", "costs_so", "sheet"] fLawHeard _ := ⟨FLawHeard, FLawHeard.binds (ps := ["one", "other", "costs_so", "sheet"]) fun _ _ _ _ _ _ us hl => match us, hl with | [_, _, _, _], _ => rfl, PySem.W.mg_of X G aLawHeard⟩
  have FLawBent := fun_mk (st := sLawBent) lLawBent cLawBent kLawBent
  have DLawBent : Df K mg "_law_bent" sLawBent ["state", "one", "other", "sheet"] fLawBent _ := ⟨FLawBent, FLawBent.binds (ps := ["state", "one", "other", "sheet"]) fun _ _ _ _ _ _ us hl => match us, hl with | [_, _, _, _], _ => rfl, PySem.W.mg_of X G aLawBent⟩
  have FP := fun_mk (st := inClass sBadPaper 0) lP cP kP
  have ZP : Xc K mg "BadPaper" "part" CP gP bmV "ValueError.__new__" (inClass sBadPaper 0) "BadPaper.__init__" _ := ⟨⟨PySem.W.mg_of X G aP, iP, oP, sP, tP, xfB_ok xP, nP, jP, vP, qP, yP⟩, FP, FP.binds (ps := ["self", "part"]) fun _ _ _ _ _ _ us hl => match us, hl with | [_, _], _ => rfl⟩
  have FLaw := fun_mk (st := sLaw) lLaw cLaw kLaw
  have DLaw : Df K mg "law" sLaw ["script"] _ _ := ⟨FLaw, FLaw.binds (ps := ["script"]) fun _ _ _ _ _ _ us hl => match us, hl with | [_], _ => rfl, hfa⟩
  refine ⟨PySem.W.fnOf "law" "law" (defArgs sLaw) (defBody sLaw) (defScope sLaw) .none kVLaw dcLaw pmLaw anLaw cdLaw ctLaw, fun s v => .of_eq rfl, fun base _ _ => ?_⟩
  have Gwhole := ok_is_whole (P := l.prog) (w := w) (base := base) DIsWhole T
  have GwholeD := ok_wholeD (P := l.prog) (w := w) (base := base) DIsWhole T
  have GwordD := ok_wordD (P := l.prog) (w := w) (base := base) DIsWord T mstr
  have Grow := ok_is_row (P := l.prog) (w := w) (base := base) DIsRow T
  have GrowD := ok_rowD (P := l.prog) (w := w) (base := base) DIsRow T
  have Growof := ok_is_row_of (P := l.prog) (w := w) (base := base) DIsRowOf DIsRow T
  have GrowofD := ok_row_ofD (P := l.prog) (w := w) (base := base) DIsRowOf DIsRow GrowD T
  have Gww := ok_is_whole_within (P := l.prog) (w := w) (base := base) DIsWholeWithin DIsWhole T
  have Gnum := ok_is_number DIsNumber DIsWholeWithin Gww
  have Gfr := ok_is_fraction (P := l.prog) (w := w) (base := base) DIsFraction DIsRowOf DIsRow DIsWhole T
  have Gwt := ok_is_weight DIsWeight DIsFraction Gfr
  have Gasc := ok_ascends (P := l.prog) (w := w) (base := base) DAscends T
  have Gshp := ok_is_share_pair DIsSharePair DIsRowOf Growof DIsNumber Gnum DIsWeight Gwt
  have Gissh := ok_is_share DIsShare DIsRow Grow DIsSharePair Gshp DAscends Gasc g8 T
  have Gneed := ok_need_share DNeedShare DIsShare Gissh
  have Gsort := ok_has_sort (P := l.prog) (w := w) (base := base) DHasSort DIsRow GrowD DIsWord GwordD T
  have Gcrow := ok_is_cost_row DIsCostRow DIsRowOf GrowofD DIsWholeWithin Gww T
  have Gnc := ok_need_costs DNeedCosts DNeedShare Gneed DIsRowOf GrowofD DIsCostRow Gcrow T
  have Gbow := ok_bow (P := l.prog) (w := w) (base := base) DBow T
  have Gbends := ok_bends DBends DBow Gbow T
  have Gups := ok_bends_up DBendsUp DBends Gbends DNeedCosts Gnc gU
  have Gkind := ok_kind_paper DKindPaper DBends Gbends DBendsUp Gups gD
  have Gtold := ok_is_as_told DIsAsTold DBends Gbends DIsWhole GwholeD gU gD T
  have Gcheck := ok_check_kind DCheckKind DNeedCosts Gnc DHasSort Gsort DIsAsTold Gtold gS hS ZP
  have Gbegin := ok_begin (P := l.prog) (w := w) (base := base) DBegin T
  have Gdraw := ok_draw (P := l.prog) (w := w) (base := base) DDraw DMixed T
  have Gratio := ok_law_ratio (P := l.prog) (w := w) (base := base) DLawRatio T
  have Gheft := ok_law_heft DLawHeft DDraw Gdraw DLawRatio Gratio
  have Gmarks := ok_law_marks DLawMarks DDraw Gdraw T
  have Gshare := ok_law_share DLawShare DLawHeft Gheft DLawMarks Gmarks T
  have Gisint := ok_law_is_int (P := l.prog) (w := w) (base := base) DLawIsInt T mbool
  have Gcosts := ok_law_costs DLawCosts DDraw Gdraw T mmax mmin
  have Glbends := ok_law_bends (P := l.prog) (w := w) (base := base) DLawBends T
  have Gdue := ok_law_due DLawDue DLawBends Glbends DLawIsInt Gisint T mstr
  have Gheard := ok_law_heard DLawHeard DCheckKind Gcheck ZP xPP
  have Gbent := ok_law_bent DLawBent DDraw Gdraw T mmax
  exact ok_lawK DLaw T mmin mrepr DBegin Gbegin DLawShare Gshare DLawCosts Gcosts DLawBent Gbent DKindPaper Gkind DLawDue Gdue DLawHeard Gheard
theorem walk {l : PySem.W.OpenLaw} {q : Program} {loose : List Str} {XP : (Str → Option Value) → Heap → Prop} {YP : World → Heap → Prop} {d : DefRec} {K : Params → PySem.W.Frag} (hn : l.most = some 63) (hdf : d.params.defaults = [])
    (hY : ∀ (w : World) (h : Heap), YP w h → (K w.params).In h)
    (F : ∀ (w : World) (mg : Str → Option Value) (fa : Addr) (h : Heap), (K w.params).In h → h.Ns mainGlobals mg → mg d.name = some (.ref fa) →
      ∃ fd : FuncData, (∀ (s : Shared) (u : Value), BindsTo s fd ⟨[u], []⟩ [("script", u)]) ∧ ∀ base : Heap, (K w.params).In base → base.Ns mainGlobals mg → FnG l.prog w (K w.params) mg base CX0 11 fa fd ["script"] (spLawK (K w.params))) :
    PySem.W.WalkO q loose XP YP l.row.toRowW d [] (fun f vs => PySem.call f vs) := by
  refine Att.attach_call hn hdf fun w s₀ s₁ mg mb fa o pm cd doc a vs ns gr y ho hd hcd hmg hobj hints hlen hg => ?_
  have inn := hY w _ y
  obtain ⟨fd, hb, hF⟩ := F w mg fa _ inn gr.T.g hmg
  exact law_still inn gr.T.g gr.T.b gr.T.builtins gr.T.nolimit hg hobj hints (Nat.le_trans hlen (by decide)) ⟨rfl, by decide, by decide⟩ hF hb fun H hS => ⟨a, ns, rfl, hS, hlen, fun _ => rfl⟩
end CS
open PySem PySem.W PyProof.Rows
set_option maxRecDepth 100000 in
set_option maxHeartbeats 0 in
theorem PySem.Challenge.cw_curtainsteps_k10_kind_papers_judged_holds : PySem.Challenge.rw_curtainsteps_k10_kind_papers_judged.Holds := by
  w_on; o_law; k_head; (case hw => w_witness2)
  k_fill
  refine CS.walk (l := PySem.Challenge.rw_curtainsteps_k10_kind_papers_judged) rfl rfl (fun w h Y => PySem.W.kIn_of Y) ?F
  case F =>
    intro w mg fa h KX G hmg
    refine' CS.all_mk KX G hmg ?aIsWhole ?lIsWhole ?cIsWhole ?kIsWhole ?aIsWord ?lIsWord ?cIsWord ?kIsWord ?aIsRow ?lIsRow ?cIsRow ?kIsRow ?aIsRowOf ?lIsRowOf ?cIsRowOf ?kIsRowOf ?aIsWholeWithin ?lIsWholeWithin ?cIsWholeWithin ?kIsWholeWithin ?aIsNumber ?lIsNumber ?cIsNumber ?kIsNumber ?aIsFraction ?lIsFraction ?cIsFraction ?kIsFraction ?aIsWeight ?lIsWeight ?cIsWeight ?kIsWeight ?aAscends ?lAscends ?cAscends ?kAscends ?aIsSharePair ?lIsSharePair ?cIsSharePair ?kIsSharePair ?aIsShare ?lIsShare ?cIsShare ?kIsShare ?aHasSort ?lHasSort ?cHasSort ?kHasSort ?aNeedShare ?lNeedShare ?cNeedShare ?kNeedShare ?aIsCostRow ?lIsCostRow ?cIsCostRow ?kIsCostRow ?aNeedCosts ?lNeedCosts ?cNeedCosts ?kNeedCosts ?aBow ?lBow ?cBow ?kBow ?aBends ?lBends ?cBends ?kBends ?aBendsUp ?lBendsUp ?cBendsUp ?kBendsUp ?aKindPaper ?lKindPaper ?cKindPaper ?kKindPaper ?aIsAsTold ?lIsAsTold ?cIsAsTold ?kIsAsTold ?aCheckKind ?lCheckKind ?cCheckKind ?kCheckKind ?aMixed ?lMixed ?cMixed ?kMixed ?aBegin ?lBegin ?cBegin ?kBegin ?aDraw ?lDraw ?cDraw ?kDraw ?aLawRatio ?lLawRatio ?cLawRatio ?kLawRatio ?aLawHeft ?lLawHeft ?cLawHeft ?kLawHeft ?aLawMarks ?lLawMarks ?cLawMarks ?kLawMarks ?aLawShare ?lLawShare ?cLawShare ?kLawShare ?aLawIsInt ?lLawIsInt ?cLawIsInt ?kLawIsInt ?aLawCosts ?lLawCosts ?cLawCosts ?kLawCosts ?aLawBends ?lLawBends ?cLawBends ?kLawBends ?aLawDue ?lLawDue ?cLawDue ?kLawDue ?aLawHeard ?lLawHeard ?cLawHeard ?kLawHeard ?aLawBent ?lLawBent ?cLawBent ?kLawBent ?aLaw ?lLaw ?cLaw ?kLaw ?z_isinstance ?z_int ?z_tuple ?z_len ?z_abs ?z_range ?z_list ?z_sorted ?z_zip ?z_all ?z_dict ?z_str ?z_bool ?z_max ?z_min ?z_repr ?z_gcd ?a8 ?aU ?aD ?aSo ?lSo ?lS0 ?lS1 ?lS2 ?lS3 ?aP ?iP ?oP ?sP ?tP ?xP ?nP ?jP ?vP ?qP ?yP ?lP ?cP ?kP ?xPP
    (case aIsWhole => k_is)
    (case lIsWhole => k_is)
    (case cIsWhole => k_is)
    (case kIsWhole => k_is)
    (case aIsWord => k_is)
    (case lIsWord => k_is)
    (case cIsWord => k_is)
    (case kIsWord => k_is)
    (case aIsRow => k_is)
    (case lIsRow => k_is)
    (case cIsRow => k_is)
    (case kIsRow => k_is)
    (case aIsRowOf => k_is)
    (case lIsRowOf => k_is)
    (case cIsRowOf => k_is)
    (case kIsRowOf => k_is)
    (case aIsWholeWithin => k_is)
    (case lIsWholeWithin => k_is)
    (case cIsWholeWithin => k_is)
    (case kIsWholeWithin => k_is)
    (case aIsNumber => k_is)
    (case lIsNumber => k_is)
    (case cIsNumber => k_is)
    (case kIsNumber => k_is)
    (case aIsFraction => k_is)
    (case lIsFraction => k_is)
    (case cIsFraction => k_is)
    (case kIsFraction => k_is)
    (case aIsWeight => k_is)
    (case lIsWeight => k_is)
    (case cIsWeight => k_is)
    (case kIsWeight => k_is)
    (case aAscends => k_is)
    (case lAscends => k_is)
    (case cAscends => k_is)
    (case kAscends => k_is)
    (case aIsSharePair => k_is)
    (case lIsSharePair => k_is)
    (case cIsSharePair => k_is)
    (case kIsSharePair => k_is)
    (case aIsShare => k_is)
    (case lIsShare => k_is)
    (case cIsShare => k_is)
    (case kIsShare => k_is)
    (case aHasSort => k_is)
    (case lHasSort => k_is)
    (case cHasSort => k_is)
    (case kHasSort => k_is)
    (case aNeedShare => k_is)
    (case lNeedShare => k_is)
    (case cNeedShare => k_is)
    (case kNeedShare => k_is)
    (case aIsCostRow => k_is)
    (case lIsCostRow => k_is)
    (case cIsCostRow => k_is)
    (case kIsCostRow => k_is)
    (case aNeedCosts => k_is)
    (case lNeedCosts => k_is)
    (case cNeedCosts => k_is)
    (case kNeedCosts => k_is)
    (case aBow => k_is)
    (case lBow => k_is)
    (case cBow => k_is)
    (case kBow => k_is)
    (case aBends => k_is)
    (case lBends => k_is)
    (case cBends => k_is)
    (case kBends => k_is)
    (case aBendsUp => k_is)
    (case lBendsUp => k_is)
    (case cBendsUp => k_is)
    (case kBendsUp => k_is)
    (case aKindPaper => k_is)
    (case lKindPaper => k_is)
    (case cKindPaper => k_is)
    (case kKindPaper => k_is)
    (case aIsAsTold => k_is)
    (case lIsAsTold => k_is)
    (case cIsAsTold => k_is)
    (case kIsAsTold => k_is)
    (case aCheckKind => k_is)
    (case lCheckKind => k_is)
    (case cCheckKind => k_is)
    (case kCheckKind => k_is)
    (case aMixed => k_is)
    (case lMixed => k_is)
    (case cMixed => k_is)
    (case kMixed => k_is)
    (case aBegin => k_is)
    (case lBegin => k_is)
    (case cBegin => k_is)
    (case kBegin => k_is)
    (case aDraw => k_is)
    (case lDraw => k_is)
    (case cDraw => k_is)
    (case kDraw => k_is)
    (case aLawRatio => k_is)
    (case lLawRatio => k_is)
    (case cLawRatio => k_is)
    (case kLawRatio => k_is)
    (case aLawHeft => k_is)
    (case lLawHeft => k_is)
    (case cLawHeft => k_is)
    (case kLawHeft => k_is)
    (case aLawMarks => k_is)
    (case lLawMarks => k_is)
    (case cLawMarks => k_is)
    (case kLawMarks => k_is)
    (case aLawShare => k_is)
    (case lLawShare => k_is)
    (case cLawShare => k_is)
    (case kLawShare => k_is)
    (case aLawIsInt => k_is)
    (case lLawIsInt => k_is)
    (case cLawIsInt => k_is)
    (case kLawIsInt => k_is)
    (case aLawCosts => k_is)
    (case lLawCosts => k_is)
    (case cLawCosts => k_is)
    (case kLawCosts => k_is)
    (case aLawBends => k_is)
    (case lLawBends => k_is)
    (case cLawBends => k_is)
    (case kLawBends => k_is)
    (case aLawDue => k_is)
    (case lLawDue => k_is)
    (case cLawDue => k_is)
    (case kLawDue => k_is)
    (case aLawHeard => k_is)
    (case lLawHeard => k_is)
    (case cLawHeard => k_is)
    (case kLawHeard => k_is)
    (case aLawBent => k_is)
    (case lLawBent => k_is)
    (case cLawBent => k_is)
    (case kLawBent => k_is)
    (case aLaw => k_is)
    (case lLaw => k_is)
    (case cLaw => k_is)
    (case kLaw => k_is)
    (case z_isinstance => k_is)
    (case z_int => k_is)
    (case z_tuple => k_is)
    (case z_len => k_is)
    (case z_abs => k_is)
    (case z_range => k_is)
    (case z_list => k_is)
    (case z_sorted => k_is)
    (case z_zip => k_is)
    (case z_all => k_is)
    (case z_dict => k_is)
    (case z_str => k_is)
    (case z_bool => k_is)
    (case z_max => k_is)
    (case z_min => k_is)
    (case z_repr => k_is)
    (case z_gcd => k_is)
    (case a8 => k_is)
    (case aU => k_is)
    (case aD => k_is)
    (case aSo => k_is)
    (case lSo => k_is)
    (case lS0 => k_is)
    (case lS1 => k_is)
    (case lS2 => k_is)
    (case lS3 => k_is)
    (case aP => k_is)
    (case iP => kernel_rfl)
    (case oP => kernel_rfl)
    (case sP => k_is)
    (case tP => k_is)
    (case xP => kernel_rfl)
    (case nP => k_is)
    (case jP => k_is)
    (case vP => k_is)
    (case qP => k_is)
    (case yP => k_is)
    (case lP => k_is)
    (case cP => k_is)
    (case kP => k_is)
    (case xPP => kernel_rfl)
