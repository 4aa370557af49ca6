import PyProof.Rows.All
import Wide.All
import OpenK.AllK
import Wide.FinOn
import HandS.ForMost
import HandS.Gcd
import HandS.Wide
import HandS.IsInst
import KE.KTypeName
import PyProof.IsiStr
import HandS.Flow
import HandS.Style
import HandS.Evl
import HandS.Conv
import HandS.Zip
import HandS.TupAny
import HandS.Star
import HandS.Walk
import HandS.More
import HandS.Lambda
import HandS.Nested
import HandS.CallSlots
import KE.KDflt
import HandS.ExcInit
import HandS.ExcField
import HandS.ExcOwn
import HandS.WordsExc
import KE.KExcInit
import HandS.TryMany
import HandS.Dict
import KE.KDictPairs
import HandS.Deep
import HandS.TryOnly
import HandS.SetBool
import HandS.SetKeys
import PyProof.Rows.SetObj
import HandS.Comp
import HandS.Iter
import PyProof.EnumMake
import PyProof.Draws
import KE.GoesMore
import HandS.DictComp
import HandS.SortRule
import KE.KSortTupAny
import HandS.DictTup
import HandS.Ends
import HandS.Words
import PyProof.ReprRoads
import PyProof.ReprLen
import HandS.TupMul
import PySem.Challenge.RW_curtainsteps_k09_whole_costs_and_kinds
set_option Elab.async false
set_option maxRecDepth 100000
set_option maxHeartbeats 4000000
/-! x.__class__.__name__ of whole numbers, truth values and tuples; // by any divisor that is not too great. -/
namespace CS
open PySem
section
variable {P : Program} {w : World} {A : Around} {E : Value → Shared → Prop} {hp : Heap} {gs : Array GenState} {dr : Drawn} {tk : Nat} {os : OsState}
theorem cls_of_int {i : Int} {u : Tok} {Q : Value → Shared → Prop} (q : Q (.type "int") ⟨hp, gs, dr, tk + 1, os⟩) : wpAny (model P w) A (getAttr (.int i u) "__class__" true) Q E ⟨hp, gs, dr, tk, os⟩ := by
  have ty : Shared.TypeIs ⟨hp, gs, dr, tk, os⟩ (.int i u) "int" := rfl
  have lo := F.slot_int_getattribute.lookup
  have bi := F.slot_int_getattribute.bind (.int i u)
  unfold getAttr
  all_goals (repeat' first | assumption | wp_step)
  refine class_call_int ?_
  all_goals (repeat' first | assumption | wp_step)
theorem cls_of_bool {b : Bool} {Q : Value → Shared → Prop} (q : Q (.type "bool") ⟨hp, gs, dr, tk + 1, os⟩) : wpAny (model P w) A (getAttr (.bool b) "__class__" true) Q E ⟨hp, gs, dr, tk, os⟩ := by
  have ty : Shared.TypeIs ⟨hp, gs, dr, tk, os⟩ (.bool b) "bool" := rfl
  have lo := F.slot_bool_getattribute.lookup
  have bi := F.slot_bool_getattribute.bind (.bool b)
  unfold getAttr
  all_goals (repeat' first | assumption | wp_step)
  refine class_call_bool ?_
  all_goals (repeat' first | assumption | wp_step)
theorem cls_of_tuple {a : Addr} {od : Option Addr} {dt : Data} {sl : Array (Option Value)} {Q : Value → Shared → Prop} (ha : hp.get? a = some ⟨.type "tuple", od, dt, sl⟩) (q : Q (.type "tuple") ⟨hp, gs, dr, tk + 1, os⟩) :
    wpAny (model P w) A (getAttr (.ref a) "__class__" true) Q E ⟨hp, gs, dr, tk, os⟩ := by
  have ty : Shared.TypeIs ⟨hp, gs, dr, tk, os⟩ (.ref a) "tuple" := ⟨_, ha, rfl⟩
  have lo := F.slot_tuple_getattribute.lookup
  have bi := F.slot_tuple_getattribute.bind (.ref a)
  unfold getAttr
  all_goals (repeat' first | assumption | wp_step)
  refine class_call_tuple ha rfl ?_
  all_goals (repeat' first | assumption | wp_step)
theorem cls_of_str {x : Str} {u : Tok} {Q : Value → Shared → Prop} (q : Q (.type "str") ⟨hp, gs, dr, tk + 1, os⟩) : wpAny (model P w) A (getAttr (.str x u) "__class__" true) Q E ⟨hp, gs, dr, tk, os⟩ := by
  have ty : Shared.TypeIs ⟨hp, gs, dr, tk, os⟩ (.str x u) "str" := rfl
  have lo := F.slot_str_getattribute.lookup
  have bi := F.slot_str_getattribute.bind (.str x u)
  unfold getAttr
  all_goals (repeat' first | assumption | wp_step)
  refine class_call_str ?_
  all_goals (repeat' first | assumption | wp_step)
end
end CS
set_option Elab.async false
set_option maxRecDepth 100000
set_option maxHeartbeats 4000000
namespace CS
open PySem L2
/-- the name of a plain value's class -/
inductive CN (K : PySem.W.Frag) (H : Hp) : V → Str → Prop where
  | int (i : Int) : CN K H (.int i) "int"
  | bl (b : Bool) : CN K H (.bl b) "bool"
  | str (x : Str) : CN K H (.str x) "str"
  | tup {a : Addr} {xs : List V} (h : SqT K H a xs) : CN K H (.ref a) "tuple"
def tCN (K : PySem.W.Frag) (te : TE) : TE := fun σ H Q => te σ H fun x H1 => ∃ nm, CN K H1 x nm ∧ Q (.str nm) H1
section
variable {X : Cx} {pins : List (Addr × Obj)} {σ : St} {H : Hp} {s : Shared}
/-- a built-in class's __name__ -/
theorem name_ok {T q : String} {Q : VK} (I : Inv X pins σ H s) (ht : PySem.W.kitMeta T = true) (hs : Manifest.isStub T = false)
    (e : PySem.W.findCls X.K (.type T) (.type "type") "__name__" = some (.get (.builtin "getset_descriptor.__get__") (.builtin "type.__name__") (.type T) (.type "type"))) (hq : PySem.W.ktynFast T = q) (hz : (Str.ofString q).length ≤ sizeLine)
    (h : Q (.str (Str.ofString q)) H) : wpAny (model X.prog X.w) X.A (getAttr (.type T) "__name__" true) (EP X pins σ Q) X.xe s := by
  obtain ⟨m, Fm⟩ := I.fr
  exact PySem.W.ktyn_attr Fm I.ok.mod.kin ht hs e hq hz fun tk u => ⟨.str _, H, I.tok u, ⟨tk, rfl⟩, h⟩
theorem cn_ok {x : V} {u : Value} {nm : Str} {Q : VK} (I : Inv X pins σ H s) (r : RelV x u) (c : CN X.K H x nm) (h : Q (.str nm) H) :
    wpAny (model X.prog X.w) X.A (getAttr u "__class__" true) (fun v s1 => wpAny (model X.prog X.w) X.A (getAttr v "__name__" true) (EP X pins σ Q) X.xe s1) X.xe s := by
  cases c with
  | int i =>
    obtain ⟨t, rfl⟩ := r
    obtain ⟨hh, g, d, tt, os⟩ := s
    exact cls_of_int (name_ok (I.tok (tt + 1)) (by decide +kernel) (by decide +kernel) (by first | kernel_rfl | rfl) (by decide +kernel) (by decide +kernel) h)
  | bl b =>
    cases (show u = Value.bool b from r)
    obtain ⟨hh, g, d, tt, os⟩ := s
    exact cls_of_bool (name_ok (I.tok (tt + 1)) (by decide +kernel) (by decide +kernel) (by first | kernel_rfl | rfl) (by decide +kernel) (by decide +kernel) h)
  | str x =>
    obtain ⟨t, rfl⟩ := r
    obtain ⟨hh, g, d, tt, os⟩ := s
    exact cls_of_str (name_ok (I.tok (tt + 1)) (by decide +kernel) (by decide +kernel) (by first | kernel_rfl | rfl) (by decide +kernel) (by decide +kernel) h)
  | @tup a xs hT =>
    cases (show u = Value.ref a from r)
    obtain ⟨its, _, ⟨o, h1, h2, _⟩, _⟩ := I.tuple hT
    obtain ⟨oc, od, dt, sl⟩ := o
    simp only at h2
    subst h2
    obtain ⟨hh, g, d, tt, os⟩ := s
    exact cls_of_tuple h1 (name_ok (I.tok (tt + 1)) (by decide +kernel) (by decide +kernel) (by first | kernel_rfl | rfl) (by decide +kernel) (by decide +kernel) h)
/-- e.__class__.__name__ -/
theorem pe_cn {e : Expr} {te : TE} {p1 p2 : Pos} (he : PE X e te) (hb1 : attributeBase e "__class__" X.env (eval e X.env) = eval e X.env := by rfl)
    (hb2 : attributeBase (.Attribute e "__class__" p1) "__name__" X.env (eval (.Attribute e "__class__" p1) X.env) = eval (.Attribute e "__class__" p1) X.env := by rfl) :
    PE X (.Attribute (.Attribute e "__class__" p1) "__name__" p2) (tCN X.K te) :=
  ⟨fun pins s σ H Q I h => attr_of hb2 (attr_of hb1 (thn (he.run pins s σ H _ I h) fun u s1 ⟨x, H1, I1, rx, nm, c, q⟩ => cn_ok I1 rx c q))⟩
/-- // by any divisor below 2 ^ 9000 in size -/
def CDivX (_ j : Int) : Prop := j ≠ 0 ∧ j.natAbs.log2 < 9000
theorem op_fdivX : OpR X (binaryOp .FloorDiv) (rI CDivX fun i j => .int (i.fdiv j)) := opI fun _ _ _ _ _ _ _ hc q =>
  PyProof.Rows.floordiv_int hc.1 q (.inl (PyProof.noPylong_of_log2 hc.2))
end
end CS
set_option maxHeartbeats 1000000
namespace CS
/-- in least terms, the lower one positive -/
def Fr (x : Int × Int) : Prop := 1 ≤ x.2 ∧ Int.gcd x.1 x.2 = 1
instance (x : Int × Int) : Decidable (Fr x) := by unfold Fr; infer_instance
def Sz (n : Nat) (x : Int × Int) : Prop := x.1.natAbs < 2 ^ n ∧ x.2.natAbs < 2 ^ n
def cm (t b : Int) : Int := if b < 0 then -(Int.gcd t b : Int) else (Int.gcd t b : Int)
def low (t b : Int) : Int × Int := (t.fdiv (cm t b), b.fdiv (cm t b))
theorem gcd_pos {t b : Int} (hb : b ≠ 0) : 0 < Int.gcd t b := Int.gcd_pos_of_ne_zero_right t hb
theorem cm_ne {t b : Int} (hb : b ≠ 0) : cm t b ≠ 0 := by
  have := gcd_pos (t := t) hb
  unfold cm
  split <;> omega
theorem cm_dvd (t b : Int) : cm t b ∣ t ∧ cm t b ∣ b := by
  unfold cm
  split
  · exact ⟨Int.neg_dvd.mpr (Int.gcd_dvd_left t b), Int.neg_dvd.mpr (Int.gcd_dvd_right t b)⟩
  · exact ⟨Int.gcd_dvd_left t b, Int.gcd_dvd_right t b⟩
theorem cm_abs (t b : Int) : (cm t b).natAbs = Int.gcd t b := by
  unfold cm
  split <;> omega
theorem low_parts {t b : Int} (hb : b ≠ 0) : t = cm t b * (low t b).1 ∧ b = cm t b * (low t b).2 := by
  obtain ⟨⟨t', ht⟩, ⟨b', hb'⟩⟩ := cm_dvd t b
  have hg := cm_ne (t := t) hb
  have e1 : t.fdiv (cm t b) = t' := by
    conv => lhs; lhs; rw [ht]
    exact Int.mul_fdiv_cancel_left t' hg
  have e2 : b.fdiv (cm t b) = b' := by
    conv => lhs; lhs; rw [hb']
    exact Int.mul_fdiv_cancel_left b' hg
  unfold low
  simp only [e1, e2]
  exact ⟨ht, hb'⟩
theorem low_fr {t b : Int} (hb : b ≠ 0) : Fr (low t b) := by
  obtain ⟨h1, h2⟩ := low_parts (t := t) hb
  have hp := gcd_pos (t := t) hb
  have hs : (b < 0 → cm t b < 0) ∧ (0 < b → 0 < cm t b) := by
    unfold cm
    split <;> constructor <;> intro h <;> omega
  have e : Int.gcd t b = (cm t b).natAbs * Int.gcd (low t b).1 (low t b).2 := by
    have z : ∀ g a c : Int, t = g * a → b = g * c → Int.gcd t b = g.natAbs * Int.gcd a c := by
      intro g a c e1 e2
      rw [e1, e2, Int.gcd_mul_left]
    exact z _ _ _ h1 h2
  rw [cm_abs] at e
  constructor
  · rcases Int.lt_or_gt_of_ne hb with h | h
    · have hc := hs.1 h
      rcases Int.lt_or_le 0 (low t b).2 with q | q
      · omega
      · have : 0 ≤ cm t b * (low t b).2 := Int.mul_nonneg_of_nonpos_of_nonpos (by omega) q
        omega
    · have hc := hs.2 h
      rcases Int.lt_or_le 0 (low t b).2 with q | q
      · omega
      · have : cm t b * (low t b).2 ≤ 0 := Int.mul_nonpos_of_nonneg_of_nonpos (by omega) q
        omega
  · have e' : Int.gcd t b * 1 = Int.gcd t b * Int.gcd (low t b).1 (low t b).2 := by omega
    exact (Nat.eq_of_mul_eq_mul_left hp e').symm
theorem low_cross {t b : Int} (hb : b ≠ 0) : (low t b).1 * b = t * (low t b).2 := by
  obtain ⟨h1, h2⟩ := low_parts (t := t) hb
  generalize low t b = y at *
  generalize cm t b = g at *
  subst h1
  subst h2
  grind
theorem low_le {t b : Int} (hb : b ≠ 0) : (low t b).1.natAbs ≤ t.natAbs ∧ (low t b).2.natAbs ≤ b.natAbs := by
  obtain ⟨h1, h2⟩ := low_parts (t := t) hb
  have hg : 0 < (cm t b).natAbs := by have := cm_ne (t := t) hb; omega
  constructor
  · conv => rhs; rw [h1, Int.natAbs_mul]
    exact Nat.le_mul_of_pos_left _ hg
  · conv => rhs; rw [h2, Int.natAbs_mul]
    exact Nat.le_mul_of_pos_left _ hg
theorem cop_dvd {k m n : Int} (h : k ∣ m * n) (c : Int.gcd k m = 1) : k ∣ n := by
  have h2 : k.natAbs ∣ m.natAbs * n.natAbs := by
    rw [← Int.natAbs_mul]
    exact Int.natAbs_dvd_natAbs.mpr h
  exact Int.natAbs_dvd_natAbs.mp (Nat.Coprime.dvd_of_dvd_mul_left (show Nat.Coprime k.natAbs m.natAbs from c) h2)
theorem Fr.uniq {x y : Int × Int} (hx : Fr x) (hy : Fr y) (h : x.1 * y.2 = y.1 * x.2) : x = y := by
  obtain ⟨a, b⟩ := x
  obtain ⟨c, d⟩ := y
  obtain ⟨hb, hab⟩ := hx
  obtain ⟨hd, hcd⟩ := hy
  simp only at *
  have d1 : b ∣ d := by
    have : b ∣ a * d := ⟨c, by grind⟩
    exact cop_dvd this (by rw [Int.gcd_comm]; exact hab)
  have d2 : d ∣ b := by
    have : d ∣ c * b := ⟨a, by grind⟩
    exact cop_dvd this (by rw [Int.gcd_comm]; exact hcd)
  have e : b = d := Int.dvd_antisymm (by omega) (by omega) d1 d2
  subst e
  have : a = c := Int.eq_of_mul_eq_mul_right (by omega) h
  rw [this]
theorem low_uniq {t b : Int} {x : Int × Int} (hb : b ≠ 0) (hx : Fr x) (h : x.1 * b = t * x.2) : low t b = x := by
  refine (low_fr hb).uniq hx ?_
  have c := low_cross (t := t) hb
  have : b * ((low t b).1 * x.2) = b * (x.1 * (low t b).2) := by
    generalize low t b = y at *
    grind
  exact Int.eq_of_mul_eq_mul_left hb this
def fadd (x y : Int × Int) : Int × Int := low (x.1 * y.2 + y.1 * x.2) (x.2 * y.2)
def fsub (x y : Int × Int) : Int × Int := low (x.1 * y.2 - y.1 * x.2) (x.2 * y.2)
def fmul (x y : Int × Int) : Int × Int := low (x.1 * y.1) (x.2 * y.2)
def fdiv (x y : Int × Int) : Int × Int := low (x.1 * y.2) (x.2 * y.1)
def flt (x y : Int × Int) : Bool := decide (x.1 * y.2 < y.1 * x.2)
theorem Fr.pos {x : Int × Int} (h : Fr x) : 0 < x.2 := by have := h.1; omega
theorem Fr.ne {x : Int × Int} (h : Fr x) : x.2 ≠ 0 := by have := h.1; omega
theorem dd {x y : Int × Int} (hx : Fr x) (hy : Fr y) : x.2 * y.2 ≠ 0 := Int.mul_ne_zero hx.ne hy.ne
theorem dd0 {x y : Int × Int} (hx : Fr x) (hy : Fr y) : 0 < x.2 * y.2 := Int.mul_pos hx.pos hy.pos
theorem fadd_fr {x y : Int × Int} (hx : Fr x) (hy : Fr y) : Fr (fadd x y) := low_fr (dd hx hy)
theorem fsub_fr {x y : Int × Int} (hx : Fr x) (hy : Fr y) : Fr (fsub x y) := low_fr (dd hx hy)
theorem fmul_fr {x y : Int × Int} (hx : Fr x) (hy : Fr y) : Fr (fmul x y) := low_fr (dd hx hy)
theorem fdiv_fr {x y : Int × Int} (hx : Fr x) (h : y.1 ≠ 0) : Fr (fdiv x y) := low_fr (Int.mul_ne_zero hx.ne h)
theorem fadd_comm (x y : Int × Int) : fadd x y = fadd y x := by
  unfold fadd
  rw [Int.add_comm, Int.mul_comm x.2 y.2]
theorem fsub_fadd {x y : Int × Int} (hx : Fr x) (hy : Fr y) : fsub (fadd x y) y = x := by
  have hp := fadd_fr hx hy
  have c : (fadd x y).1 * (x.2 * y.2) = (x.1 * y.2 + y.1 * x.2) * (fadd x y).2 := low_cross (dd hx hy)
  refine low_uniq (dd hp hy) hx ?_
  generalize fadd x y = p at *
  grind
theorem fmul_fdiv {x y : Int × Int} (hx : Fr x) (hy : Fr y) (h : y.1 ≠ 0) : fmul (fdiv x y) y = x := by
  have hp := fdiv_fr hx h
  have c : (fdiv x y).1 * (x.2 * y.1) = (x.1 * y.2) * (fdiv x y).2 := low_cross (Int.mul_ne_zero hx.ne h)
  refine low_uniq (dd hp hy) hx ?_
  generalize fdiv x y = p at *
  grind
theorem low_neg {t b : Int} (hb : b ≠ 0) : low (-t) (-b) = low t b := by
  refine low_uniq (by omega) (low_fr hb) ?_
  have c := low_cross (t := t) hb
  grind
theorem due_eq {x y : Int × Int} (h : y.1 ≠ 0) (hx : Fr x) : low (x.1 * y.2 * (if 0 < y.1 then 1 else -1)) (x.2 * (y.1.natAbs : Int)) = fdiv x y := by
  unfold fdiv
  split
  · next q =>
    rw [show ((y.1.natAbs : Nat) : Int) = y.1 by omega]
    congr 1
    omega
  · next q =>
    rw [show ((y.1.natAbs : Nat) : Int) = -y.1 by omega]
    have := low_neg (t := x.1 * y.2) (b := x.2 * y.1) (Int.mul_ne_zero hx.ne h)
    rw [← this]
    congr 1
    · omega
    · grind
theorem flt_sub {x y : Int × Int} (hx : Fr x) (hy : Fr y) : flt x y = flt (fsub x y) (0, 1) := by
  have hp := fsub_fr hx hy
  have c : (fsub x y).1 * (x.2 * y.2) = (x.1 * y.2 - y.1 * x.2) * (fsub x y).2 := low_cross (dd hx hy)
  have k := dd0 hx hy
  have m := hp.pos
  unfold flt
  simp only [Int.mul_one, Int.zero_mul]
  generalize fsub x y = p at *
  generalize hk : x.2 * y.2 = kk at *
  generalize hd : x.1 * y.2 - y.1 * x.2 = dl at *
  rw [decide_eq_decide]
  constructor
  · intro q
    have q2 : dl < 0 := by omega
    have : dl * p.2 < 0 := Int.mul_neg_of_neg_of_pos q2 m
    rcases Int.lt_or_le p.1 0 with z | z
    · exact z
    · have := Int.mul_nonneg z (Int.le_of_lt k)
      omega
  · intro q
    have : p.1 * kk < 0 := Int.mul_neg_of_neg_of_pos q k
    rcases Int.lt_or_le dl 0 with z | z
    · omega
    · have := Int.mul_nonneg z (Int.le_of_lt m)
      omega
theorem fadd_zero {x : Int × Int} (hx : Fr x) : fadd x (0, 1) = x := by
  unfold fadd
  refine low_uniq ?_ hx ?_
  · have := hx.ne
    simp only [Int.mul_one]
    exact this
  · grind
/-! sizes -/
theorem abs_mul_lt {a b : Int} {m n : Nat} (ha : a.natAbs < 2 ^ m) (hb : b.natAbs < 2 ^ n) : (a * b).natAbs < 2 ^ (m + n) := by
  rw [Int.natAbs_mul, Nat.pow_add]
  exact Nat.mul_lt_mul'' ha hb
theorem abs_add_lt {a b : Int} {m : Nat} (ha : a.natAbs < 2 ^ m) (hb : b.natAbs < 2 ^ m) : (a + b).natAbs < 2 ^ (m + 1) := by
  rw [Nat.pow_succ]
  omega
theorem abs_sub_lt {a b : Int} {m : Nat} (ha : a.natAbs < 2 ^ m) (hb : b.natAbs < 2 ^ m) : (a - b).natAbs < 2 ^ (m + 1) := by
  rw [Nat.pow_succ]
  omega
theorem lt_up {a : Nat} {m n : Nat} (ha : a < 2 ^ m) (h : m ≤ n) : a < 2 ^ n := Nat.lt_of_lt_of_le ha (Nat.pow_le_pow_right (by decide) h)
theorem Sz.up {x : Int × Int} {m n : Nat} (h : Sz m x) (q : m ≤ n) : Sz n x := ⟨lt_up h.1 q, lt_up h.2 q⟩
theorem low_sz {t b : Int} {n : Nat} (hb : b ≠ 0) (h1 : t.natAbs < 2 ^ n) (h2 : b.natAbs < 2 ^ n) : Sz n (low t b) :=
  ⟨Nat.lt_of_le_of_lt (low_le hb).1 h1, Nat.lt_of_le_of_lt (low_le hb).2 h2⟩
theorem fadd_sz {x y : Int × Int} {m n : Nat} (hx : Fr x) (hy : Fr y) (sx : Sz m x) (sy : Sz n y) : Sz (m + n + 1) (fadd x y) := by
  refine low_sz (dd hx hy) ?_ ?_
  · refine abs_add_lt (abs_mul_lt sx.1 sy.2) ?_
    rw [Int.mul_comm]
    exact abs_mul_lt sx.2 sy.1
  · exact lt_up (abs_mul_lt sx.2 sy.2) (by omega)
theorem fsub_sz {x y : Int × Int} {m n : Nat} (hx : Fr x) (hy : Fr y) (sx : Sz m x) (sy : Sz n y) : Sz (m + n + 1) (fsub x y) := by
  refine low_sz (dd hx hy) ?_ ?_
  · refine abs_sub_lt (abs_mul_lt sx.1 sy.2) ?_
    rw [Int.mul_comm]
    exact abs_mul_lt sx.2 sy.1
  · exact lt_up (abs_mul_lt sx.2 sy.2) (by omega)
theorem fmul_sz {x y : Int × Int} {m n : Nat} (hx : Fr x) (hy : Fr y) (sx : Sz m x) (sy : Sz n y) : Sz (m + n) (fmul x y) :=
  low_sz (dd hx hy) (abs_mul_lt sx.1 sy.1) (abs_mul_lt sx.2 sy.2)
theorem fdiv_sz {x y : Int × Int} {m n : Nat} (hx : Fr x) (h : y.1 ≠ 0) (sx : Sz m x) (sy : Sz n y) : Sz (m + n) (fdiv x y) :=
  low_sz (Int.mul_ne_zero hx.ne h) (abs_mul_lt sx.1 sy.2) (abs_mul_lt sx.2 sy.1)
/-! Euclid's loop -/
theorem euclid_step {a b : Int} (h : 0 ≤ a) (hb : 0 < b) : Int.gcd b (a % b) = Int.gcd a b := by
  obtain ⟨m, rfl⟩ := Int.eq_ofNat_of_zero_le h
  obtain ⟨n, rfl⟩ := Int.eq_ofNat_of_zero_le (Int.le_of_lt hb)
  show Nat.gcd n ((m : Int) % (n : Int)).natAbs = Nat.gcd m n
  rw [← Int.natCast_emod, Int.natAbs_natCast, Nat.gcd_comm m n, Nat.gcd_rec n m, Nat.gcd_comm]
end CS
set_option Elab.async false
set_option maxRecDepth 100000
set_option maxHeartbeats 4000000
set_option linter.unusedVariables false
namespace CS
open PySem L2
theorem PE.imp {X : Cx} {e : Expr} {t t1 : TE} (h : PE X e t) (k : ∀ σ H Q, t1 σ H Q → t σ H Q) : PE X e t1 := ⟨fun pins s σ H Q I q => h.run pins s σ H Q I (k σ H Q q)⟩
/-- a fraction's tuple stands at p -/
abbrev FT (K : PySem.W.Frag) (H : Hp) (p : Addr) (x : Int × Int) : Prop := SqT K H p [.int x.1, .int x.2]
/-- slot i holds a fraction's tuple: its item 0, its item 1 -/
def tFst (K : PySem.W.Frag) (i : Nat) : TE := fun σ H Q => ∃ p x, σ[i]? = some (some (.ref p)) ∧ FT K H p x ∧ Q (.int x.1) H
def tSnd (K : PySem.W.Frag) (i : Nat) : TE := fun σ H Q => ∃ p x, σ[i]? = some (some (.ref p)) ∧ FT K H p x ∧ Q (.int x.2) H
section
variable {X : Cx}
theorem pe_fst (i : Nat) {x : Str} {pos p2 pos' : Pos} {j : Nat} (hN : X.N[i]? = some x := by rfl) (hv : Vis X.env.scope x := by first | exact Or.inl rfl | exact Or.inr (Or.inl rfl) | exact Or.inr (Or.inr rfl)) (hd : (x == ("__debug__" : Str)) = false := by decide)
    (hcd : (x == ("__classdict__" : Str)) = false := by decide) : PE X (.Subscript (.Name x pos) (.Constant (.int 0) j p2) pos') (tFst X.K i) :=
  PE.imp (pe_ix ix_tup (pe_var hN hv hd hcd) pe_int (fun _ _ => rfl)) fun σ H Q ⟨p, x, e, h, q⟩ => ⟨_, e, p, _, 0, .int x.1, rfl, rfl, h, atI_nat (j := 0) rfl, q⟩
theorem pe_snd (i : Nat) {x : Str} {pos p2 pos' : Pos} {j : Nat} (hN : X.N[i]? = some x := by rfl) (hv : Vis X.env.scope x := by first | exact Or.inl rfl | exact Or.inr (Or.inl rfl) | exact Or.inr (Or.inr rfl)) (hd : (x == ("__debug__" : Str)) = false := by decide)
    (hcd : (x == ("__classdict__" : Str)) = false := by decide) : PE X (.Subscript (.Name x pos) (.Constant (.int 1) j p2) pos') (tSnd X.K i) :=
  PE.imp (pe_ix ix_tup (pe_var hN hv hd hcd) pe_int (fun _ _ => rfl)) fun σ H Q ⟨p, x, e, h, q⟩ => ⟨_, e, p, _, 1, .int x.2, rfl, rfl, h, atI_nat (j := 1) rfl, q⟩
end
theorem cmw {a b : Int} (ha : a.natAbs < 2 ^ 1900) (hb : b.natAbs < 2 ^ 1900) : CMulW a b := wide_mul ha hb (by decide) (by decide) (by decide)
end CS
set_option maxHeartbeats 1000000
set_option linter.unusedVariables false
namespace CS
abbrev Fx := Int × Int
def lk (f : List (Int × Fx)) (k : Int) : Fx := (f.lookup k).getD (0, 1)
def ups : List (Int × Fx) → Int → Fx → List (Int × Fx)
  | [], k, x => [(k, x)]
  | (j, y) :: f, k, x => if j = k then (j, x) :: f else (j, y) :: ups f k x
def gat (f : List (Int × Fx)) (xs : List (Int × Fx)) : List (Int × Fx) := xs.foldl (fun f kx => ups f kx.1 (fadd (lk f kx.1) kx.2)) f
theorem lk_cons (j : Int) (y : Fx) (f : List (Int × Fx)) (k : Int) : lk ((j, y) :: f) k = if k = j then y else lk f k := by
  unfold lk
  rw [List.lookup_cons]
  by_cases h : k = j
  · subst h
    simp
  · have : (k == j) = false := by simpa using h
    simp [this, h]
theorem lk_ups : ∀ (f : List (Int × Fx)) (k : Int) (x : Fx) (j : Int), lk (ups f k x) j = if j = k then x else lk f j
  | [], k, x, j => by
    show lk [(k, x)] j = _
    rw [lk_cons]
  | (i, y) :: f, k, x, j => by
    show lk (if i = k then (i, x) :: f else (i, y) :: ups f k x) j = _
    by_cases h : i = k
    · subst h
      rw [if_pos rfl, lk_cons, lk_cons]
      by_cases q : j = i <;> simp [q]
    · rw [if_neg h, lk_cons, lk_cons, lk_ups f k x j]
      by_cases q : j = i
      · subst q
        simp [h]
      · simp [q]
theorem ups_keys (f : List (Int × Fx)) (k : Int) (x : Fx) : ∀ j, j ∈ (ups f k x).map (·.1) ↔ j = k ∨ j ∈ f.map (·.1) := by
  induction f with
  | nil =>
    intro j
    simp [ups]
  | cons a f ih =>
    obtain ⟨i, y⟩ := a
    intro j
    by_cases h : i = k
    · subst h
      simp [ups]
    · have := ih j
      simp [ups, h] at *
      grind
theorem ups_nodup (f : List (Int × Fx)) (k : Int) (x : Fx) (h : (f.map (·.1)).Nodup) : ((ups f k x).map (·.1)).Nodup := by
  induction f with
  | nil => simp [ups]
  | cons a f ih =>
    obtain ⟨i, y⟩ := a
    by_cases q : i = k
    · subst q
      simpa [ups] using h
    · rw [List.map_cons, List.nodup_cons] at h
      have e : ups ((i, y) :: f) k x = (i, y) :: ups f k x := by simp [ups, q]
      rw [e, List.map_cons, List.nodup_cons]
      refine ⟨fun m => ?_, ih h.2⟩
      rcases (ups_keys f k x i).mp m with z | z
      · exact q z
      · exact h.1 z
theorem ups_len (f : List (Int × Fx)) (k : Int) (x : Fx) : (ups f k x).length ≤ f.length + 1 := by
  induction f with
  | nil => simp [ups]
  | cons a f ih =>
    obtain ⟨i, y⟩ := a
    by_cases q : i = k
    · simp [ups, q]
    · simp [ups, q]; omega
/-- the strictly ascending list of what is not nought in a table -/
def IsS (f r : List (Int × Fx)) : Prop := (r.map (·.1)).Pairwise (· < ·) ∧ ∀ k x, (k, x) ∈ r ↔ (lk f k = x ∧ x ≠ (0, 1))
theorem asc_same : ∀ {r q : List (Int × Fx)}, (r.map (·.1)).Pairwise (· < ·) → (q.map (·.1)).Pairwise (· < ·) → (∀ a, a ∈ r ↔ a ∈ q) → r = q
  | [], [], _, _, _ => rfl
  | [], b :: q, _, _, h => absurd ((h b).mpr List.mem_cons_self) (by simp)
  | a :: r, [], _, _, h => absurd ((h a).mp List.mem_cons_self) (by simp)
  | a :: r, b :: q, h1, h2, h => by
    rw [List.map_cons, List.pairwise_cons] at h1 h2
    have low1 : ∀ c ∈ r, a.1 < c.1 := fun c hc => h1.1 _ (List.mem_map.mpr ⟨c, hc, rfl⟩)
    have low2 : ∀ c ∈ q, b.1 < c.1 := fun c hc => h2.1 _ (List.mem_map.mpr ⟨c, hc, rfl⟩)
    have e : a = b := by
      rcases List.mem_cons.mp ((h a).mp List.mem_cons_self) with z | z
      · exact z
      · rcases List.mem_cons.mp ((h b).mpr List.mem_cons_self) with y | y
        · exact y.symm
        · have := low1 b y
          have := low2 a z
          omega
    subst e
    have : r = q := asc_same h1.2 h2.2 fun c => by
      constructor
      · intro hc
        rcases List.mem_cons.mp ((h c).mp (List.mem_cons_of_mem _ hc)) with z | z
        · subst z
          have := low1 c hc
          omega
        · exact z
      · intro hc
        rcases List.mem_cons.mp ((h c).mpr (List.mem_cons_of_mem _ hc)) with z | z
        · subst z
          have := low2 c hc
          omega
        · exact z
    rw [this]
theorem IsS.uniq {f g r q : List (Int × Fx)} (h1 : IsS f r) (h2 : IsS g q) (h : ∀ k, lk f k = lk g k) : r = q := by
  refine asc_same h1.1 h2.1 fun ⟨k, x⟩ => ?_
  rw [h1.2 k x, h2.2 k x, h k]
theorem lk_mem {f : List (Int × Fx)} {k : Int} (h : lk f k ≠ (0, 1)) : k ∈ f.map (·.1) := by
  induction f with
  | nil => exact absurd rfl h
  | cons a f ih =>
    obtain ⟨j, y⟩ := a
    rw [lk_cons] at h
    by_cases q : k = j
    · simp [q]
    · rw [if_neg q] at h
      have := ih h
      simp at *
      grind
theorem isS_of {f : List (Int × Fx)} {ys : List Int} (hp : ys.Perm (f.map (·.1))) (hn : (f.map (·.1)).Nodup) (hs : ys.Pairwise (· ≤ ·)) : IsS f ((ys.filter fun k => decide (lk f k ≠ (0, 1))).map fun k => (k, lk f k)) := by
  have hn2 : ys.Nodup := hp.nodup_iff.mpr hn
  have hlt : ys.Pairwise (· < ·) := by
    have := List.Pairwise.and hs hn2
    refine this.imp ?_
    rintro a b ⟨h1, h2⟩
    omega
  constructor
  · rw [List.map_map]
    have : ((fun x : Int × Fx => x.1) ∘ fun k => (k, lk f k)) = id := rfl
    rw [this, List.map_id]
    exact hlt.filter _
  · intro k x
    rw [List.mem_map]
    constructor
    · rintro ⟨j, hj, e⟩
      injection e with e1 e2
      subst e1
      rw [List.mem_filter] at hj
      exact ⟨e2, by rw [← e2]; exact of_decide_eq_true hj.2⟩
    · rintro ⟨e, hx⟩
      subst e
      exact ⟨k, List.mem_filter.mpr ⟨hp.mem_iff.mpr (lk_mem hx), decide_eq_true hx⟩, rfl⟩
/-- a share's parts -/
def AllF (n : Nat) (xs : List (Int × Fx)) : Prop := ∀ a ∈ xs, Fr a.2 ∧ Sz n a.2
theorem fr01 : Fr ((0, 1) : Fx) := by decide
theorem sz01 {n : Nat} (h : 0 < n) : Sz n ((0, 1) : Fx) := ⟨Nat.two_pow_pos _, Nat.one_lt_two_pow (by omega)⟩
theorem zero_fadd {x : Fx} (hx : Fr x) : fadd (0, 1) x = x := by rw [fadd_comm, fadd_zero hx]
theorem lk_fr {n : Nat} {f : List (Int × Fx)} (h : AllF n f) (h0 : 0 < n) (k : Int) : Fr (lk f k) ∧ Sz n (lk f k) := by
  induction f with
  | nil => exact ⟨fr01, sz01 h0⟩
  | cons a f ih =>
    obtain ⟨j, y⟩ := a
    rw [lk_cons]
    by_cases q : k = j
    · rw [if_pos q]
      exact h _ List.mem_cons_self
    · rw [if_neg q]
      exact ih fun b hb => h b (List.mem_cons_of_mem _ hb)
theorem lk_gat : ∀ (xs f : List (Int × Fx)) (j : Int), lk (gat f xs) j = xs.foldl (fun a kx => if j = kx.1 then fadd a kx.2 else a) (lk f j)
  | [], f, j => rfl
  | (k, x) :: xs, f, j => by
    show lk (gat (ups f k (fadd (lk f k) x)) xs) j = xs.foldl _ _
    rw [lk_gat xs, lk_ups]
    by_cases h : j = k
    · subst h
      simp
    · simp [h]
theorem gat_nodup : ∀ (xs f : List (Int × Fx)), (f.map (·.1)).Nodup → ((gat f xs).map (·.1)).Nodup
  | [], _, h => h
  | (k, x) :: xs, f, h => gat_nodup xs _ (ups_nodup f k _ h)
theorem gat_len : ∀ (xs f : List (Int × Fx)), (gat f xs).length ≤ f.length + xs.length
  | [], _ => Nat.le_refl _
  | (k, x) :: xs, f => by
    have h1 := gat_len xs (ups f k (fadd (lk f k) x))
    have h2 := ups_len f k (fadd (lk f k) x)
    show (gat (ups f k (fadd (lk f k) x)) xs).length ≤ _
    rw [List.length_cons]
    omega
theorem fold_none : ∀ (xs : List (Int × Fx)) (j : Int) (a : Fx), j ∉ xs.map (·.1) → xs.foldl (fun a kx => if j = kx.1 then fadd a kx.2 else a) a = a
  | [], _, _, _ => rfl
  | (k, x) :: xs, j, a, h => by
    simp only [List.map_cons, List.mem_cons, not_or] at h
    show xs.foldl _ (if j = k then fadd a x else a) = a
    rw [if_neg h.1]
    exact fold_none xs j a h.2
theorem lk_none {xs : List (Int × Fx)} {j : Int} (h : j ∉ xs.map (·.1)) : lk xs j = (0, 1) := by
  by_cases q : lk xs j = (0, 1)
  · exact q
  · exact absurd (lk_mem q) h
/-- one more share gathered: each key's sum -/
theorem fold_nodup : ∀ (xs : List (Int × Fx)) (j : Int) (a : Fx), Fr a → (xs.map (·.1)).Nodup → xs.foldl (fun a kx => if j = kx.1 then fadd a kx.2 else a) a = fadd a (lk xs j)
  | [], j, a, ha, _ => (fadd_zero ha).symm
  | (k, x) :: xs, j, a, ha, hn => by
    simp only [List.map_cons, List.nodup_cons] at hn
    show xs.foldl _ (if j = k then fadd a x else a) = _
    rw [lk_cons]
    by_cases h : j = k
    · subst h
      rw [if_pos rfl, if_pos rfl]
      exact fold_none xs j _ hn.1
    · rw [if_neg h, if_neg h]
      exact fold_nodup xs j a ha hn.2
theorem lk_gat_nodup {xs f : List (Int × Fx)} {n : Nat} (hf : AllF n f) (h0 : 0 < n) (hn : (xs.map (·.1)).Nodup) (j : Int) : lk (gat f xs) j = fadd (lk f j) (lk xs j) := by
  rw [lk_gat, fold_nodup xs j _ (lk_fr hf h0 j).1 hn]
/-! sums -/
def fsum (l : List Fx) : Fx := l.foldl fadd (0, 1)
def scl (x : Fx) (k : Int) : Fx := low (x.1 * k) x.2
theorem scl_fr {x : Fx} (h : Fr x) (k : Int) : Fr (scl x k) := low_fr h.ne
theorem scl_sz {x : Fx} {n m : Nat} {k : Int} (h : Fr x) (z : Sz n x) (hk : k.natAbs < 2 ^ m) : Sz (n + m) (scl x k) :=
  low_sz h.ne (abs_mul_lt z.1 hk) (lt_up z.2 (by omega))
theorem scl_mul (x : Fx) (k : Int) : fmul x (k, 1) = scl x k := by
  unfold fmul scl
  simp only [Int.mul_one]
theorem fold_fr : ∀ (l : List Fx) (a : Fx), Fr a → (∀ x ∈ l, Fr x) → Fr (l.foldl fadd a)
  | [], _, h, _ => h
  | x :: l, a, h, g => fold_fr l _ (fadd_fr h (g x List.mem_cons_self)) fun y hy => g y (List.mem_cons_of_mem _ hy)
theorem fold_sz (n : Nat) : ∀ (l : List Fx) (a : Fx) (m : Nat), Fr a → Sz m a → (∀ x ∈ l, Fr x ∧ Sz n x) → Sz (m + l.length * (n + 1)) (l.foldl fadd a)
  | [], a, m, _, z, _ => z.up (by simp)
  | x :: l, a, m, h, z, g => by
    have hx := g x List.mem_cons_self
    have := fold_sz n l (fadd a x) (m + n + 1) (fadd_fr h hx.1) (fadd_sz h hx.1 z hx.2) fun y hy => g y (List.mem_cons_of_mem _ hy)
    refine this.up ?_
    rw [List.length_cons, Nat.succ_mul]
    omega
end CS
namespace CS
def ftot (xs : List (Int × Fx)) : Fx := fsum (xs.map (·.2))
def fmom (xs : List (Int × Fx)) : Fx := fsum (xs.map fun a => scl a.2 a.1)
def frest (xs : List (Int × Fx)) (k : Int) : Fx := fsum ((xs.filter fun a => decide (k < a.1)).map fun a => scl a.2 (a.1 - k))
end CS
namespace CS
theorem cfold_fr (j : Int) : ∀ (xs : List (Int × Fx)) (a : Fx), Fr a → (∀ x ∈ xs, Fr x.2) → Fr (xs.foldl (fun a kx => if j = kx.1 then fadd a kx.2 else a) a)
  | [], a, h, _ => h
  | x :: l, a, h, g => by
    refine cfold_fr j l _ ?_ fun y hy => g y (List.mem_cons_of_mem _ hy)
    show Fr (if j = x.1 then fadd a x.2 else a)
    split
    · exact fadd_fr h (g x List.mem_cons_self)
    · exact h
theorem cfold_sz (n : Nat) (j : Int) : ∀ (xs : List (Int × Fx)) (a : Fx) (m : Nat), Fr a → Sz m a → (∀ x ∈ xs, Fr x.2 ∧ Sz n x.2) → Sz (m + xs.length * (n + 1)) (xs.foldl (fun a kx => if j = kx.1 then fadd a kx.2 else a) a)
  | [], a, m, _, z, _ => z.up (by simp)
  | x :: l, a, m, h, z, g => by
    have hx := g x List.mem_cons_self
    have h2 : Fr (if j = x.1 then fadd a x.2 else a) ∧ Sz (m + n + 1) (if j = x.1 then fadd a x.2 else a) := by
      split
      · exact ⟨fadd_fr h hx.1, fadd_sz h hx.1 z hx.2⟩
      · exact ⟨h, z.up (by omega)⟩
    have := cfold_sz n j l _ (m + n + 1) h2.1 h2.2 fun y hy => g y (List.mem_cons_of_mem _ hy)
    refine this.up ?_
    rw [List.length_cons, Nat.succ_mul]
    omega
theorem gat_fr {n : Nat} {xs : List (Int × Fx)} (h : AllF n xs) (j : Int) : Fr (lk (gat [] xs) j) := by
  rw [lk_gat]
  exact cfold_fr j xs _ fr01 fun x hx => (h x hx).1
theorem gat_sz {n : Nat} {xs : List (Int × Fx)} (h : AllF n xs) (j : Int) : Sz (1 + xs.length * (n + 1)) (lk (gat [] xs) j) := by
  rw [lk_gat]
  exact cfold_sz n j xs _ 1 fr01 (sz01 (by decide)) h
theorem gat_snoc (xs : List (Int × Fx)) (f : List (Int × Fx)) (a : Int × Fx) : gat f (xs ++ [a]) = ups (gat f xs) a.1 (fadd (lk (gat f xs) a.1) a.2) := by
  unfold gat
  rw [List.foldl_append]
  rfl
theorem AllF.take {n i : Nat} {xs : List (Int × Fx)} (h : AllF n xs) : AllF n (xs.take i) := fun a ha => h a (List.mem_of_mem_take ha)
/-- what a share is -/
def Shr (xs : List (Int × Fx)) : Prop := xs.length ≤ 8 ∧ (∀ a ∈ xs, -100 ≤ a.1 ∧ a.1 ≤ 100 ∧ Fr a.2 ∧ 0 < a.2.1) ∧ (xs.map (·.1)).Pairwise (· < ·)
instance (xs : List (Int × Fx)) : Decidable (Shr xs) := by unfold Shr; infer_instance
theorem asc_zip : ∀ (ns : List Int), (List.zipWith (fun a b => decide (a < b)) ns (ns.drop 1)).all id = decide (ns.Pairwise (· < ·))
  | [] => by simp
  | [a] => by simp
  | a :: b :: ns => by
    have ih := asc_zip (b :: ns)
    simp only [List.drop_succ_cons, List.drop_zero] at *
    rw [List.zipWith_cons_cons, List.all_cons, ih, Bool.eq_iff_iff]
    simp only [id, Bool.and_eq_true, decide_eq_true_eq, List.pairwise_cons]
    constructor
    · rintro ⟨h1, h2, h3⟩
      refine ⟨?_, h2, h3⟩
      intro c hc
      rcases List.mem_cons.mp hc with q | q
      · omega
      · have := h2 c q
        omega
    · rintro ⟨h1, h2⟩
      exact ⟨h1 b List.mem_cons_self, h2⟩
end CS
set_option Elab.async false
set_option maxRecDepth 100000
set_option maxHeartbeats 4000000
set_option linter.unusedVariables false
namespace CS
open PySem L2
/-- a def of the text, how its arguments bind, where its name leads -/
structure Df (K : PySem.W.Frag) (mg : Str → Option Value) (x : Str) (st : Stmt) (ps : List Str) (f : Addr) (fd : FuncData) : Prop where
  F : Fun K x x st f fd
  b : Binds K fd ps []
  g : mg x = some (.ref f)
/-- what the walk asks of the module's names -/
structure Bt (mg : Str → Option Value) : Prop where
  gcd : mg "gcd" = some (.builtin "math.gcd")
  isinstance : mg "isinstance" = none
  int : mg "int" = none
  tuple : mg "tuple" = none
  len : mg "len" = none
  abs : mg "abs" = none
  range : mg "range" = none
  list : mg "list" = none
  sorted : mg "sorted" = none
  zip : mg "zip" = none
  all : mg "all" = none
  dict : mg "dict" = none
end CS
namespace L2
open PySem
theorem Same.tup {K : PySem.W.Frag} {H H' : Hp} {a : Addr} {xs : List V} (e : Same H H') (h : SqT K H a xs) : SqT K H' a xs := by
  rcases h with (h | ⟨o, h⟩) | h
  · exact .inl (.inl (e _ _ h))
  · exact .inl (.inr ⟨o, e _ _ h⟩)
  · exact .inr h
theorem Same.new {H : Hp} {p : Addr} {o : HO} (h : H p = none) : Same H (upd H p o) := fun b u e => by
  rw [upd_ne (ne_of_none e h)]
  exact e
end L2
namespace CS
open PySem L2
/-! promises -/
def spLow : Sp := fun vs H Q _ => ∃ t b : Int, vs = [.int t, .int b] ∧ b ≠ 0 ∧ t.natAbs < 2 ^ 4000 ∧ b.natAbs < 2 ^ 4000 ∧
  ∀ p, H p = none → Q (.ref p) (upd H p (.tup [.int (low t b).1, .int (low t b).2]))
/-- two fractions in, a new one out -/
def spF2 (K : PySem.W.Frag) (ok : Int × Int → Int × Int → Prop) (f : Int × Int → Int × Int → Int × Int) : Sp := fun vs H Q _ => ∃ p q x y, vs = [.ref p, .ref q] ∧ FT K H p x ∧ FT K H q y ∧ Fr x ∧ Fr y ∧ Sz 1900 x ∧ Sz 1900 y ∧ ok x y ∧
  ∀ r, H r = none → Q (.ref r) (upd H r (.tup [.int (f x y).1, .int (f x y).2]))
def spB2 (K : PySem.W.Frag) (f : Int × Int → Int × Int → Bool) : Sp := fun vs H Q _ => ∃ p q x y, vs = [.ref p, .ref q] ∧ FT K H p x ∧ FT K H q y ∧ Fr x ∧ Fr y ∧ Sz 1900 x ∧ Sz 1900 y ∧ Q (.bl (f x y)) H
def spWhole (K : PySem.W.Frag) : Sp := fun vs H Q _ => ∃ i : Int, vs = [.int i] ∧ Q (.bl true) H
def spRow (K : PySem.W.Frag) : Sp := fun vs H Q _ => ∃ p xs, vs = [.ref p] ∧ SqT K H p xs ∧ Q (.bl true) H
def spRowOf (K : PySem.W.Frag) : Sp := fun vs H Q _ => ∃ p xs n, vs = [.ref p, .int n] ∧ SqT K H p xs ∧ Q (.bl (decide ((xs.length : Int) = n))) H
def spIsFr (K : PySem.W.Frag) : Sp := fun vs H Q _ => ∃ p x, vs = [.ref p] ∧ FT K H p x ∧ Q (.bl (decide (Fr x))) H
def spNeedFr (K : PySem.W.Frag) : Sp := fun vs H Q _ => ∃ p x, vs = [.ref p] ∧ FT K H p x ∧ Fr x ∧ Q (.ref p) H

end CS
namespace CS
open PySem L2
/-- the pairs of a state of draws -/
def stD (c l : Addr) (k : Int) : List (Key × V) := [(Sum.inr "cells", .ref c), (Sum.inr "lefts", .ref l), (Sum.inr "at", .int k), (Sum.inr "room", .int 0)]
theorem kn1 : ¬ (("cells" : Str) = "lefts") := by decide +kernel
theorem kn2 : ¬ (("cells" : Str) = "at") := by decide +kernel
theorem kn3 : ¬ (("cells" : Str) = "room") := by decide +kernel
theorem kn4 : ¬ (("lefts" : Str) = "at") := by decide +kernel
theorem kn5 : ¬ (("lefts" : Str) = "room") := by decide +kernel
theorem kn6 : ¬ (("at" : Str) = "room") := by decide +kernel
theorem kn7 : ¬ (("room" : Str) = "at") := by decide +kernel
theorem stD_cells (c l : Addr) (k : Int) : valV (stD c l k) (Sum.inr ("cells" : Str)) = some (.ref c) := valV_pos rfl
theorem stD_lefts (c l : Addr) (k : Int) : valV (stD c l k) (Sum.inr ("lefts" : Str)) = some (.ref l) := by
  simp [stD, valV, List.find?_cons, kn1]
theorem stD_at (c l : Addr) (k : Int) : valV (stD c l k) (Sum.inr ("at" : Str)) = some (.int k) := by
  simp [stD, valV, List.find?_cons, kn2, kn4]
theorem stD_put (c l : Addr) (k k' : Int) : putK (stD c l k) (Sum.inr ("at" : Str)) (.int k') = stD c l k' := by
  simp [stD, putK, kn2, kn4, kn7]
theorem stD_make (c l : Addr) : mergeK [] [((Sum.inr ("cells" : Str) : Key), V.ref c), (Sum.inr ("lefts" : Str), .ref l), (Sum.inr ("at" : Str), .int 0), (Sum.inr ("room" : Str), .int 0)] = stD c l 0 := by
  simp [mergeK, putK, stD, kn1, kn2, kn3, kn4, kn5, kn6]
/-- a state of draws, k of them done -/
structure StAt (H : Hp) (d c l : Addr) (k : Nat) : Prop where
  hd : H d = some (.dK (stD c l k))
  ne : c ≠ l
  ex : ∃ cs ls : List Int, H c = some (.lst (cs.map V.int)) ∧ H l = some (.lst (ls.map V.int)) ∧ cs.length = ls.length ∧ 0 < cs.length ∧ cs.length ≤ 64 ∧ ∀ v ∈ ls, 0 ≤ v
/-- what does not belong to the state is as it was -/
def Fm (d l : Addr) (H H' : Hp) : Prop := ∀ b o, H b = some o → b ≠ d → b ≠ l → H' b = some o
theorem Fm.refl (d l : Addr) (H : Hp) : Fm d l H H := fun _ _ e _ _ => e
theorem Fm.trans {d l : Addr} {H H1 H2 : Hp} (a : Fm d l H H1) (b : Fm d l H1 H2) : Fm d l H H2 := fun c o h n m => b c o (a c o h n m) n m
theorem Fm.same {d l : Addr} {H H1 H2 : Hp} (a : Fm d l H H1) (b : Same H1 H2) : Fm d l H H2 := fun c o h n m => b c o (a c o h n m)
theorem same_fm {d l : Addr} {H H1 : Hp} (a : Same H H1) : Fm d l H H1 := fun c o h _ _ => a c o h
theorem StAt.same {H H' : Hp} {d c l : Addr} {k : Nat} (S : StAt H d c l k) (e : Same H H') : StAt H' d c l k := by
  obtain ⟨hd, ne, cs, ls, h1, h2, r⟩ := S
  exact ⟨e _ _ hd, ne, cs, ls, e _ _ h1, e _ _ h2, r⟩
/-- a tuple that stood stands -/
theorem Fm.tup {K : PySem.W.Frag} {H H' : Hp} {d c l p : Addr} {k : Nat} {xs : List V} (e : Fm d l H H') (S : StAt H d c l k) (h : SqT K H p xs) : SqT K H' p xs := by
  obtain ⟨hd, ne, cs, ls, h1, h2, r⟩ := S
  rcases h with (h | ⟨o, h⟩) | h
  · exact .inl (.inl (e _ _ h (fun q => by subst q; rw [hd] at h; cases h) (fun q => by subst q; rw [h2] at h; cases h)))
  · exact .inl (.inr ⟨o, e _ _ h (fun q => by subst q; rw [hd] at h; cases h) (fun q => by subst q; rw [h2] at h; cases h)⟩)
  · exact .inr h
def spMixed : Sp := fun vs H Q _ => ∃ c k : Int, vs = [.int c, .int k] ∧ 0 ≤ k ∧ k ≤ 1000000 ∧ ∀ r : Int, 0 ≤ r → r < 2147483629 → Q (.int r) H
def spBegin (K : PySem.W.Frag) : Sp := fun vs H Q _ => ∃ (a : Addr) (ns : List Int), vs = [.ref a] ∧ SqL K H a (ns.map V.int) ∧ ns.length ≤ 63 ∧ ∀ d c l H', H d = none → Same H H' → StAt H' d c l 0 → Q (.ref d) H'
def spDraw : Sp := fun vs H Q _ => ∃ (d c l : Addr) (k : Nat) (m : Int), vs = [.ref d, .int m] ∧ StAt H d c l k ∧ 0 < m ∧ m.natAbs < 2 ^ 200 ∧ k ≤ 100000 ∧ ∀ r H', 0 ≤ r → r < m → StAt H' d c l (k + 1) → Fm d l H H' → Q (.int r) H'

end CS
namespace CS
open PySem L2
def spLowP : Sp := fun vs H Q _ => ∃ t b : Int, vs = [.int t, .int b] ∧ 0 < b ∧ t.natAbs < 2 ^ 4000 ∧ b.natAbs < 2 ^ 4000 ∧
  ∀ p, H p = none → Q (.ref p) (upd H p (.tup [.int (low t b).1, .int (low t b).2]))
def spDrawn (K : PySem.W.Frag) : Sp := fun vs H Q _ => ∃ (d c l : Addr) (k : Nat), vs = [.ref d] ∧ StAt H d c l k ∧ k ≤ 90000 ∧
  ∀ p H' x, Fr x → Sz 70 x → StAt H' d c l (k + 3) → Fm d l H H' → FT K H' p x → Q (.ref p) H'

end CS
namespace CS
open PySem L2
section
variable {K : PySem.W.Frag}
theorem eqv2 (x : Int × Int) : PyData.eqv (.tuple [.int x.1, .int x.2]) (.tuple [.int x.1, .int x.2]) = true := by
  simp [PyData.eqv, PyData.eqvAll]
theorem ne_same {H : Hp} {p q : Addr} {x y : Int × Int} {Q : VK} (hp : FT K H p x) (hq : FT K H q y) (e : x = y) (h : Q (.bl false) H) : rNeD K (.ref p) (.ref q) H Q := by
  subst e
  refine ⟨.tuple [.int x.1, .int x.2], .tuple [.int x.1, .int x.2], .tup hp (.cons (.int _) (.cons (.int _) .nil)), .tup hq (.cons (.int _) (.cons (.int _) .nil)), rfl, rfl, ?_⟩
  rw [eqv2]
  exact h
theorem eq_same {H : Hp} {p q : Addr} {x y : Int × Int} {Q : VK} (hp : FT K H p x) (hq : FT K H q y) (e : x = y) (h : Q (.bl true) H) : rEqD K (.ref p) (.ref q) H Q := by
  subst e
  refine ⟨.tuple [.int x.1, .int x.2], .tuple [.int x.1, .int x.2], .tup hp (.cons (.int _) (.cons (.int _) .nil)), .tup hq (.cons (.int _) (.cons (.int _) .nil)), rfl, rfl, ?_⟩
  rw [eqv2]
  exact h
theorem FT.new {H : Hp} {r : Addr} {x : Int × Int} : FT K (upd H r (.tup [.int x.1, .int x.2])) r x := SqT.of upd_same
theorem abs_if (z : Int) : (if z < 0 then -z else z) = ((z.natAbs : Nat) : Int) := by split <;> omega
end
/-! shares in the heap -/
/-- refs to pairs of a number and a fraction -/
inductive PrsAt (K : PySem.W.Frag) (H : Hp) : List V → List (Int × Fx) → Prop where
  | nil : PrsAt K H [] []
  | cons {q r : Addr} {m : Int} {x : Fx} {vs : List V} {xs : List (Int × Fx)} (h1 : SqT K H q [.int m, .ref r]) (h2 : FT K H r x) (h3 : PrsAt K H vs xs) : PrsAt K H (.ref q :: vs) ((m, x) :: xs)
def ShAt (K : PySem.W.Frag) (H : Hp) (p : Addr) (xs : List (Int × Fx)) : Prop := ∃ vs, SqT K H p vs ∧ PrsAt K H vs xs
/-- refs to fractions -/
inductive FsAt (K : PySem.W.Frag) (H : Hp) : List V → List Fx → Prop where
  | nil : FsAt K H [] []
  | cons {r : Addr} {x : Fx} {vs : List V} {xs : List Fx} (h2 : FT K H r x) (h3 : FsAt K H vs xs) : FsAt K H (.ref r :: vs) (x :: xs)
section
variable {K : PySem.W.Frag} {H H' : Hp}
/-- what keeps tuples -/
def TK (K : PySem.W.Frag) (H H' : Hp) : Prop := ∀ (p : Addr) (xs : List V), SqT K H p xs → SqT K H' p xs
theorem tk_same (e : Same H H') : TK K H H' := fun _ _ h => e.tup h
theorem tk_fm {d c l : Addr} {k : Nat} (e : Fm d l H H') (S : StAt H d c l k) : TK K H H' := fun _ _ h => e.tup S h
theorem TK.trans {H1 : Hp} (a : TK K H H1) (b : TK K H1 H') : TK K H H' := fun p xs h => b p xs (a p xs h)
theorem PrsAt.tk (e : TK K H H') : ∀ {vs : List V} {xs : List (Int × Fx)}, PrsAt K H vs xs → PrsAt K H' vs xs
  | _, _, .nil => .nil
  | _, _, .cons a b c => .cons (e _ _ a) (e _ _ b) (PrsAt.tk e c)
theorem ShAt.tk {p : Addr} {xs : List (Int × Fx)} (e : TK K H H') (h : ShAt K H p xs) : ShAt K H' p xs := by
  obtain ⟨vs, a, b⟩ := h
  exact ⟨vs, e _ _ a, b.tk e⟩
theorem FsAt.tk (e : TK K H H') : ∀ {vs : List V} {xs : List Fx}, FsAt K H vs xs → FsAt K H' vs xs
  | _, _, .nil => .nil
  | _, _, .cons a b => .cons (e _ _ a) (FsAt.tk e b)
theorem PrsAt.len : ∀ {vs : List V} {xs : List (Int × Fx)}, PrsAt K H vs xs → vs.length = xs.length
  | _, _, .nil => rfl
  | _, _, .cons _ _ c => by simp [c.len]
theorem FsAt.len : ∀ {vs : List V} {xs : List Fx}, FsAt K H vs xs → vs.length = xs.length
  | _, _, .nil => rfl
  | _, _, .cons _ c => by simp [c.len]
theorem PrsAt.get : ∀ {vs : List V} {xs : List (Int × Fx)} {i : Nat} {v : V}, PrsAt K H vs xs → vs[i]? = some v → ∃ q r m x, v = .ref q ∧ xs[i]? = some (m, x) ∧ SqT K H q [.int m, .ref r] ∧ FT K H r x
  | _, _, 0, _, .cons a b c, e => by
    cases e
    exact ⟨_, _, _, _, rfl, rfl, a, b⟩
  | _, _, i + 1, _, .cons a b c, e => by
    obtain ⟨q, r, m, x, h1, h2, h3, h4⟩ := PrsAt.get c (by simpa using e)
    exact ⟨q, r, m, x, h1, by simpa using h2, h3, h4⟩
theorem FsAt.get : ∀ {vs : List V} {xs : List Fx} {i : Nat} {v : V}, FsAt K H vs xs → vs[i]? = some v → ∃ r x, v = .ref r ∧ xs[i]? = some x ∧ FT K H r x
  | _, _, 0, _, .cons a b, e => by
    cases e
    exact ⟨_, _, rfl, rfl, a⟩
  | _, _, i + 1, _, .cons a c, e => by
    obtain ⟨r, x, h1, h2, h4⟩ := FsAt.get c (by simpa using e)
    exact ⟨r, x, h1, by simpa using h2, h4⟩
theorem PrsAt.app {vs ws : List V} {xs ys : List (Int × Fx)} (a : PrsAt K H vs xs) (b : PrsAt K H ws ys) : PrsAt K H (vs ++ ws) (xs ++ ys) := by
  induction a with
  | nil => exact b
  | cons h1 h2 h3 ih => exact .cons h1 h2 ih
theorem FsAt.app {vs ws : List V} {xs ys : List Fx} (a : FsAt K H vs xs) (b : FsAt K H ws ys) : FsAt K H (vs ++ ws) (xs ++ ys) := by
  induction a with
  | nil => exact b
  | cons h1 h3 ih => exact .cons h1 ih
/-! shares as data -/
def prD (a : Int × Fx) : PyData := .tuple [.int a.1, .tuple [.int a.2.1, .int a.2.2]]
def shD (xs : List (Int × Fx)) : PyData := .tuple (xs.map prD)
theorem PrsAt.dp : ∀ {vs : List V} {xs : List (Int × Fx)}, PrsAt K H vs xs → DpAll K H vs (xs.map prD)
  | _, _, .nil => .nil
  | _, _, .cons a b c => .cons (.tup a (.cons (.int _) (.cons (.tup b (.cons (.int _) (.cons (.int _) .nil))) .nil))) c.dp
theorem ShAt.dp {p : Addr} {xs : List (Int × Fx)} (h : ShAt K H p xs) : Dp K H (.ref p) (shD xs) := by
  obtain ⟨vs, a, b⟩ := h
  exact .tup a b.dp
theorem cl1 : ∀ xs : List (Int × Fx), PyData.canLayAll0 (xs.map prD) = true
  | [] => rfl
  | n :: ns => by
    show (PyData.canLay0 (prD n) && PyData.canLayAll0 (ns.map prD)) = true
    rw [cl1 ns]
    rfl
theorem dp1 : ∀ xs : List (Int × Fx), PyData.depthAll (xs.map prD) ≤ 2
  | [] => by decide
  | n :: ns => by
    have := dp1 ns
    simp [PyData.depthAll, PyData.depth, prD] at *
    omega
theorem shShaped (xs : List (Int × Fx)) : SeqAt.shaped (shD xs) = true := by
  have h1 := cl1 xs
  have h2 := dp1 xs
  simp [SeqAt.shaped, PyData.canLay0, PyData.depth, h1, shD]
  omega
theorem eqvPr (a b : Int × Fx) : PyData.eqv (prD a) (prD b) = decide (a = b) := by
  obtain ⟨m, x, y⟩ := a
  obtain ⟨n, z, w⟩ := b
  simp only [prD, PyData.eqv, PyData.eqvAll, Bool.and_true]
  by_cases h1 : m = n <;> by_cases h2 : x = z <;> by_cases h3 : y = w <;> simp [h1, h2, h3]
theorem eqvPrs : ∀ xs ys : List (Int × Fx), PyData.eqvAll (xs.map prD) (ys.map prD) = decide (xs = ys)
  | [], [] => by simp [PyData.eqvAll]
  | [], _ :: _ => by simp [PyData.eqvAll]
  | _ :: _, [] => by simp [PyData.eqvAll]
  | a :: xs, b :: ys => by
    simp only [List.map_cons, PyData.eqvAll, eqvPr, eqvPrs xs ys]
    by_cases h1 : a = b <;> by_cases h2 : xs = ys <;> simp [h1, h2]
theorem eqvSh (xs ys : List (Int × Fx)) : PyData.eqv (shD xs) (shD ys) = decide (xs = ys) := eqvPrs xs ys
theorem shNe {p q : Addr} {xs ys : List (Int × Fx)} {Q : VK} (hp : ShAt K H p xs) (hq : ShAt K H q ys) (h : Q (.bl (!decide (xs = ys))) H) : rNeD K (.ref p) (.ref q) H Q :=
  ⟨shD xs, shD ys, hp.dp, hq.dp, shShaped _, shShaped _, by rw [eqvSh]; exact h⟩
theorem shEq {p q : Addr} {xs ys : List (Int × Fx)} {Q : VK} (hp : ShAt K H p xs) (hq : ShAt K H q ys) (h : Q (.bl (decide (xs = ys))) H) : rEqD K (.ref p) (.ref q) H Q :=
  ⟨shD xs, shD ys, hp.dp, hq.dp, shShaped _, shShaped _, by rw [eqvSh]; exact h⟩
theorem eqvF (x y : Fx) : PyData.eqv (.tuple [.int x.1, .int x.2]) (.tuple [.int y.1, .int y.2]) = decide (x = y) := by
  obtain ⟨a, b⟩ := x
  obtain ⟨c, d⟩ := y
  simp only [PyData.eqv, PyData.eqvAll, Bool.and_true]
  by_cases h1 : a = c <;> by_cases h2 : b = d <;> simp [h1, h2]
def frD (x : Fx) : PyData := .tuple [.int x.1, .int x.2]
theorem ftDp {p : Addr} {x : Fx} (h : FT K H p x) : Dp K H (.ref p) (frD x) := .tup h (.cons (.int _) (.cons (.int _) .nil))
theorem eqvFr (x y : Fx) : PyData.eqv (frD x) (frD y) = decide (x = y) := eqvF x y
theorem ftNe {p q : Addr} {x y : Fx} {Q : VK} (hp : FT K H p x) (hq : FT K H q y) (h : Q (.bl (!decide (x = y))) H) : rNeD K (.ref p) (.ref q) H Q :=
  ⟨.tuple [.int x.1, .int x.2], .tuple [.int y.1, .int y.2], .tup hp (.cons (.int _) (.cons (.int _) .nil)), .tup hq (.cons (.int _) (.cons (.int _) .nil)), rfl, rfl, by rw [eqvF]; exact h⟩
/-! tables from numbers to fractions -/
inductive DPr (K : PySem.W.Frag) (H : Hp) : List (Key × V) → List (Int × Fx) → Prop where
  | nil : DPr K H [] []
  | cons {k : Int} {r : Addr} {x : Fx} {kvs : List (Key × V)} {f : List (Int × Fx)} (h : FT K H r x) (t : DPr K H kvs f) : DPr K H ((Sum.inl k, .ref r) :: kvs) ((k, x) :: f)
theorem DPr.tk (e : TK K H H') : ∀ {kvs : List (Key × V)} {f : List (Int × Fx)}, DPr K H kvs f → DPr K H' kvs f
  | _, _, .nil => .nil
  | _, _, .cons a b => .cons (e _ _ a) (DPr.tk e b)
theorem DPr.keys : ∀ {kvs : List (Key × V)} {f : List (Int × Fx)}, DPr K H kvs f → kvs.map (·.1) = (f.map (·.1)).map Sum.inl
  | _, _, .nil => rfl
  | _, _, .cons _ b => by simp [b.keys]
theorem DPr.len {kvs : List (Key × V)} {f : List (Int × Fx)} (h : DPr K H kvs f) : kvs.length = f.length := by
  have := congrArg List.length h.keys
  simpa using this
theorem DPr.val : ∀ {kvs : List (Key × V)} {f : List (Int × Fx)}, DPr K H kvs f → ∀ k : Int, k ∈ f.map (·.1) → ∃ r, valV kvs (Sum.inl k : Key) = some (.ref r) ∧ FT K H r (lk f k)
  | _, _, .nil, k, hm => by cases hm
  | _, _, @DPr.cons _ _ j r x kvs f a b, k, hm => by
    by_cases h : k = j
    · subst h
      refine ⟨r, valV_pos rfl, ?_⟩
      rw [lk_cons, if_pos rfl]
      exact a
    · have hm2 : k ∈ f.map (·.1) := by
        simp only [List.map_cons, List.mem_cons] at hm
        rcases hm with q | q
        · exact absurd q h
        · exact q
      obtain ⟨r', h1, h2⟩ := b.val k hm2
      refine ⟨r', ?_, ?_⟩
      · rw [valV_neg (by intro z; exact h (Sum.inl.inj z).symm)]
        exact h1
      · rw [lk_cons, if_neg h]
        exact h2
theorem DPr.non : ∀ {kvs : List (Key × V)} {f : List (Int × Fx)}, DPr K H kvs f → ∀ k : Int, k ∉ f.map (·.1) → valV kvs (Sum.inl k : Key) = none
  | _, _, .nil, k, hm => rfl
  | _, _, @DPr.cons _ _ j r x kvs f a b, k, hm => by
    simp only [List.map_cons, List.mem_cons, not_or] at hm
    rw [valV_neg (by intro z; exact hm.1 (Sum.inl.inj z).symm)]
    exact b.non k hm.2
theorem putK_c1 {k : Key} {u v : V} {kvs : List (Key × V)} (hn : ∀ p ∈ kvs, p.1 ≠ k) : putK ((k, u) :: kvs) k v = (k, v) :: kvs := by
  unfold putK
  have : (((k, u) :: kvs).any fun kv => decide (kv.1 = k)) = true := by simp
  rw [if_pos this]
  simp only [List.map_cons, if_pos]
  congr 1
  conv => rhs; rw [← List.map_id kvs]
  apply List.map_congr_left
  intro p hp
  simp [hn p hp]
theorem putK_c2 {j k : Key} {u v : V} {kvs : List (Key × V)} (h : j ≠ k) : putK ((j, u) :: kvs) k v = (j, u) :: putK kvs k v := by
  unfold putK
  by_cases q : (kvs.any fun kv => decide (kv.1 = k)) = true
  · have : (((j, u) :: kvs).any fun kv => decide (kv.1 = k)) = true := by simp only [List.any_cons, q, Bool.or_true]
    rw [if_pos this, if_pos q]
    simp [h]
  · have : ¬ (((j, u) :: kvs).any fun kv => decide (kv.1 = k)) = true := by
      simp only [List.any_cons, Bool.or_eq_true, not_or]
      exact ⟨by simp [h], q⟩
    rw [if_neg this, if_neg q]
    rfl
theorem DPr.put {kvs : List (Key × V)} {f : List (Int × Fx)} (h : DPr K H kvs f) (hn : (f.map (·.1)).Nodup) {k : Int} {r : Addr} {x : Fx} (hr : FT K H r x) : DPr K H (putK kvs (Sum.inl k : Key) (.ref r)) (ups f k x) := by
  induction h with
  | nil =>
    show DPr K H [(Sum.inl k, .ref r)] [(k, x)]
    exact .cons hr .nil
  | @cons j r' y kvs f a b ih =>
    rw [List.map_cons, List.nodup_cons] at hn
    by_cases q : j = k
    · subst q
      rw [putK_c1 (by
        intro p hp e
        have : p.1 ∈ kvs.map (·.1) := List.mem_map.mpr ⟨p, hp, rfl⟩
        rw [b.keys, e] at this
        obtain ⟨z, hz, ez⟩ := List.mem_map.mp this
        exact hn.1 ((Sum.inl.inj ez) ▸ hz))]
      have : ups ((j, y) :: f) j x = (j, x) :: f := by simp [ups]
      rw [this]
      exact .cons hr b
    · rw [putK_c2 (by intro z; exact q (Sum.inl.inj z))]
      have : ups ((j, y) :: f) k x = (j, y) :: ups f k x := by simp [ups, q]
      rw [this]
      exact .cons a (ih hn.2)
end
section
variable {K : PySem.W.Frag} {H H4 : Hp} {D : Addr}
theorem tk_lst {xs ys : List V} (h : H D = some (.lst xs)) : TK K H (upd H D (.lst ys)) := fun p zs hp => by
  rcases hp with (hp | ⟨o, hp⟩) | hp
  · exact .inl (.inl (by rw [upd_ne (fun z => by rw [z, h] at hp; cases hp)]; exact hp))
  · exact .inl (.inr ⟨o, by rw [upd_ne (fun z => by rw [z, h] at hp; cases hp)]; exact hp⟩)
  · exact .inr hp
theorem tk_dk {xs ys : List (Key × V)} (h : H D = some (.dK xs)) : TK K H (upd H D (.dK ys)) := fun p zs hp => by
  rcases hp with (hp | ⟨o, hp⟩) | hp
  · exact .inl (.inl (by rw [upd_ne (fun z => by rw [z, h] at hp; cases hp)]; exact hp))
  · exact .inl (.inr ⟨o, by rw [upd_ne (fun z => by rw [z, h] at hp; cases hp)]; exact hp⟩)
  · exact .inr hp
theorem same_upd {H0 : Hp} {o : HO} (h0 : H0 D = none) (s : Same H0 H4) : Same H0 (upd H4 D o) := fun b u e => by
  rw [upd_ne (ne_of_none e h0)]
  exact s b u e
/-- a list of fractions that is being made at D -/
def LcF (K : PySem.W.Frag) (H : Hp) (D : Addr) (zs : List Fx) (H' : Hp) : Prop := ∃ ws, H' D = some (.lst ws) ∧ Same H H' ∧ FsAt K H' ws zs
theorem LcF.start (h : H D = none) : LcF K H D [] (upd H D (.lst [])) := ⟨[], upd_same, Same.new h, .nil⟩
theorem LcF.step {zs : List Fx} {ws : List V} {y : Addr} {x : Fx} (h0 : H D = none) (h1 : H4 D = some (.lst ws)) (s : Same H H4) (f : FsAt K H4 ws zs) (hx : FT K H4 y x) : LcF K H D (zs ++ [x]) (upd H4 D (.lst (ws ++ [.ref y]))) :=
  ⟨_, upd_same, same_upd h0 s, (f.app (.cons hx .nil)).tk (tk_lst h1)⟩
/-- a list of pairs that is being made at D -/
def LcP (K : PySem.W.Frag) (H : Hp) (D : Addr) (zs : List (Int × Fx)) (H' : Hp) : Prop := ∃ ws, H' D = some (.lst ws) ∧ Same H H' ∧ PrsAt K H' ws zs
theorem LcP.start (h : H D = none) : LcP K H D [] (upd H D (.lst [])) := ⟨[], upd_same, Same.new h, .nil⟩
theorem LcP.step {zs : List (Int × Fx)} {ws : List V} {q r : Addr} {m : Int} {x : Fx} (h0 : H D = none) (h1 : H4 D = some (.lst ws)) (s : Same H H4) (f : PrsAt K H4 ws zs) (hq : SqT K H4 q [.int m, .ref r]) (hx : FT K H4 r x) :
    LcP K H D (zs ++ [(m, x)]) (upd H4 D (.lst (ws ++ [.ref q]))) :=
  ⟨_, upd_same, same_upd h0 s, (f.app (.cons hq hx .nil)).tk (tk_lst h1)⟩
theorem take_snoc {α : Type} {l : List α} {i : Nat} {a : α} (h : l[i]? = some a) : l.take (i + 1) = l.take i ++ [a] := by
  rw [List.take_add_one, h]
  rfl
theorem small {n : Nat} (h : n ≤ 1000) : n ≤ sizeLine := Nat.le_of_lt (small1000 h)
end
/-! promises -/
def spScaled (K : PySem.W.Frag) : Sp := fun vs H Q _ => ∃ p x k, vs = [.ref p, .int k] ∧ FT K H p x ∧ Fr x ∧ Sz 1900 x ∧ k.natAbs < 2 ^ 20 ∧ ∀ r, H r = none → Q (.ref r) (upd H r (.tup [.int (scl x k).1, .int (scl x k).2]))
def spSum (K : PySem.W.Frag) : Sp := fun vs H Q _ => ∃ a ws xs, vs = [.ref a] ∧ SqL K H a ws ∧ FsAt K H ws xs ∧ (∀ x ∈ xs, Fr x ∧ Sz 100 x) ∧ xs.length ≤ 16 ∧ ∀ H' p, Same H H' → FT K H' p (fsum xs) → Q (.ref p) H'
/-- of a share: a fraction -/
def spShF (K : PySem.W.Frag) (f : List (Int × Fx) → Fx) : Sp := fun vs H Q _ => ∃ p xs, vs = [.ref p] ∧ ShAt K H p xs ∧ AllF 90 xs ∧ (∀ a ∈ xs, a.1.natAbs ≤ 200) ∧ xs.length ≤ 16 ∧ ∀ H' r, Same H H' → FT K H' r (f xs) → Q (.ref r) H'
def spShFk (K : PySem.W.Frag) (f : List (Int × Fx) → Int → Fx) : Sp := fun vs H Q _ => ∃ p xs k, vs = [.ref p, .int k] ∧ ShAt K H p xs ∧ AllF 90 xs ∧ (∀ a ∈ xs, a.1.natAbs ≤ 200) ∧ k.natAbs ≤ 200 ∧ xs.length ≤ 16 ∧ ∀ H' r, Same H H' → FT K H' r (f xs k) → Q (.ref r) H'
end CS
set_option Elab.async false
set_option maxRecDepth 100000
set_option maxHeartbeats 4000000
set_option linter.unusedVariables false
namespace CS
open PySem L2
def top (i : Nat) : Stmt := PySem.Challenge.pw_curtainsteps_k09_whole_costs_and_kinds.main.body.getD i (.Pass ⟨0, 0, 0, 0⟩)
abbrev sSteperror : Stmt := top 2
abbrev sBadPaper : Stmt := top 3
abbrev sBadshare : Stmt := top 4
abbrev sBadTable : Stmt := top 5
abbrev sBadCosts : Stmt := top 6
abbrev sLowered : Stmt := top 9
abbrev sAdded : Stmt := top 10
abbrev sScaled : Stmt := top 11
abbrev sSumOf : Stmt := top 12
abbrev sIsWhole : Stmt := top 15
abbrev sIsWord : Stmt := top 16
abbrev sIsRow : Stmt := top 17
abbrev sIsRowOf : Stmt := top 18
abbrev sIsWholeWithin : Stmt := top 19
abbrev sIsNumber : Stmt := top 20
abbrev sIsFraction : Stmt := top 21
abbrev sIsWeight : Stmt := top 22
abbrev sAscends : Stmt := top 23
abbrev sIsSharePair : Stmt := top 24
abbrev sIsShare : Stmt := top 25
abbrev sHasSort : Stmt := top 26
abbrev sGathered : Stmt := top 28
abbrev sIsStep : Stmt := top 31
abbrev sIsFair : Stmt := top 32
abbrev sIsTable : Stmt := top 33
abbrev sStartShare : Stmt := top 34
abbrev sEndShare : Stmt := top 35
abbrev sLeads : Stmt := top 36
abbrev sNeedShare : Stmt := top 38
abbrev sIsCostRow : Stmt := top 40
abbrev sNeedCosts : Stmt := top 41
abbrev sPlaces : Stmt := top 42
abbrev sCostOf : Stmt := top 43
abbrev sBow : Stmt := top 48
abbrev sBends : Stmt := top 49
abbrev sBendsUp : Stmt := top 50
abbrev sBendsDown : Stmt := top 51
abbrev sKindPaper : Stmt := top 52
abbrev sKindOf : Stmt := top 53
abbrev sIsAsTold : Stmt := top 54
abbrev sCheckKind : Stmt := top 55
abbrev sMixed : Stmt := top 57
abbrev sBegin : Stmt := top 58
abbrev sDraw : Stmt := top 59
abbrev sLawOf : Stmt := top 60
abbrev sLawRatio : Stmt := top 61
abbrev sLawPlus : Stmt := top 62
abbrev sLawLess : Stmt := top 63
abbrev sLawTimes : Stmt := top 64
abbrev sLawSum : Stmt := top 65
abbrev sLawShareOf : Stmt := top 66
abbrev sLawSide : Stmt := top 67
abbrev sLawHeft : Stmt := top 68
abbrev sLawMarks : Stmt := top 69
abbrev sLawShare : Stmt := top 70
abbrev sLawSteps : Stmt := top 71
abbrev sLawCosts : Stmt := top 72
abbrev sLawCost : Stmt := top 73
abbrev sLawBends : Stmt := top 74
abbrev sLawWord : Stmt := top 75
abbrev sLawKindRight : Stmt := top 76
abbrev sLaw : Stmt := top 77
section
variable {P : Program} {w : World} {K : PySem.W.Frag} {mg : Str → Option Value} {base : Heap}
theorem scLowered : FnScope ["top", "bottom", "common"] ["top", "bottom"] (defScope sLowered) := ⟨rfl, rfl, rfl, by decide +kernel, rfl, by decide +kernel, by decide +kernel⟩
theorem ok_lowered {f : Addr} {fd : FuncData} (F : Df K mg "lowered" sLowered ["top", "bottom"] f fd) (T : Bt mg) : FnOk P w K mg base CX0 1 f fd ["top", "bottom"] spLow := by
  refine F.F.ok scLowered (fun vs H Q E h => ?_) (fun cdv A outer s H vs Q E hr h => ?_)
  · obtain ⟨t, b, rfl, _⟩ := h
    rfl
  · obtain ⟨t, b, rfl, hb, h1, h2, k⟩ := h
    refine ⟨_, pss_cons (ps_set (i := 2) scLowered.nd rfl (Or.inl rfl) (pe_callBfun cr_gcd (by rfl) T.gcd (pa_cons (pv 0) (pa_cons (pv 1) pa_nil))))
      (pss_cons (ps_if (pt_cmpR op_lt (pv 1) pe_int (nomark _)) (pss_one (ps_set (i := 2) scLowered.nd rfl (Or.inl rfl) (pe_un un_neg (pv 2)))) pss_nil)
      (pss_one (ps_ret (pe_tup (pa_cons (pe_op op_fdivX (pv 0) (pv 2)) (pa_cons (pe_op op_fdivX (pv 1) (pv 2)) pa_nil)))))), ?_⟩
    have hc := cm_ne (t := t) hb
    have hz : (cm t b).natAbs.log2 < 9000 := by
      rw [cm_abs]
      have : Int.gcd t b ≤ b.natAbs := Nat.le_of_dvd (by omega) (Nat.gcd_dvd_right _ _)
      exact Nat.lt_of_lt_of_le (PySem.Flt.log2_lt_of (by decide) (Nat.lt_of_le_of_lt this h2)) (by decide)
    refine ⟨_, rfl, _, rfl, t, b, rfl, _, rfl, _, _, rfl, rfl, _, rfl, ?_⟩
    by_cases hlt : b < 0
    · have e : cm t b = -(Int.gcd t b : Int) := if_pos hlt
      rw [decide_eq_true hlt]
      refine iteT ?_
      refine ⟨_, rfl, _, rfl, ?_⟩
      refine ⟨_, rfl, _, rfl, t, _, rfl, rfl, ⟨e ▸ hc, e ▸ hz⟩, _, rfl, _, rfl, b, _, rfl, rfl, ⟨e ▸ hc, e ▸ hz⟩, (by show 2 ≤ sizeLine; decide), fun p hp => ?_⟩
      have := k p hp
      unfold low at this
      rw [e] at this
      exact this
    · have e : cm t b = (Int.gcd t b : Int) := if_neg hlt
      rw [decide_eq_false hlt]
      refine iteF ?_
      refine ⟨_, rfl, _, rfl, t, _, rfl, rfl, ⟨e ▸ hc, e ▸ hz⟩, _, rfl, _, rfl, b, _, rfl, rfl, ⟨e ▸ hc, e ▸ hz⟩, (by show 2 ≤ sizeLine; decide), fun p hp => ?_⟩
      have := k p hp
      unfold low at this
      rw [e] at this
      exact this
theorem scAdded : FnScope ["one", "other"] ["one", "other"] (defScope sAdded) := ⟨rfl, rfl, rfl, by decide +kernel, rfl, by decide +kernel, by decide +kernel⟩
theorem ok_added {f fl : Addr} {fd fdl : FuncData} (F : Df K mg "added" sAdded ["one", "other"] f fd) (L : Df K mg "lowered" sLowered ["top", "bottom"] fl fdl) (T : Bt mg) : FnOk P w K mg base CX0 2 f fd ["one", "other"] (spF2 K (fun _ _ => True) fadd) := by
  have G : FnOk P w K mg base CX0 1 fl fdl ["top", "bottom"] spLow := ok_lowered L T
  refine F.F.ok scAdded (fun vs H Q E h => ?_) (fun cdv A outer s H vs Q E hr h => ?_)
  · obtain ⟨p, q, x, y, rfl, _⟩ := h
    rfl
  · obtain ⟨p, q, x, y, rfl, hp, hq, hx, hy, zx, zy, ok, k⟩ := h
    refine ⟨_, pss_one (ps_ret (pe_call G hr (by rfl) L.g L.F.kp L.b .nil pass0 (pa_cons (pe_op op_add (pe_op op_mulW (pe_fst 0) (pe_snd 1)) (pe_op op_mulW (pe_fst 1) (pe_snd 0))) (pa_cons (pe_op op_mulW (pe_snd 0) (pe_snd 1)) pa_nil)))), ?_⟩
    refine ⟨p, x, rfl, hp, q, y, rfl, hq, _, _, rfl, rfl, cmw zx.1 zy.2, q, y, rfl, hq, p, x, rfl, hp, _, _, rfl, rfl, cmw zy.1 zx.2, _, _, rfl, rfl, p, x, rfl, hp, q, y, rfl, hq, _, _, rfl, rfl, cmw zx.2 zy.2, _, _, rfl, dd hx hy, lt_up (abs_add_lt (abs_mul_lt zx.1 zy.2) (abs_mul_lt zy.1 zx.2)) (by decide), lt_up (abs_mul_lt zx.2 zy.2) (by decide), k⟩
theorem scIsWhole : FnScope ["thing"] ["thing"] (defScope sIsWhole) := ⟨rfl, rfl, rfl, by decide +kernel, rfl, by decide +kernel, by decide +kernel⟩
theorem ok_is_whole {f : Addr} {fd : FuncData} (F : Df K mg "is_whole" sIsWhole ["thing"] f fd) (T : Bt mg) : FnOk P w K mg base CX0 1 f fd ["thing"] (spWhole K) := by
  refine F.F.ok scIsWhole (fun vs H Q E h => ?_) (fun cdv A outer s H vs Q E hr h => ?_)
  · obtain ⟨i, rfl, _⟩ := h
    rfl
  · obtain ⟨i, rfl, k⟩ := h
    refine ⟨_, pss_one (ps_ret (pe_and (pe_callB call_isi (by rfl) T.isinstance (by decide +kernel) (pa_cons (pv 0) (pa_cons (pe_bltn (v := .ty "int") (by rfl) T.int (by decide +kernel) rfl) pa_nil))) (pe_one (pe_cmpR op_eq (pe_cn (pv 0)) pe_str (nomark _))))), ?_⟩
    refine ⟨_, rfl, _, _, _, _, true, rfl, .ty _, .base (.int i), kit_ty (a := "int") (b := "int") (by decide +kernel), _, rfl, iteT ?_⟩
    refine ⟨_, rfl, _, .int i, rfl, ?_⟩
    exact k
theorem scIsRow : FnScope ["thing"] ["thing"] (defScope sIsRow) := ⟨rfl, rfl, rfl, by decide +kernel, rfl, by decide +kernel, by decide +kernel⟩
theorem TyX.of_tup {K : PySem.W.Frag} {H : Hp} {p : Addr} {xs : List V} (h : SqT K H p xs) : TyX K H (.ref p) (.type "tuple") := by
  rcases h with (h | ⟨o, h⟩) | ⟨o, its, n, h, c, _⟩
  · exact .base (.tup h)
  · exact .fTuple h
  · exact .kTuple h c
theorem ok_is_row {f : Addr} {fd : FuncData} (F : Df K mg "is_row" sIsRow ["thing"] f fd) (T : Bt mg) : FnOk P w K mg base CX0 1 f fd ["thing"] (spRow K) := by
  refine F.F.ok scIsRow (fun vs H Q E h => ?_) (fun cdv A outer s H vs Q E hr h => ?_)
  · obtain ⟨i, xs, rfl, _⟩ := h
    rfl
  · obtain ⟨i, xs, rfl, hp, k⟩ := h
    refine ⟨_, pss_one (ps_ret (pe_and (pe_callB call_isi (by rfl) T.isinstance (by decide +kernel) (pa_cons (pv 0) (pa_cons (pe_bltn (v := .ty "tuple") (by rfl) T.tuple (by decide +kernel) rfl) pa_nil))) (pe_one (pe_cmpR op_eq (pe_cn (pv 0)) pe_str (nomark _))))), ?_⟩
    refine ⟨_, rfl, _, _, _, _, true, rfl, .ty _, TyX.of_tup hp, kit_ty (a := "tuple") (b := "tuple") (by decide +kernel), _, rfl, iteT ?_⟩
    refine ⟨_, rfl, _, .tup hp, rfl, ?_⟩
    exact k
theorem scIsRowOf : FnScope ["thing", "many"] ["thing", "many"] (defScope sIsRowOf) := ⟨rfl, rfl, rfl, by decide +kernel, rfl, by decide +kernel, by decide +kernel⟩
theorem ok_is_row_of {f f1 : Addr} {fd fd1 : FuncData} (F : Df K mg "is_row_of" sIsRowOf ["thing", "many"] f fd) (F1 : Df K mg "is_row" sIsRow ["thing"] f1 fd1) (T : Bt mg) : FnOk P w K mg base CX0 2 f fd ["thing", "many"] (spRowOf K) := by
  have G1 : FnOk P w K mg base CX0 1 f1 fd1 ["thing"] (spRow K) := ok_is_row F1 T
  refine F.F.ok scIsRowOf (fun vs H Q E h => ?_) (fun cdv A outer s H vs Q E hr h => ?_)
  · obtain ⟨i, xs, n, rfl, _⟩ := h
    rfl
  · obtain ⟨i, xs, n, rfl, hp, k⟩ := h
    refine ⟨_, pss_one (ps_ret (pe_and (pe_call G1 hr (by rfl) F1.g F1.F.kp F1.b .nil pass0 (pa_cons (pv 0) pa_nil)) (pe_one (pe_cmpR op_eq (pe_callB call_len_seq (by rfl) T.len PySem.boot_len (pa_cons (pv 0) pa_nil)) (pv 1) (nomark _))))), ?_⟩
    refine ⟨_, rfl, _, _, rfl, hp, _, rfl, iteT ?_⟩
    refine ⟨_, rfl, _, _, rfl, .inr hp, _, rfl, rfl, ?_⟩
    have e : decide (V.int (xs.length : Int) = V.int n) = decide ((xs.length : Int) = n) := by
      rw [decide_eq_decide]
      constructor
      · intro h; injection h
      · intro h; rw [h]
    rw [e]
    exact k
theorem scIsFraction : FnScope ["thing"] ["thing"] (defScope sIsFraction) := ⟨rfl, rfl, rfl, by decide +kernel, rfl, by decide +kernel, by decide +kernel⟩
theorem ok_is_fraction {f f1 f2 f3 : Addr} {fd fd1 fd2 fd3 : FuncData} (F : Df K mg "is_fraction" sIsFraction ["thing"] f fd) (F1 : Df K mg "is_row_of" sIsRowOf ["thing", "many"] f1 fd1) (F2 : Df K mg "is_row" sIsRow ["thing"] f2 fd2)
    (F3 : Df K mg "is_whole" sIsWhole ["thing"] f3 fd3) (T : Bt mg) : FnOk P w K mg base CX0 3 f fd ["thing"] (spIsFr K) := by
  have G1 : FnOk P w K mg base CX0 2 f1 fd1 ["thing", "many"] (spRowOf K) := ok_is_row_of F1 F2 T
  have G3 : FnOk P w K mg base CX0 1 f3 fd3 ["thing"] (spWhole K) := ok_is_whole F3 T
  refine F.F.ok scIsFraction (fun vs H Q E h => ?_) (fun cdv A outer s H vs Q E hr h => ?_)
  · obtain ⟨p, x, rfl, _⟩ := h
    rfl
  · obtain ⟨p, x, rfl, hp, k⟩ := h
    have hr1 : Room 1 _ := hr.mono (by decide)
    refine ⟨_, pss_cons (ps_if (PW.pt (pw_or (pt_not (pt_val (pe_call G1 hr (by rfl) F1.g F1.F.kp F1.b .nil pass0 (pa_cons (pv 0) (pa_cons pe_int pa_nil))))) (pw_or (pt_not (pt_val (pe_call G3 hr1 (by rfl) F3.g F3.F.kp F3.b .nil pass0 (pa_cons (pe_fst 0) pa_nil)))) (pw_or1 (pt_not (pt_val (pe_call G3 hr1 (by rfl) F3.g F3.F.kp F3.b .nil pass0 (pa_cons (pe_snd 0) pa_nil))))))))
        (pss_one (ps_ret pe_bl)) pss_nil)
      (pss_one (ps_ret (pe_and (pe_cmpR op_ge (pe_snd 0) pe_int (nomark _)) (pe_one (pe_cmpR op_eq (pe_callBfun cr_gcd (by rfl) T.gcd (pa_cons (pe_fst 0) (pa_cons (pe_snd 0) pa_nil))) pe_int (nomark _)))))), ?_⟩
    refine ⟨_, rfl, _, _, _, rfl, hp, _, rfl, iteF ?_⟩
    refine ⟨p, x, rfl, hp, _, rfl, _, rfl, iteF ?_⟩
    refine ⟨p, x, rfl, hp, _, rfl, _, rfl, iteF ?_⟩
    refine ⟨p, x, rfl, hp, _, _, rfl, rfl, _, rfl, ?_⟩
    by_cases h1 : 1 ≤ x.2
    · rw [decide_eq_true h1]
      refine iteT ?_
      refine ⟨p, x, rfl, hp, p, x, rfl, hp, _, _, rfl, rfl, ?_⟩
      have e : decide (V.int ((Nat.gcd x.1.natAbs x.2.natAbs : Nat) : Int) = V.int 1) = decide (Fr x) := by
        rw [decide_eq_decide]
        constructor
        · intro h
          injection h with h
          refine ⟨h1, ?_⟩
          show Nat.gcd x.1.natAbs x.2.natAbs = 1
          omega
        · intro h
          have := h.2
          show V.int ((Int.gcd x.1 x.2 : Nat) : Int) = V.int 1
          rw [this]
          rfl
      rw [e]
      exact k
    · rw [decide_eq_false h1]
      refine iteF ?_
      rw [decide_eq_false (fun h : Fr x => h1 h.1)] at k
      exact k
theorem scMixed : FnScope ["cell", "k"] ["cell", "k"] (defScope sMixed) := ⟨rfl, rfl, rfl, by decide +kernel, rfl, by decide +kernel, by decide +kernel⟩
theorem ok_mixed {f : Addr} {fd : FuncData} (F : Df K mg "_law_mixed" sMixed ["cell", "k"] f fd) (T : Bt mg) : FnOk P w K mg base CX0 1 f fd ["cell", "k"] spMixed := by
  refine F.F.ok scMixed (fun vs H Q E h => ?_) (fun cdv A outer s H vs Q E hr h => ?_)
  · obtain ⟨c, k, rfl, _⟩ := h
    rfl
  · obtain ⟨c, k, rfl, k0, k1, q⟩ := h
    refine ⟨_, pss_cons (ps_set (i := 0) scMixed.nd rfl (Or.inl rfl) (pe_op op_mod (pe_callTy call_int1 (by rfl) T.int (by decide +kernel) (pa_cons (pv 0) pa_nil)) pe_int))
      (pss_one (ps_ret (pe_op op_mod (pe_op op_mul (pe_op op_mod (pe_op op_add (pe_op op_add
        (pe_op op_mul (pv 0) (pe_op op_add pe_int (pe_op op_mul (pe_op op_mul pe_int (pv 1)) (pv 1))))
        (pe_op op_mul pe_int (pv 1))) pe_int) pe_int) pe_int) pe_int))), ?_⟩
    have hc0 : 0 ≤ c % 2147483647 := Int.emod_nonneg _ (by decide)
    have hc1 : c % 2147483647 < 2147483647 := Int.emod_lt_of_pos _ (by decide)
    refine ⟨_, rfl, .inl ⟨c, rfl, _, _, rfl, rfl, (by show (0 : Int) < 2147483647; decide), ?_⟩⟩
    generalize hcc : c % 2147483647 = cc at *
    refine ⟨_, rfl, _, rfl, _, _, rfl, rfl, .inl ⟨by decide, by decide⟩, _, rfl, _, _, rfl, rfl, .inr ⟨by omega, by omega⟩, _, _, rfl, rfl, ?_⟩
    generalize 48271 + 2 * k * k = z
    refine ⟨_, _, rfl, rfl, .inl ⟨by omega, by omega⟩, _, rfl, _, _, rfl, rfl, .inl ⟨by decide, by decide⟩, _, _, rfl, rfl, _, _, rfl, rfl, _, _, rfl, rfl, (by show (0 : Int) < 2147483647; decide), ?_⟩
    generalize hy : (cc * z + 69621 * k + 11) = y
    have hy0 : 0 ≤ y % 2147483647 := Int.emod_nonneg _ (by decide)
    have hy1 : y % 2147483647 < 2147483647 := Int.emod_lt_of_pos _ (by decide)
    refine ⟨_, _, rfl, rfl, .inl ⟨by omega, by omega⟩, _, _, rfl, rfl, (by show (0 : Int) < 2147483629; decide), ?_⟩
    exact q _ (Int.emod_nonneg _ (by decide)) (Int.emod_lt_of_pos _ (by decide))
theorem dpInts (K : PySem.W.Frag) (H : Hp) : ∀ ns : List Int, DpAll K H (ns.map V.int) (ns.map PyData.int)
  | [] => .nil
  | n :: ns => .cons (.int n) (dpInts K H ns)
theorem cl0 : ∀ ns : List Int, PyData.canLayAll0 (ns.map PyData.int) = true
  | [] => rfl
  | n :: ns => by
    show (PyData.canLay0 (.int n) && PyData.canLayAll0 (ns.map PyData.int)) = true
    rw [cl0 ns]
    rfl
theorem dp0 : ∀ ns : List Int, PyData.depthAll (ns.map PyData.int) ≤ 1
  | [] => by decide
  | n :: ns => by
    have := dp0 ns
    simp [PyData.depthAll, PyData.depth] at *
    omega
theorem shInts (ns : List Int) : SeqAt.shaped (.list (ns.map PyData.int)) = true := by
  have h1 := cl0 ns
  have h2 := dp0 ns
  simp [SeqAt.shaped, PyData.canLay0, PyData.depth, h1]
  omega
theorem scBegin : FnScope ["script", "cells", "cell"] ["script"] (defScope sBegin) := ⟨rfl, rfl, rfl, by decide +kernel, rfl, by decide +kernel, by decide +kernel⟩
theorem ok_begin {f : Addr} {fd : FuncData} (F : Df K mg "_law_begin" sBegin ["script"] f fd) (T : Bt mg) : FnOk P w K mg base CX0 1 f fd ["script"] (spBegin K) := by
  refine F.F.ok scBegin (fun vs H Q E h => ?_) (fun cdv A outer s H vs Q E hr h => ?_)
  · obtain ⟨a, ns, rfl, _⟩ := h
    rfl
  · obtain ⟨a, ns, rfl, hS, hlen, k⟩ := h
    refine ⟨_, Evl.pss_cut (ps_set (i := 1) scBegin.nd rfl (Or.inl rfl) (pe_ifExp (pt_cmpR (op_neD hr.units) (pv 0) (pe_lst pa_nil) (nomark _)) (pe_callTy call_list_of (by rfl) T.list (by decide +kernel) (pa_cons (pv 0) pa_nil)) (pe_lst (pa_cons pe_int pa_nil))))
      (pss_one (ps_ret (pe_disp (pps_cons pe_str (pv 1) (pps_cons pe_str
        (pe_lc (own := [("cell", 2)]) (g := gName 2) (tt := tYes) rfl scBegin.nd (pi_list (pv 1)) (blkOk_by (N := ["script", "cells", "cell"]) (sc := defScope sBegin) (by decide +kernel)) (fun _ _ _ _ _ => pg_name (i := 2) scBegin.nd rfl (Or.inl rfl)) (fun _ _ _ _ _ => pts_nil)
          (fun _ _ _ _ _ => pe_ifExp (pt_cmpR op_ge (pv 2) (pe_op op_pow pe_int pe_int) (nomark _)) (pv 2) pe_int))
        (pps_cons pe_str pe_int (pps_cons pe_str pe_int pps_nil)))) (by rfl) (by rfl) (fun z => by cases z) (by decide)))), ?_⟩
    refine ⟨fun σ' H' => ∃ (c : Addr) (cs : List Int), σ' = [some (.ref a), some (.ref c), none] ∧ Same H H' ∧ H c = none ∧ H' c = some (.lst (cs.map V.int)) ∧ 0 < cs.length ∧ cs.length ≤ 64, ?_, ?_⟩
    · refine ⟨_, rfl, (by show 0 ≤ sizeLine; decide), fun q0 hq0 => ?_⟩
      refine ⟨.list (ns.map PyData.int), .list [], .lst ((Same.new hq0).seq hS) (dpInts _ _ ns), .lst (SqL.of upd_same) .nil, shInts ns, rfl, _, rfl, ?_⟩
      cases ns with
      | nil =>
        refine iteF ?_
        refine ⟨(by show 1 ≤ sizeLine; decide), fun c hc => ?_⟩
        exact ⟨c, [0], rfl, (Same.new hq0).trans (Same.new hc), (Same.new hq0).free hc, upd_same, by decide, by decide⟩
      | cons n ns =>
        refine iteT ?_
        refine ⟨_, rfl, a, _, rfl, .inl ((Same.new hq0).seq hS), fun c hc => ?_⟩
        exact ⟨c, n :: ns, rfl, (Same.new hq0).trans (Same.new hc), (Same.new hq0).free hc, upd_same, by simp, by omega⟩
    · rintro σ' H1 ⟨c, cs, rfl, s1, nc, hc, c0, c64⟩
      intro p hp
      have ncp : c ≠ p := ne_of_none hc hp
      have hcp : (upd H1 p (.dK [])) c = some (.lst (cs.map V.int)) := by rw [upd_ne ncp]; exact hc
      refine ⟨_, rfl, _, rfl, c, rfl, ⟨_, SqL.of hcp⟩, fun D hD => ?_⟩
      have ncD : c ≠ D := ne_of_none hcp hD
      have npD : p ≠ D := ne_of_none upd_same hD
      refine lc_list (K := K) (a := c) (xs := cs.map V.int) (fun i H' => ∃ acc : List Int, H' = upd (upd H1 p (.dK [])) D (.lst (acc.map V.int)) ∧ acc.length = i ∧ ∀ v ∈ acc, 0 ≤ v) ⟨[], rfl, rfl, fun v hv => by cases hv⟩ ?_ ?_ ?_
      · rintro i H' hi ⟨acc, rfl, _, _⟩
        exact SqL.of (by rw [upd_ne ncD]; exact hcp)
      · rintro i x H' hx ⟨acc, rfl, hl, h0⟩
        have hil : i < (cs.map V.int).length := (List.getElem?_eq_some_iff.mp hx).1
        rw [List.length_map] at hil
        obtain ⟨z, rfl⟩ : ∃ z, x = V.int z := by
          rw [List.getElem?_map] at hx
          cases e : cs[i]? with
          | none =>
            rw [e] at hx
            cases hx
          | some z =>
            rw [e] at hx
            exact ⟨z, (Option.some.inj hx).symm⟩
        refine ⟨rfl, ?_⟩
        dsimp only [tYes]
        rw [if_pos rfl]
        refine ⟨_, rfl, 10, 18, rfl, rfl, ⟨by decide, by decide, by decide⟩, _, _, rfl, rfl, _, rfl, ?_⟩
        by_cases hz : (10 : Int) ^ (18 : Int).toNat ≤ z
        · rw [decide_eq_true hz]
          refine iteT ⟨_, rfl, _, upd_same, ?_, acc ++ [z], ?_, ?_, ?_⟩
          · rw [List.length_map]; exact small1000 (by omega)
          · rw [upd_upd, List.map_append]; rfl
          · rw [List.length_append]; simp [hl]
          · intro v hv
            rcases List.mem_append.mp hv with q | q
            · exact h0 v q
            · have := List.mem_singleton.mp q
              have h18 : (0 : Int) ≤ (10 : Int) ^ (18 : Int).toNat := by decide
              omega
        · rw [decide_eq_false hz]
          refine iteF ⟨_, upd_same, ?_, acc ++ [0], ?_, ?_, ?_⟩
          · rw [List.length_map]; exact small1000 (by omega)
          · rw [upd_upd, List.map_append]; rfl
          · rw [List.length_append]; simp [hl]
          · intro v hv
            rcases List.mem_append.mp hv with q | q
            · exact h0 v q
            · have := List.mem_singleton.mp q
              omega
      · rintro H' ⟨acc, rfl, hl, h0⟩
        refine ⟨by rw [upd_ne npD]; exact upd_same, [(Sum.inr ("cells" : Str), V.ref c), (Sum.inr ("lefts" : Str), .ref D), (Sum.inr ("at" : Str), .int 0), (Sum.inr ("room" : Str), .int 0)], rfl, (by show 4 ≤ 15; decide), ?_⟩
        rw [stD_make]
        have hD1 : H1 D = none := (Same.new hp).free hD
        refine k p c D _ (s1.free hp) (s1.trans ?_) ?_
        · intro b o e
          rw [upd_ne (ne_of_none e hp), upd_ne (ne_of_none e hD1), upd_ne (ne_of_none e hp)]
          exact e
        · refine ⟨upd_same, ncD, cs, acc, ?_, ?_, ?_, c0, c64, h0⟩
          · rw [upd_ne ncp, upd_ne ncD]; exact hcp
          · rw [upd_ne npD.symm, upd_same]
          · rw [hl, List.length_map]
theorem scDraw : FnScope ["state", "many", "at", "place", "left", "number"] ["state", "many"] (defScope sDraw) := ⟨rfl, rfl, rfl, by decide +kernel, rfl, by decide +kernel, by decide +kernel⟩
theorem ok_draw {f f1 : Addr} {fd fd1 : FuncData} (F : Df K mg "_law_draw" sDraw ["state", "many"] f fd) (F1 : Df K mg "_law_mixed" sMixed ["cell", "k"] f1 fd1) (T : Bt mg) : FnOk P w K mg base CX0 2 f fd ["state", "many"] spDraw := by
  have G1 : FnOk P w K mg base CX0 1 f1 fd1 ["cell", "k"] spMixed := ok_mixed F1 T
  refine F.F.ok scDraw (fun vs H Q E h => ?_) (fun cdv A outer s H vs Q E hr h => ?_)
  · obtain ⟨d, c, l, k, m, rfl, _⟩ := h
    rfl
  · obtain ⟨d, c, l, n, m, rfl, S, m0, m1, n1, k⟩ := h
    have hu := hu_of hr
    refine ⟨_, pss_cons (ps_set (i := 2) scDraw.nd rfl (Or.inl rfl) (pe_dget hu (pv 0) pe_str (fun _ _ => rfl)))
      (pss_cons (ps_dput hu (pv 0) pe_str (pe_op op_add (pv 2) pe_int) rfl)
      (pss_cons (ps_set (i := 3) scDraw.nd rfl (Or.inl rfl) (pe_op op_mod (pe_callTy call_int1 (by rfl) T.int (by decide +kernel) (pa_cons (pv 2) pa_nil)) (pe_callB call_len_seq (by rfl) T.len PySem.boot_len (pa_cons (pe_dget hu (pv 0) pe_str (fun _ _ => rfl)) pa_nil))))
      (pss_cons (ps_set (i := 4) scDraw.nd rfl (Or.inl rfl) (pe_ix ix_list (pe_dget hu (pv 0) pe_str (fun _ _ => rfl)) (pv 3) (fun _ _ => rfl)))
      (pss_cons (ps_if (pt_cmpR op_gt (pv 4) pe_int (nomark _))
        (pss_cons (ps_asg (pe_op op_fdivW (pv 4) (pv 1)) (pg_sub (pe_dget hu (pv 0) pe_str (fun _ _ => rfl)) (pv 3) set_list))
        (pss_one (ps_ret (pe_op op_mod (pe_callTy call_int1 (by rfl) T.int (by decide +kernel) (pa_cons (pv 4) pa_nil)) (pv 1))))) pss_nil)
      (pss_cons (ps_set (i := 5) scDraw.nd rfl (Or.inl rfl) (pe_call G1 hr (by rfl) F1.g F1.F.kp F1.b .nil pass0 (pa_cons (pe_call G1 hr (by rfl) F1.g F1.F.kp F1.b .nil pass0 (pa_cons (pe_ix ix_list (pe_dget hu (pv 0) pe_str (fun _ _ => rfl)) (pv 3) (fun _ _ => rfl)) (pa_cons (pv 2) pa_nil))) (pa_cons (pe_op op_add pe_int (pv 2)) pa_nil))))
      (pss_one (ps_ret (pe_op op_mod (pe_op op_fdiv (pe_callTy call_int1 (by rfl) T.int (by decide +kernel) (pa_cons (pe_op op_add (pe_op op_mul (pv 5) pe_int) (pe_call G1 hr (by rfl) F1.g F1.F.kp F1.b .nil pass0 (pa_cons (pv 5) (pa_cons (pe_op op_add pe_int (pv 2)) pa_nil)))) pa_nil)) pe_int) (pv 1))))))))), ?_⟩
    obtain ⟨hd, ncl, cs, ls, hc, hl, hcl, c0, c64, hls⟩ := S
    have ndc : d ≠ c := ne_of hd hc (by intro z; cases z)
    have ndl : d ≠ l := ne_of hd hl (by intro z; cases z)
    refine ⟨_, rfl, d, _, rfl, (stD_at c l n) ▸ DGet.k (k := Sum.inr ("at" : Str)) hd, ?_⟩
    refine ⟨_, rfl, _, _, rfl, rfl, _, rfl, d, _, rfl, DPut.k (k := Sum.inr ("at" : Str)) hd (by show 4 < sizeLine; decide), ?_⟩
    rw [stD_put]
    have hd2 : (upd H d (.dK (stD c l ((n : Int) + 1)))) d = some (.dK (stD c l ((n + 1 : Nat) : Int))) := upd_same
    have hc2 : (upd H d (.dK (stD c l ((n : Int) + 1)))) c = some (.lst (cs.map V.int)) := by rw [upd_ne ndc.symm]; exact hc
    have hl2 : (upd H d (.dK (stD c l ((n : Int) + 1)))) l = some (.lst (ls.map V.int)) := by rw [upd_ne ndl.symm]; exact hl
    have fm2 : Fm d l H (upd H d (.dK (stD c l ((n : Int) + 1)))) := fun b o e nb _ => by rw [upd_ne nb]; exact e
    generalize upd H d (.dK (stD c l ((n : Int) + 1))) = H2 at *
    have el : ((n : Int) % ((cs.map V.int).length : Int)) = ((n % cs.length : Nat) : Int) := by
      rw [List.length_map]
      omega
    refine ⟨_, rfl, .inl ⟨_, rfl, _, rfl, d, _, rfl, (stD_cells c l _) ▸ DGet.k (k := Sum.inr ("cells" : Str)) hd2, c, _, rfl, .inl (SqL.of hc2), _, _, rfl, rfl, (by show (0 : Int) < ((cs.map V.int).length : Int); rw [List.length_map]; omega), ?_⟩⟩
    simp only [el]
    have hj : n % cs.length < cs.length := Nat.mod_lt _ c0
    generalize n % cs.length = j at *
    obtain ⟨y, hy⟩ : ∃ y, ls[j]? = some y := ⟨ls[j]'(by omega), by simp⟩
    obtain ⟨x, hx⟩ : ∃ x, cs[j]? = some x := ⟨cs[j]'(by omega), by simp⟩
    have y0 : 0 ≤ y := hls y (List.mem_of_getElem? hy)
    have hyv : atI (ls.map V.int) ((j : Nat) : Int) = some (.int y) := atI_nat (by rw [List.getElem?_map, hy]; rfl)
    have hxv : atI (cs.map V.int) ((j : Nat) : Int) = some (.int x) := atI_nat (by rw [List.getElem?_map, hx]; rfl)
    refine ⟨_, rfl, d, _, rfl, (stD_lefts c l _) ▸ DGet.k (k := Sum.inr ("lefts" : Str)) hd2, _, rfl, l, _, _, _, rfl, rfl, SqL.of hl2, hyv, ?_⟩
    refine ⟨_, rfl, _, _, rfl, rfl, _, rfl, ?_⟩
    by_cases hy1 : 0 < y
    · rw [decide_eq_true hy1]
      refine iteT ?_
      refine ⟨_, rfl, _, rfl, _, _, rfl, rfl, wide_div m0 m1 (by decide) (by decide), ?_⟩
      refine ⟨_, rfl, d, _, rfl, (stD_lefts c l _) ▸ DGet.k (k := Sum.inr ("lefts" : Str)) hd2, _, rfl, l, _, _, j, rfl, rfl, hl2, ?_, ?_⟩
      · rw [List.length_map]
        unfold ixN
        rw [if_pos (by omega), if_pos (by omega)]
        simp
      refine ⟨_, rfl, .inl ⟨_, rfl, _, rfl, _, _, rfl, rfl, m0, ?_⟩⟩
      refine k _ _ (Int.emod_nonneg _ (by omega)) (Int.emod_lt_of_pos _ m0) ⟨by rw [upd_ne ndl]; exact hd2, ncl, cs, ls.set j (y / m), by rw [upd_ne ncl]; exact hc2, ?_, by rw [List.length_set]; exact hcl, c0, c64, ?_⟩ ?_
      · rw [upd_same, List.map_set]
      · intro v hv
        rcases List.mem_or_eq_of_mem_set hv with q | q
        · exact hls v q
        · rw [q]; exact Int.ediv_nonneg y0 (by omega)
      · intro b o e n1 n2
        rw [upd_ne n2]
        exact fm2 b o e n1 n2
    · rw [decide_eq_false hy1]
      refine iteF ?_
      refine ⟨_, rfl, d, _, rfl, (stD_cells c l _) ▸ DGet.k (k := Sum.inr ("cells" : Str)) hd2, _, rfl, c, _, _, _, rfl, rfl, SqL.of hc2, hxv, _, rfl, x, n, rfl, by omega, by omega, fun r1 a0 a1 => ?_⟩
      refine ⟨_, rfl, _, _, rfl, rfl, _, _, rfl, by omega, by omega, fun r2 b0 b1 => ?_⟩
      refine ⟨_, rfl, _, _, rfl, rfl, .inl ⟨by omega, by omega⟩, _, rfl, _, rfl, _, _, rfl, rfl, _, _, rfl, by omega, by omega, fun r3 e0 e1 => ?_⟩
      refine ⟨_, _, rfl, rfl, .inl ⟨_, rfl, _, _, rfl, rfl, ⟨by decide, by decide⟩, _, rfl, _, _, rfl, rfl, m0, ?_⟩⟩
      exact k _ _ (Int.emod_nonneg _ (by omega)) (Int.emod_lt_of_pos _ m0) ⟨hd2, ncl, cs, ls, hc2, hl2, hcl, c0, c64, hls⟩ fm2
theorem scLawRatio : FnScope ["top", "bottom", "one", "other"] ["top", "bottom"] (defScope sLawRatio) := ⟨rfl, rfl, rfl, by decide +kernel, rfl, by decide +kernel, by decide +kernel⟩
theorem ok_law_ratio {f : Addr} {fd : FuncData} (F : Df K mg "_law_ratio" sLawRatio ["top", "bottom"] f fd) (T : Bt mg) : FnOk P w K mg base CX0 1 f fd ["top", "bottom"] spLowP := by
  refine F.F.ok scLawRatio (fun vs H Q E h => ?_) (fun cdv A outer s H vs Q E hr h => ?_)
  · obtain ⟨t, b, rfl, _⟩ := h
    rfl
  · obtain ⟨t, b, rfl, hb, h1, h2, k⟩ := h
    refine ⟨_, pss_cons (ps_par (i := 2) (j := 3) (by rfl) scLawRatio.nd rfl rfl (by decide) rfl rfl (pa_cons (pe_callB call_abs (by rfl) T.abs (by decide +kernel) (pa_cons (pv 0) pa_nil)) (pa_cons (pv 1) pa_nil)) (by rfl))
      (pss_cons (ps_while PassesOwn.never (pt_cmpR op_ne (pv 3) pe_int (nomark _)) (pss_one (ps_par (i := 2) (j := 3) (by rfl) scLawRatio.nd rfl rfl (by decide) rfl rfl (pa_cons (pv 3) (pa_cons (pe_op op_mod (pe_callTy call_int1 (by rfl) T.int (by decide +kernel) (pa_cons (pv 2) pa_nil)) (pv 3)) pa_nil)) (by rfl))))
      (pss_one (ps_ret (pe_tup (pa_cons (pe_op op_fdivX (pv 0) (pv 2)) (pa_cons (pe_op op_fdivX (pv 1) (pv 2)) pa_nil)))))), ?_⟩
    refine ⟨_, rfl, t, rfl, _, rfl, _, _, rfl, ?_⟩
    have ha : (if t < 0 then -t else t) = ((t.natAbs : Nat) : Int) := by split <;> omega
    refine while_by (fun σ H' => H' = H ∧ ∃ a c : Int, σ = [some (.int t), some (.int b), some (.int a), some (.int c)] ∧ 0 ≤ a ∧ 0 ≤ c ∧ Int.gcd a c = Int.gcd t b) (fun σ _ => match σ with | [_, _, _, some (.int c)] => c.natAbs | _ => 0) ?_ ?_ ?_
    · refine ⟨rfl, _, b, rfl, ?_, Int.le_of_lt hb, ?_⟩
      · rw [ha]; omega
      · rw [ha]
        show Nat.gcd ((t.natAbs : Nat) : Int).natAbs b.natAbs = Nat.gcd t.natAbs b.natAbs
        rw [Int.natAbs_natCast]
    · rintro σ H' ⟨rfl, a, c, rfl, a0, c0, e⟩
      refine ⟨_, rfl, rfl, _, rfl, ?_⟩
      by_cases hc : c = 0
      · subst hc
        refine iteNS rfl ?_
        have hg : a = cm t b := by
          have e2 : cm t b = (Int.gcd t b : Int) := if_neg (by omega)
          rw [e2, ← e, Int.gcd_zero_right]
          omega
        subst hg
        have hcn := cm_ne (t := t) (b := b) (by omega)
        have hz : (cm t b).natAbs.log2 < 9000 := by
          rw [cm_abs]
          have : Int.gcd t b ≤ b.natAbs := Nat.le_of_dvd (by omega) (Nat.gcd_dvd_right _ _)
          exact Nat.lt_of_lt_of_le (PySem.Flt.log2_lt_of (by decide) (Nat.lt_of_le_of_lt this h2)) (by decide)
        exact ⟨_, rfl, _, rfl, _, _, rfl, rfl, ⟨hcn, hz⟩, _, rfl, _, rfl, _, _, rfl, rfl, ⟨hcn, hz⟩, (by show 2 ≤ sizeLine; decide), fun p hp => k p hp⟩
      · rw [decide_eq_false (fun h => hc (by injection h))]
        refine iteT ?_
        have c1 : 0 < c := by omega
        refine ⟨_, rfl, _, rfl, .inl ⟨_, rfl, _, rfl, _, _, rfl, rfl, c1, _, _, rfl, ?_⟩⟩
        have m0 := Int.emod_nonneg a (by omega : c ≠ 0)
        have m1 := Int.emod_lt_of_pos a c1
        refine ⟨⟨rfl, c, a % c, rfl, c0, m0, ?_⟩, ?_⟩
        · rw [euclid_step a0 c1]; exact e
        · show (a % c).natAbs < c.natAbs
          omega
    · exact fun σ H' Q Q' i ⟨v, e, sc, kk, ek, q⟩ => ⟨v, e, sc, kk, ek, i _ _ q⟩
theorem scLawPlus : FnScope ["one", "other"] ["one", "other"] (defScope sLawPlus) := ⟨rfl, rfl, rfl, by decide +kernel, rfl, by decide +kernel, by decide +kernel⟩
theorem ok_law_plus {f fl : Addr} {fd fdl : FuncData} (F : Df K mg "_law_plus" sLawPlus ["one", "other"] f fd) (L : Df K mg "_law_ratio" sLawRatio ["top", "bottom"] fl fdl) (T : Bt mg) : FnOk P w K mg base CX0 2 f fd ["one", "other"] (spF2 K (fun _ _ => True) fadd) := by
  have G : FnOk P w K mg base CX0 1 fl fdl ["top", "bottom"] spLowP := ok_law_ratio L T
  refine F.F.ok scLawPlus (fun vs H Q E h => ?_) (fun cdv A outer s H vs Q E hr h => ?_)
  · obtain ⟨p, q, x, y, rfl, _⟩ := h
    rfl
  · obtain ⟨p, q, x, y, rfl, hp, hq, hx, hy, zx, zy, ok, k⟩ := h
    refine ⟨_, pss_one (ps_ret (pe_call G hr (by rfl) L.g L.F.kp L.b .nil pass0 (pa_cons (pe_op op_add (pe_op op_mulW (pe_fst 0) (pe_snd 1)) (pe_op op_mulW (pe_fst 1) (pe_snd 0))) (pa_cons (pe_op op_mulW (pe_snd 0) (pe_snd 1)) pa_nil)))), ?_⟩
    refine ⟨p, x, rfl, hp, q, y, rfl, hq, _, _, rfl, rfl, cmw zx.1 zy.2, q, y, rfl, hq, p, x, rfl, hp, _, _, rfl, rfl, cmw zy.1 zx.2, _, _, rfl, rfl, p, x, rfl, hp, q, y, rfl, hq, _, _, rfl, rfl, cmw zx.2 zy.2, _, _, rfl, dd0 hx hy, lt_up (abs_add_lt (abs_mul_lt zx.1 zy.2) (abs_mul_lt zy.1 zx.2)) (by decide), lt_up (abs_mul_lt zx.2 zy.2) (by decide), k⟩
theorem scLawLess : FnScope ["one", "other"] ["one", "other"] (defScope sLawLess) := ⟨rfl, rfl, rfl, by decide +kernel, rfl, by decide +kernel, by decide +kernel⟩
theorem ok_law_less {f fl : Addr} {fd fdl : FuncData} (F : Df K mg "_law_less" sLawLess ["one", "other"] f fd) (L : Df K mg "_law_ratio" sLawRatio ["top", "bottom"] fl fdl) (T : Bt mg) : FnOk P w K mg base CX0 2 f fd ["one", "other"] (spF2 K (fun _ _ => True) fsub) := by
  have G : FnOk P w K mg base CX0 1 fl fdl ["top", "bottom"] spLowP := ok_law_ratio L T
  refine F.F.ok scLawLess (fun vs H Q E h => ?_) (fun cdv A outer s H vs Q E hr h => ?_)
  · obtain ⟨p, q, x, y, rfl, _⟩ := h
    rfl
  · obtain ⟨p, q, x, y, rfl, hp, hq, hx, hy, zx, zy, ok, k⟩ := h
    refine ⟨_, pss_one (ps_ret (pe_call G hr (by rfl) L.g L.F.kp L.b .nil pass0 (pa_cons (pe_op op_sub (pe_op op_mulW (pe_fst 0) (pe_snd 1)) (pe_op op_mulW (pe_fst 1) (pe_snd 0))) (pa_cons (pe_op op_mulW (pe_snd 0) (pe_snd 1)) pa_nil)))), ?_⟩
    refine ⟨p, x, rfl, hp, q, y, rfl, hq, _, _, rfl, rfl, cmw zx.1 zy.2, q, y, rfl, hq, p, x, rfl, hp, _, _, rfl, rfl, cmw zy.1 zx.2, _, _, rfl, rfl, p, x, rfl, hp, q, y, rfl, hq, _, _, rfl, rfl, cmw zx.2 zy.2, _, _, rfl, dd0 hx hy, lt_up (abs_sub_lt (abs_mul_lt zx.1 zy.2) (abs_mul_lt zy.1 zx.2)) (by decide), lt_up (abs_mul_lt zx.2 zy.2) (by decide), k⟩
theorem scLawTimes : FnScope ["one", "other"] ["one", "other"] (defScope sLawTimes) := ⟨rfl, rfl, rfl, by decide +kernel, rfl, by decide +kernel, by decide +kernel⟩
theorem ok_law_times {f fl : Addr} {fd fdl : FuncData} (F : Df K mg "_law_times" sLawTimes ["one", "other"] f fd) (L : Df K mg "_law_ratio" sLawRatio ["top", "bottom"] fl fdl) (T : Bt mg) : FnOk P w K mg base CX0 2 f fd ["one", "other"] (spF2 K (fun _ _ => True) fmul) := by
  have G : FnOk P w K mg base CX0 1 fl fdl ["top", "bottom"] spLowP := ok_law_ratio L T
  refine F.F.ok scLawTimes (fun vs H Q E h => ?_) (fun cdv A outer s H vs Q E hr h => ?_)
  · obtain ⟨p, q, x, y, rfl, _⟩ := h
    rfl
  · obtain ⟨p, q, x, y, rfl, hp, hq, hx, hy, zx, zy, ok, k⟩ := h
    refine ⟨_, pss_one (ps_ret (pe_call G hr (by rfl) L.g L.F.kp L.b .nil pass0 (pa_cons (pe_op op_mulW (pe_fst 0) (pe_fst 1)) (pa_cons (pe_op op_mulW (pe_snd 0) (pe_snd 1)) pa_nil)))), ?_⟩
    refine ⟨p, x, rfl, hp, q, y, rfl, hq, _, _, rfl, rfl, cmw zx.1 zy.1, p, x, rfl, hp, q, y, rfl, hq, _, _, rfl, rfl, cmw zx.2 zy.2, _, _, rfl, dd0 hx hy, lt_up (abs_mul_lt zx.1 zy.1) (by decide), lt_up (abs_mul_lt zx.2 zy.2) (by decide), k⟩
end
end CS
set_option Elab.async false
set_option maxRecDepth 100000
set_option maxHeartbeats 8000000
set_option linter.unusedVariables false
namespace CS
open PySem L2
section
variable {P : Program} {w : World} {K : PySem.W.Frag} {mg : Str → Option Value} {base : Heap}
theorem scScaled : FnScope ["fraction", "by"] ["fraction", "by"] (defScope sScaled) := ⟨rfl, rfl, rfl, by decide +kernel, rfl, by decide +kernel, by decide +kernel⟩
theorem ok_scaled {f fl : Addr} {fd fdl : FuncData} (F : Df K mg "scaled" sScaled ["fraction", "by"] f fd) (L : Df K mg "lowered" sLowered ["top", "bottom"] fl fdl) (T : Bt mg) : FnOk P w K mg base CX0 2 f fd ["fraction", "by"] (spScaled K) := by
  have G : FnOk P w K mg base CX0 1 fl fdl ["top", "bottom"] spLow := ok_lowered L T
  refine F.F.ok scScaled (fun vs H Q E h => ?_) (fun cdv A outer s H vs Q E hr h => ?_)
  · obtain ⟨p, x, k, rfl, _⟩ := h
    rfl
  · obtain ⟨p, x, k, rfl, hp, hx, zx, hk, q⟩ := h
    have hk2 : k.natAbs < 2 ^ 1900 := lt_up hk (by decide)
    refine ⟨_, pss_one (ps_ret (pe_call G hr (by rfl) L.g L.F.kp L.b .nil pass0 (pa_cons (pe_op op_mulW (pe_fst 0) (pv 1)) (pa_cons (pe_snd 0) pa_nil)))), ?_⟩
    exact ⟨p, x, rfl, hp, _, rfl, _, _, rfl, rfl, cmw zx.1 hk2, p, x, rfl, hp, _, _, rfl, hx.ne, lt_up (abs_mul_lt zx.1 hk2) (by decide), lt_up zx.2 (by decide), q⟩
theorem scSumOf : FnScope ["fractions", "whole", "fraction"] ["fractions"] (defScope sSumOf) := ⟨rfl, rfl, rfl, by decide +kernel, rfl, by decide +kernel, by decide +kernel⟩
theorem ok_sum_of {f f1 aN : Addr} {fd fd1 : FuncData} (F : Df K mg "sum_of" sSumOf ["fractions"] f fd) (D1 : Df K mg "added" sAdded ["one", "other"] f1 fd1) (G1 : FnOk P w K mg base CX0 2 f1 fd1 ["one", "other"] (spF2 K (fun _ _ => True) fadd)) (gN : mg "NOUGHT" = some (.ref aN)) (hN : ∀ H, FT K H aN (0, 1)) : FnOk P w K mg base CX0 3 f fd ["fractions"] (spSum K) := by
  refine F.F.ok scSumOf (fun vs H Q E h => ?_) (fun cdv A outer s H vs Q E hr h => ?_)
  · obtain ⟨a, ws, xs, rfl, _⟩ := h
    rfl
  · obtain ⟨a, ws, xs, rfl, hS, hF, hx, hlen, k⟩ := h
    refine ⟨_, pss_cons (ps_set (i := 1) scSumOf.nd rfl (Or.inl rfl) (pe_glob (v := .ref aN) (by rfl) gN rfl))
      (pss_cons (ps_for PassesOwn.never rfl (pi_list (pv 0)) (pg_name (i := 2) scSumOf.nd rfl (Or.inl rfl)) (pss_one (ps_set (i := 1) scSumOf.nd rfl (Or.inl rfl) (pe_call G1 hr (by rfl) D1.g D1.F.kp D1.b .nil pass0 (pa_cons (pv 1) (pa_cons (pv 2) pa_nil))))))
      (pss_one (ps_ret (pv 1)))), ?_⟩
    refine ⟨_, rfl, a, rfl, ⟨_, hS⟩, for_list (K := K) (a := a) (xs := ws) (fun i σ H' => ∃ p v, σ = [some (.ref a), some (.ref p), v] ∧ Same H H' ∧ FT K H' p ((xs.take i).foldl fadd (0, 1))) ⟨aN, none, rfl, Same.refl H, hN H⟩ (fun i σ H' _ ⟨_, _, _, s, _⟩ => s.seq hS) ?_ ?_⟩
    · rintro i v σ H' hi ⟨p, u, rfl, s1, hp⟩
      obtain ⟨r, x, rfl, hxi, hr'⟩ := hF.get hi
      have hi2 : i < xs.length := (List.getElem?_eq_some_iff.mp hxi).1
      have hxm := hx x (List.mem_of_getElem? hxi)
      have hz : Sz 1900 ((xs.take i).foldl fadd (0, 1)) := by
        refine (fold_sz 100 (xs.take i) (0, 1) 1 fr01 (sz01 (by decide)) fun y hy => hx y (List.mem_of_mem_take hy)).up ?_
        rw [List.length_take]
        omega
      have hf : Fr ((xs.take i).foldl fadd (0, 1)) := fold_fr _ _ fr01 fun y hy => (hx y (List.mem_of_mem_take hy)).1
      refine ⟨_, rfl, _, rfl, p, r, _, x, rfl, hp, s1.tup hr', hf, hxm.1, hz, hxm.2.up (by decide), trivial, fun q hq => ?_⟩
      refine ⟨q, _, rfl, s1.trans (Same.new hq), ?_⟩
      rw [take_snoc hxi, List.foldl_append]
      exact FT.new
    · rintro σ H' ⟨p, u, rfl, s1, hp⟩
      rw [hF.len, List.take_length] at hp
      exact ⟨_, rfl, k _ _ s1 hp⟩
end
end CS
set_option Elab.async false
set_option maxRecDepth 100000
set_option maxHeartbeats 8000000
set_option linter.unusedVariables false
namespace CS
open PySem L2
section
variable {P : Program} {w : World} {K : PySem.W.Frag} {mg : Str → Option Value} {base : Heap}
theorem dget_or {H : Hp} {d aN : Addr} {kvs : List (Key × V)} {f : List (Int × Fx)} (hd : H d = some (.dK kvs)) (hD : DPr K H kvs f) (hN : FT K H aN (0, 1)) (k : Int) : ∃ (o : Option V) (r : Addr), DGet H d (.int k) o ∧ o.getD (.ref aN) = .ref r ∧ FT K H r (lk f k) := by
  by_cases hm : k ∈ f.map (·.1)
  · obtain ⟨r, h1, h2⟩ := hD.val k hm
    refine ⟨some (.ref r), r, ?_, rfl, h2⟩
    rw [← h1]
    exact DGet.k (k := Sum.inl k) hd
  · have h1 := hD.non k hm
    refine ⟨none, aN, ?_, rfl, ?_⟩
    · rw [← h1]
      exact DGet.k (k := Sum.inl k) hd
    · rw [lk_none hm]
      exact hN
def spGatT (K : PySem.W.Frag) : Sp := fun vs H Q _ => ∃ p ws xs, vs = [.ref p] ∧ SqT K H p ws ∧ PrsAt K H ws xs ∧ AllF 90 xs ∧ xs.length ≤ 16 ∧ ∀ H' r ys, Same H H' → ShAt K H' r ys → IsS (gat [] xs) ys → Q (.ref r) H'
def spGatL (K : PySem.W.Frag) : Sp := fun vs H Q _ => ∃ p ws xs, vs = [.ref p] ∧ SqL K H p ws ∧ PrsAt K H ws xs ∧ AllF 90 xs ∧ xs.length ≤ 16 ∧ ∀ H' r ys, Same H H' → ShAt K H' r ys → IsS (gat [] xs) ys → Q (.ref r) H'
theorem scGathered : FnScope ["pairs", "sums", "key", "fraction"] ["pairs"] (defScope sGathered) := ⟨rfl, rfl, rfl, by decide +kernel, rfl, by decide +kernel, by decide +kernel⟩
theorem ok_gatheredT {f f1 aN : Addr} {fd fd1 : FuncData} (F : Df K mg "gathered" sGathered ["pairs"] f fd) (D1 : Df K mg "added" sAdded ["one", "other"] f1 fd1) (G1 : FnOk P w K mg base CX0 2 f1 fd1 ["one", "other"] (spF2 K (fun _ _ => True) fadd)) (gN : mg "NOUGHT" = some (.ref aN)) (hN : ∀ H, FT K H aN (0, 1)) (T : Bt mg) : FnOk P w K mg base CX0 3 f fd ["pairs"] (spGatT K) := by
  refine F.F.ok scGathered (fun vs H Q E h => ?_) (fun cdv A outer s H vs Q E hr h => ?_)
  · obtain ⟨p, ws, xs, rfl, _⟩ := h
    rfl
  · obtain ⟨p, ws, xs, rfl, hp, hP, hx, hlen, k⟩ := h
    have hu := hu_of hr
    refine ⟨_, pss_cons (ps_set (i := 1) scGathered.nd rfl (Or.inr rfl) pe_dnewK)
      (pss_cons (ps_for PassesOwn.never rfl (pi_tup (pv 0)) (pg_tup rfl (pgs_cons (pg_name (i := 2) scGathered.nd rfl (Or.inl rfl)) (pgs_cons (pg_name (i := 3) scGathered.nd rfl (Or.inl rfl)) pgs_nil))) (pss_one (ps_dput hu (pv 1) (pv 2) (pe_call G1 hr (by rfl) D1.g D1.F.kp D1.b .nil pass0 (pa_cons (pe_dget2 hu (pv 1) (pv 2) (pe_glob (v := .ref aN) (by rfl) gN rfl) ⟨rfl, rfl, rfl, rfl⟩) (pa_cons (pv 3) pa_nil))) rfl)))
      (pss_one (ps_ret (pe_callTy call_tuple_of (by rfl) T.tuple (by decide +kernel) (pa_cons (pe_lc (own := [("key", 2)]) (g := gName 2) (tt := tTest (tOp (rNeD K) (tDGet (tVar 1) (tVar 2)) (tC (.ref aN)))) rfl scGathered.nd (pi_list (pe_callB (call_sortedDI rfl) (by rfl) T.sorted (by decide +kernel) (pa_cons (pv 1) pa_nil))) (blkOk_by (N := ["pairs", "sums", "key", "fraction"]) (sc := defScope sGathered) (by decide +kernel)) (fun _ _ _ _ _ => pg_name (i := 2) scGathered.nd rfl (Or.inl rfl)) (fun _ _ _ _ _ => pts_one (pt_cmpR (op_neD hr.units) (pe_dget hu (pv 1) (pv 2) (fun _ _ => rfl)) (pe_glob (v := .ref aN) (by rfl) gN rfl) (nomark _))) (fun _ _ _ _ _ => pe_tup (pa_cons (pv 2) (pa_cons (pe_dget hu (pv 1) (pv 2) (fun _ _ => rfl)) pa_nil)))) pa_nil))))), ?_⟩
    intro d hd
    have s0 : Same H (upd H d (.dK [])) := Same.new hd
    refine ⟨_, rfl, p, rfl, ⟨_, (fun s1 : Same H _ => s1.tup hp) s0⟩, for_tup (K := K) (a := p) (xs := ws) (fun i σ H' => ∃ u v kvs, σ = [some (.ref p), some (.ref d), u, v] ∧ Same H H' ∧ H' d = some (.dK kvs) ∧ DPr K H' kvs (gat [] (xs.take i))) ⟨none, none, [], rfl, s0, upd_same, .nil⟩ (fun i σ H' _ ⟨_, _, _, _, s1, _⟩ => s1.tup hp) ?_ ?_⟩
    · rintro i v σ H' hi ⟨u1, u2, kvs, rfl, s1, hdk, hD⟩
      obtain ⟨q, r, m, x, rfl, hxi, hq, hr'⟩ := hP.get hi
      have hi2 : i < xs.length := (List.getElem?_eq_some_iff.mp hxi).1
      have hxm := hx _ (List.mem_of_getElem? hxi)
      refine ⟨q, _, rfl, s1.tup hq, rfl, _, _, rfl, _, _, rfl, rfl, ?_⟩
      obtain ⟨o, a, g1, g2, g3⟩ := dget_or hdk hD (hN H') m
      have hz : Sz 1900 (lk (gat [] (xs.take i)) m) := by
        refine (gat_sz (n := 90) hx.take m).up ?_
        rw [List.length_take]
        omega
      refine ⟨_, rfl, d, rfl, .inl ⟨kvs, .inl hdk⟩, _, rfl, o, g1, ?_⟩
      rw [g2]
      refine ⟨_, rfl, a, r, _, x, rfl, g3, s1.tup hr', gat_fr (n := 90) hx.take m, hxm.1, hz, hxm.2.up (by decide), trivial, fun t ht => ?_⟩
      have k1 := Same.new (o := .tup [.int (fadd (lk (gat [] (xs.take i)) m) x).1, .int (fadd (lk (gat [] (xs.take i)) m) x).2]) ht
      have hl : kvs.length < sizeLine := by
        refine small1000 ?_
        rw [hD.len]
        have := gat_len (xs.take i) []
        rw [List.length_take, List.length_nil] at this
        omega
      refine ⟨_, rfl, _, rfl, d, _, rfl, DPut.k (k := Sum.inl m) (k1 _ _ hdk) hl, ?_⟩
      refine ⟨_, _, _, rfl, same_upd hd (s1.trans k1), upd_same, ?_⟩
      rw [take_snoc hxi, gat_snoc]
      have hn := gat_nodup (xs.take i) [] List.nodup_nil
      exact ((hD.tk (tk_same k1)).put hn FT.new).tk (tk_dk (k1 _ _ hdk))
    · rintro σ H1 ⟨u1, u2, kvs, rfl, s1, hdk, hD⟩
      rw [hP.len, List.take_length] at hD
      have hn := gat_nodup xs [] List.nodup_nil
      have hl : ((gat [] xs).map (·.1)).length < 64 := by
        have := gat_len xs []
        rw [List.length_nil] at this
        rw [List.length_map]
        omega
      refine ⟨_, rfl, d, kvs, (gat [] xs).map (·.1), rfl, .inl hdk, hD.keys, hl, fun ys t perm srt ht => ?_⟩
      have k1 := Same.new (o := .lst (ys.map V.int)) ht
      have hlen2 : ys.length ≤ 16 := by
        rw [perm.length_eq, List.length_map]
        have := gat_len xs []
        rw [List.length_nil] at this
        omega
      have hT : (upd H1 t (.lst (ys.map V.int))) t = some (.lst (ys.map V.int)) := upd_same
      have hD2 := hD.tk (tk_same k1)
      have hdk2 := k1 _ _ hdk
      have s2 := s1.trans k1
      generalize upd H1 t (.lst (ys.map V.int)) = H2 at *
      refine ⟨t, rfl, ⟨_, SqL.of hT⟩, fun D hDn => lc_list (K := K) (a := t) (xs := ys.map V.int) (fun i H' => LcP K H2 D ((((ys.take i).filter fun k => decide (lk (gat [] xs) k ≠ (0, 1))).map fun k => (k, lk (gat [] xs) k))) H') (LcP.start hDn) (fun i H' _ ⟨_, _, s3, _⟩ => SqL.of (s3 _ _ hT)) ?_ ?_⟩
      · rintro i v H' hi ⟨us, h1, s3, hf⟩
        rw [List.getElem?_map] at hi
        obtain ⟨m, hmi, rfl⟩ : ∃ m, ys[i]? = some m ∧ v = V.int m := by
          cases e : ys[i]? with
          | none => rw [e] at hi; cases hi
          | some z => rw [e] at hi; exact ⟨z, rfl, (Option.some.inj hi).symm⟩
        have hmem : m ∈ (gat [] xs).map (·.1) := perm.mem_iff.mp (List.mem_of_getElem? hmi)
        obtain ⟨r, g1, g2⟩ := (hD2.tk (tk_same s3)).val m hmem
        have hg : DGet H' d (.int m) (some (.ref r)) := by
          rw [← g1]
          exact DGet.k (k := Sum.inl m) (s3 _ _ hdk2)
        refine ⟨rfl, ?_⟩
        refine ⟨_, rfl, _, rfl, d, _, rfl, hg, ?_⟩
        refine ⟨frD (lk (gat [] xs) m), frD (0, 1), ftDp g2, ftDp (hN _), rfl, rfl, _, rfl, ?_⟩
        dsimp only
        rw [eqvFr]
        have hsz : us.length ≤ 1000 := by
          rw [hf.len, List.length_map]
          have := List.length_filter_le (fun k => decide (lk (gat [] xs) k ≠ (0, 1))) (ys.take i)
          rw [List.length_take] at this
          omega
        by_cases hc : lk (gat [] xs) m = (0, 1)
        · rw [if_neg (by simp [hc])]
          show LcP K H2 D _ _
          rw [take_snoc hmi, List.filter_append, List.map_append, List.filter_cons_of_neg (by simp [hc])]
          show LcP K H2 D (_ ++ []) _
          rw [List.append_nil]
          exact ⟨us, h1, s3, hf⟩
        · rw [if_pos (by simp [hc])]
          refine ⟨_, rfl, _, rfl, _, rfl, d, _, rfl, hg, (by show 2 ≤ sizeLine; decide), fun t2 ht2 => ?_⟩
          have k2 := Same.new (o := .tup [V.int m, .ref r]) ht2
          refine ⟨us, k2 _ _ h1, small1000 hsz, ?_⟩
          show LcP K H2 D _ _
          rw [take_snoc hmi, List.filter_append, List.map_append, List.filter_cons_of_pos (by simp [hc])]
          exact LcP.step hDn (k2 _ _ h1) (s3.trans k2) (hf.tk (tk_same k2)) (SqT.of upd_same) (k2.tup g2)
      · rintro H' ⟨us, h1, s3, hf⟩
        rw [List.length_map, List.take_length] at hf
        refine ⟨D, us, rfl, .inl ⟨SqL.of h1, fun l hl => ?_⟩⟩
        have k3 := Same.new (o := .tup us) hl
        exact k _ l _ (s2.trans (s3.trans k3)) ⟨us, SqT.of upd_same, hf.tk (tk_same k3)⟩ (isS_of perm hn srt)
theorem ok_gatheredL {f f1 aN : Addr} {fd fd1 : FuncData} (F : Df K mg "gathered" sGathered ["pairs"] f fd) (D1 : Df K mg "added" sAdded ["one", "other"] f1 fd1) (G1 : FnOk P w K mg base CX0 2 f1 fd1 ["one", "other"] (spF2 K (fun _ _ => True) fadd)) (gN : mg "NOUGHT" = some (.ref aN)) (hN : ∀ H, FT K H aN (0, 1)) (T : Bt mg) : FnOk P w K mg base CX0 3 f fd ["pairs"] (spGatL K) := by
  refine F.F.ok scGathered (fun vs H Q E h => ?_) (fun cdv A outer s H vs Q E hr h => ?_)
  · obtain ⟨p, ws, xs, rfl, _⟩ := h
    rfl
  · obtain ⟨p, ws, xs, rfl, hp, hP, hx, hlen, k⟩ := h
    have hu := hu_of hr
    refine ⟨_, pss_cons (ps_set (i := 1) scGathered.nd rfl (Or.inr rfl) pe_dnewK)
      (pss_cons (ps_for PassesOwn.never rfl (pi_list (pv 0)) (pg_tup rfl (pgs_cons (pg_name (i := 2) scGathered.nd rfl (Or.inl rfl)) (pgs_cons (pg_name (i := 3) scGathered.nd rfl (Or.inl rfl)) pgs_nil))) (pss_one (ps_dput hu (pv 1) (pv 2) (pe_call G1 hr (by rfl) D1.g D1.F.kp D1.b .nil pass0 (pa_cons (pe_dget2 hu (pv 1) (pv 2) (pe_glob (v := .ref aN) (by rfl) gN rfl) ⟨rfl, rfl, rfl, rfl⟩) (pa_cons (pv 3) pa_nil))) rfl)))
      (pss_one (ps_ret (pe_callTy call_tuple_of (by rfl) T.tuple (by decide +kernel) (pa_cons (pe_lc (own := [("key", 2)]) (g := gName 2) (tt := tTest (tOp (rNeD K) (tDGet (tVar 1) (tVar 2)) (tC (.ref aN)))) rfl scGathered.nd (pi_list (pe_callB (call_sortedDI rfl) (by rfl) T.sorted (by decide +kernel) (pa_cons (pv 1) pa_nil))) (blkOk_by (N := ["pairs", "sums", "key", "fraction"]) (sc := defScope sGathered) (by decide +kernel)) (fun _ _ _ _ _ => pg_name (i := 2) scGathered.nd rfl (Or.inl rfl)) (fun _ _ _ _ _ => pts_one (pt_cmpR (op_neD hr.units) (pe_dget hu (pv 1) (pv 2) (fun _ _ => rfl)) (pe_glob (v := .ref aN) (by rfl) gN rfl) (nomark _))) (fun _ _ _ _ _ => pe_tup (pa_cons (pv 2) (pa_cons (pe_dget hu (pv 1) (pv 2) (fun _ _ => rfl)) pa_nil)))) pa_nil))))), ?_⟩
    intro d hd
    have s0 : Same H (upd H d (.dK [])) := Same.new hd
    refine ⟨_, rfl, p, rfl, ⟨_, (fun s1 : Same H _ => s1.seq hp) s0⟩, for_list (K := K) (a := p) (xs := ws) (fun i σ H' => ∃ u v kvs, σ = [some (.ref p), some (.ref d), u, v] ∧ Same H H' ∧ H' d = some (.dK kvs) ∧ DPr K H' kvs (gat [] (xs.take i))) ⟨none, none, [], rfl, s0, upd_same, .nil⟩ (fun i σ H' _ ⟨_, _, _, _, s1, _⟩ => s1.seq hp) ?_ ?_⟩
    · rintro i v σ H' hi ⟨u1, u2, kvs, rfl, s1, hdk, hD⟩
      obtain ⟨q, r, m, x, rfl, hxi, hq, hr'⟩ := hP.get hi
      have hi2 : i < xs.length := (List.getElem?_eq_some_iff.mp hxi).1
      have hxm := hx _ (List.mem_of_getElem? hxi)
      refine ⟨q, _, rfl, s1.tup hq, rfl, _, _, rfl, _, _, rfl, rfl, ?_⟩
      obtain ⟨o, a, g1, g2, g3⟩ := dget_or hdk hD (hN H') m
      have hz : Sz 1900 (lk (gat [] (xs.take i)) m) := by
        refine (gat_sz (n := 90) hx.take m).up ?_
        rw [List.length_take]
        omega
      refine ⟨_, rfl, d, rfl, .inl ⟨kvs, .inl hdk⟩, _, rfl, o, g1, ?_⟩
      rw [g2]
      refine ⟨_, rfl, a, r, _, x, rfl, g3, s1.tup hr', gat_fr (n := 90) hx.take m, hxm.1, hz, hxm.2.up (by decide), trivial, fun t ht => ?_⟩
      have k1 := Same.new (o := .tup [.int (fadd (lk (gat [] (xs.take i)) m) x).1, .int (fadd (lk (gat [] (xs.take i)) m) x).2]) ht
      have hl : kvs.length < sizeLine := by
        refine small1000 ?_
        rw [hD.len]
        have := gat_len (xs.take i) []
        rw [List.length_take, List.length_nil] at this
        omega
      refine ⟨_, rfl, _, rfl, d, _, rfl, DPut.k (k := Sum.inl m) (k1 _ _ hdk) hl, ?_⟩
      refine ⟨_, _, _, rfl, same_upd hd (s1.trans k1), upd_same, ?_⟩
      rw [take_snoc hxi, gat_snoc]
      have hn := gat_nodup (xs.take i) [] List.nodup_nil
      exact ((hD.tk (tk_same k1)).put hn FT.new).tk (tk_dk (k1 _ _ hdk))
    · rintro σ H1 ⟨u1, u2, kvs, rfl, s1, hdk, hD⟩
      rw [hP.len, List.take_length] at hD
      have hn := gat_nodup xs [] List.nodup_nil
      have hl : ((gat [] xs).map (·.1)).length < 64 := by
        have := gat_len xs []
        rw [List.length_nil] at this
        rw [List.length_map]
        omega
      refine ⟨_, rfl, d, kvs, (gat [] xs).map (·.1), rfl, .inl hdk, hD.keys, hl, fun ys t perm srt ht => ?_⟩
      have k1 := Same.new (o := .lst (ys.map V.int)) ht
      have hlen2 : ys.length ≤ 16 := by
        rw [perm.length_eq, List.length_map]
        have := gat_len xs []
        rw [List.length_nil] at this
        omega
      have hT : (upd H1 t (.lst (ys.map V.int))) t = some (.lst (ys.map V.int)) := upd_same
      have hD2 := hD.tk (tk_same k1)
      have hdk2 := k1 _ _ hdk
      have s2 := s1.trans k1
      generalize upd H1 t (.lst (ys.map V.int)) = H2 at *
      refine ⟨t, rfl, ⟨_, SqL.of hT⟩, fun D hDn => lc_list (K := K) (a := t) (xs := ys.map V.int) (fun i H' => LcP K H2 D ((((ys.take i).filter fun k => decide (lk (gat [] xs) k ≠ (0, 1))).map fun k => (k, lk (gat [] xs) k))) H') (LcP.start hDn) (fun i H' _ ⟨_, _, s3, _⟩ => SqL.of (s3 _ _ hT)) ?_ ?_⟩
      · rintro i v H' hi ⟨us, h1, s3, hf⟩
        rw [List.getElem?_map] at hi
        obtain ⟨m, hmi, rfl⟩ : ∃ m, ys[i]? = some m ∧ v = V.int m := by
          cases e : ys[i]? with
          | none => rw [e] at hi; cases hi
          | some z => rw [e] at hi; exact ⟨z, rfl, (Option.some.inj hi).symm⟩
        have hmem : m ∈ (gat [] xs).map (·.1) := perm.mem_iff.mp (List.mem_of_getElem? hmi)
        obtain ⟨r, g1, g2⟩ := (hD2.tk (tk_same s3)).val m hmem
        have hg : DGet H' d (.int m) (some (.ref r)) := by
          rw [← g1]
          exact DGet.k (k := Sum.inl m) (s3 _ _ hdk2)
        refine ⟨rfl, ?_⟩
        refine ⟨_, rfl, _, rfl, d, _, rfl, hg, ?_⟩
        refine ⟨frD (lk (gat [] xs) m), frD (0, 1), ftDp g2, ftDp (hN _), rfl, rfl, _, rfl, ?_⟩
        dsimp only
        rw [eqvFr]
        have hsz : us.length ≤ 1000 := by
          rw [hf.len, List.length_map]
          have := List.length_filter_le (fun k => decide (lk (gat [] xs) k ≠ (0, 1))) (ys.take i)
          rw [List.length_take] at this
          omega
        by_cases hc : lk (gat [] xs) m = (0, 1)
        · rw [if_neg (by simp [hc])]
          show LcP K H2 D _ _
          rw [take_snoc hmi, List.filter_append, List.map_append, List.filter_cons_of_neg (by simp [hc])]
          show LcP K H2 D (_ ++ []) _
          rw [List.append_nil]
          exact ⟨us, h1, s3, hf⟩
        · rw [if_pos (by simp [hc])]
          refine ⟨_, rfl, _, rfl, _, rfl, d, _, rfl, hg, (by show 2 ≤ sizeLine; decide), fun t2 ht2 => ?_⟩
          have k2 := Same.new (o := .tup [V.int m, .ref r]) ht2
          refine ⟨us, k2 _ _ h1, small1000 hsz, ?_⟩
          show LcP K H2 D _ _
          rw [take_snoc hmi, List.filter_append, List.map_append, List.filter_cons_of_pos (by simp [hc])]
          exact LcP.step hDn (k2 _ _ h1) (s3.trans k2) (hf.tk (tk_same k2)) (SqT.of upd_same) (k2.tup g2)
      · rintro H' ⟨us, h1, s3, hf⟩
        rw [List.length_map, List.take_length] at hf
        refine ⟨D, us, rfl, .inl ⟨SqL.of h1, fun l hl => ?_⟩⟩
        have k3 := Same.new (o := .tup us) hl
        exact k _ l _ (s2.trans (s3.trans k3)) ⟨us, SqT.of upd_same, hf.tk (tk_same k3)⟩ (isS_of perm hn srt)
end
end CS
set_option Elab.async false
set_option maxRecDepth 100000
set_option maxHeartbeats 8000000
set_option linter.unusedVariables false
namespace CS
open PySem L2
section
variable {P : Program} {w : World} {K : PySem.W.Frag} {mg : Str → Option Value} {base : Heap}
def GoodP (a : Int × Fx) : Prop := -100 ≤ a.1 ∧ a.1 ≤ 100 ∧ Fr a.2 ∧ 0 < a.2.1
instance (a : Int × Fx) : Decidable (GoodP a) := by unfold GoodP; infer_instance
def spWW : Sp := fun vs H Q _ => ∃ i l m : Int, vs = [.int i, .int l, .int m] ∧ Q (.bl (decide (l ≤ i ∧ i ≤ m))) H
def spNum : Sp := fun vs H Q _ => ∃ i : Int, vs = [.int i] ∧ Q (.bl (decide (-100 ≤ i ∧ i ≤ 100))) H
def spWt (K : PySem.W.Frag) : Sp := fun vs H Q _ => ∃ p x, vs = [.ref p] ∧ FT K H p x ∧ Q (.bl (decide (Fr x ∧ 0 < x.1))) H
def spShP (K : PySem.W.Frag) : Sp := fun vs H Q _ => ∃ q r m x, vs = [.ref q] ∧ SqT K H q [.int m, .ref r] ∧ FT K H r x ∧ Q (.bl (decide (GoodP (m, x)))) H
def spAsc (K : PySem.W.Frag) : Sp := fun vs H Q _ => ∃ (a : Addr) (ns : List Int), vs = [.ref a] ∧ SqL K H a (ns.map V.int) ∧ ns.length ≤ 900 ∧ ∀ H', Same H H' → Q (.bl (decide (ns.Pairwise (· < ·)))) H'
def spIsSh (K : PySem.W.Frag) : Sp := fun vs H Q _ => ∃ p xs, vs = [.ref p] ∧ ShAt K H p xs ∧ xs.length ≤ 900 ∧ ∀ H', Same H H' → Q (.bl (decide (Shr xs))) H'
def spNeedSh (K : PySem.W.Frag) : Sp := fun vs H Q _ => ∃ p xs, vs = [.ref p] ∧ ShAt K H p xs ∧ Shr xs ∧ ∀ H', Same H H' → Q (.ref p) H'
def spNeedNum : Sp := fun vs H Q _ => ∃ i : Int, vs = [.int i] ∧ -100 ≤ i ∧ i ≤ 100 ∧ Q (.int i) H
def spTot (K : PySem.W.Frag) (f : List (Int × Fx) → Fx) : Sp := fun vs H Q _ => ∃ p xs, vs = [.ref p] ∧ ShAt K H p xs ∧ Shr xs ∧ AllF 90 xs ∧ ∀ H' r, Same H H' → FT K H' r (f xs) → Q (.ref r) H'
def spRest (K : PySem.W.Frag) : Sp := fun vs H Q _ => ∃ p xs k, vs = [.ref p, .int k] ∧ ShAt K H p xs ∧ Shr xs ∧ AllF 90 xs ∧ -100 ≤ k ∧ k ≤ 100 ∧ ∀ H' r, Same H H' → FT K H' r (frest xs k) → Q (.ref r) H'
theorem Shr.abs {xs : List (Int × Fx)} (h : Shr xs) : ∀ a ∈ xs, a.1.natAbs ≤ 200 := fun a ha => by
  have := h.2.1 a ha
  omega
theorem Shr.len {xs : List (Int × Fx)} (h : Shr xs) : xs.length ≤ 16 := by have := h.1; omega
theorem scIsWholeWithin : FnScope ["thing", "least", "most"] ["thing", "least", "most"] (defScope sIsWholeWithin) := ⟨rfl, rfl, rfl, by decide +kernel, rfl, by decide +kernel, by decide +kernel⟩
theorem ok_is_whole_within {f f1 : Addr} {fd fd1 : FuncData} (F : Df K mg "is_whole_within" sIsWholeWithin ["thing", "least", "most"] f fd) (D1 : Df K mg "is_whole" sIsWhole ["thing"] f1 fd1) (T : Bt mg) : FnOk P w K mg base CX0 2 f fd ["thing", "least", "most"] spWW := by
  have G1 : FnOk P w K mg base CX0 1 f1 fd1 ["thing"] (spWhole K) := ok_is_whole D1 T
  refine F.F.ok scIsWholeWithin (fun vs H Q E h => ?_) (fun cdv A outer s H vs Q E hr h => ?_)
  · obtain ⟨i, l, m, rfl, _⟩ := h
    rfl
  · obtain ⟨i, l, m, rfl, k⟩ := h
    refine ⟨_, pss_one (ps_ret (pe_and (pe_call G1 hr (by rfl) D1.g D1.F.kp D1.b .nil pass0 (pa_cons (pv 0) pa_nil)) (pe_and (pe_cmpR op_le (pv 1) (pv 0) (nomark _)) (pe_one (pe_cmpR op_le (pv 0) (pv 2) (nomark _)))))), ?_⟩
    refine ⟨_, rfl, _, rfl, _, rfl, iteT ?_⟩
    refine ⟨_, rfl, _, rfl, _, _, rfl, rfl, _, rfl, ?_⟩
    by_cases h1 : l ≤ i
    · rw [decide_eq_true h1]
      refine iteT ⟨_, rfl, _, rfl, _, _, rfl, rfl, ?_⟩
      have e : decide (i ≤ m) = decide (l ≤ i ∧ i ≤ m) := by simp [h1]
      rw [← e] at k
      exact k
    · rw [decide_eq_false h1]
      refine iteF ?_
      rw [decide_eq_false (fun h => h1 h.1)] at k
      exact k
theorem scIsNumber : FnScope ["thing"] ["thing"] (defScope sIsNumber) := ⟨rfl, rfl, rfl, by decide +kernel, rfl, by decide +kernel, by decide +kernel⟩
theorem ok_is_number {f f1 : Addr} {fd fd1 : FuncData} (F : Df K mg "is_number" sIsNumber ["thing"] f fd) (D1 : Df K mg "is_whole_within" sIsWholeWithin ["thing", "least", "most"] f1 fd1) (G1 : FnOk P w K mg base CX0 2 f1 fd1 ["thing", "least", "most"] spWW) : FnOk P w K mg base CX0 3 f fd ["thing"] spNum := by
  refine F.F.ok scIsNumber (fun vs H Q E h => ?_) (fun cdv A outer s H vs Q E hr h => ?_)
  · obtain ⟨i, rfl, _⟩ := h
    rfl
  · obtain ⟨i, rfl, k⟩ := h
    refine ⟨_, pss_one (ps_ret (pe_call G1 hr (by rfl) D1.g D1.F.kp D1.b .nil pass0 (pa_cons (pv 0) (pa_cons (pe_un un_neg pe_int) (pa_cons (pe_int) pa_nil))))), ?_⟩
    exact ⟨_, rfl, _, rfl, i, _, _, rfl, k⟩
theorem scIsWeight : FnScope ["thing"] ["thing"] (defScope sIsWeight) := ⟨rfl, rfl, rfl, by decide +kernel, rfl, by decide +kernel, by decide +kernel⟩
theorem ok_is_weight {f f1 : Addr} {fd fd1 : FuncData} (F : Df K mg "is_weight" sIsWeight ["thing"] f fd) (D1 : Df K mg "is_fraction" sIsFraction ["thing"] f1 fd1) (G1 : FnOk P w K mg base CX0 3 f1 fd1 ["thing"] (spIsFr K)) : FnOk P w K mg base CX0 4 f fd ["thing"] (spWt K) := by
  refine F.F.ok scIsWeight (fun vs H Q E h => ?_) (fun cdv A outer s H vs Q E hr h => ?_)
  · obtain ⟨p, x, rfl, _⟩ := h
    rfl
  · obtain ⟨p, x, rfl, hp, k⟩ := h
    refine ⟨_, pss_one (ps_ret (pe_and (pe_call G1 hr (by rfl) D1.g D1.F.kp D1.b .nil pass0 (pa_cons (pv 0) pa_nil)) (pe_one (pe_cmpR op_gt (pe_fst 0) pe_int (nomark _))))), ?_⟩
    refine ⟨_, rfl, p, x, rfl, hp, _, rfl, ?_⟩
    by_cases h1 : Fr x
    · rw [decide_eq_true h1]
      refine iteT ⟨p, x, rfl, hp, _, _, rfl, rfl, ?_⟩
      have e : decide (0 < x.1) = decide (Fr x ∧ 0 < x.1) := by simp [h1]
      rw [← e] at k
      exact k
    · rw [decide_eq_false h1]
      refine iteF ?_
      rw [decide_eq_false (fun h => h1 h.1)] at k
      exact k
theorem scIsSharePair : FnScope ["thing"] ["thing"] (defScope sIsSharePair) := ⟨rfl, rfl, rfl, by decide +kernel, rfl, by decide +kernel, by decide +kernel⟩
theorem ok_is_share_pair {f f1 f2 f3 : Addr} {fd fd1 fd2 fd3 : FuncData} (F : Df K mg "is_share_pair" sIsSharePair ["thing"] f fd) (D1 : Df K mg "is_row_of" sIsRowOf ["thing", "many"] f1 fd1) (G1 : FnOk P w K mg base CX0 2 f1 fd1 ["thing", "many"] (spRowOf K)) (D2 : Df K mg "is_number" sIsNumber ["thing"] f2 fd2) (G2 : FnOk P w K mg base CX0 3 f2 fd2 ["thing"] spNum)
    (D3 : Df K mg "is_weight" sIsWeight ["thing"] f3 fd3) (G3 : FnOk P w K mg base CX0 4 f3 fd3 ["thing"] (spWt K)) : FnOk P w K mg base CX0 5 f fd ["thing"] (spShP K) := by
  refine F.F.ok scIsSharePair (fun vs H Q E h => ?_) (fun cdv A outer s H vs Q E hr h => ?_)
  · obtain ⟨q, r, m, x, rfl, _⟩ := h
    rfl
  · obtain ⟨q, r, m, x, rfl, hq, hr2, k⟩ := h
    refine ⟨_, pss_one (ps_ret (pe_and (pe_call G1 (hr.mono (by decide)) (by rfl) D1.g D1.F.kp D1.b .nil pass0 (pa_cons (pv 0) (pa_cons (pe_int) pa_nil))) (pe_and (pe_call G2 (hr.mono (by decide)) (by rfl) D2.g D2.F.kp D2.b .nil pass0 (pa_cons (pe_ix ix_tup (pv 0) pe_int (fun _ _ => rfl)) pa_nil)) (pe_one (pe_call G3 hr (by rfl) D3.g D3.F.kp D3.b .nil pass0 (pa_cons (pe_ix ix_tup (pv 0) pe_int (fun _ _ => rfl)) pa_nil)))))), ?_⟩
    refine ⟨_, rfl, q, _, 2, rfl, hq, _, rfl, iteT ?_⟩
    refine ⟨_, rfl, q, _, 0, .int m, rfl, rfl, hq, atI_nat (j := 0) rfl, m, rfl, _, rfl, ?_⟩
    by_cases h1 : -100 ≤ m ∧ m ≤ 100
    · rw [decide_eq_true h1]
      refine iteT ⟨_, rfl, q, _, 1, .ref r, rfl, rfl, hq, atI_nat (j := 1) rfl, r, x, rfl, hr2, ?_⟩
      have e : decide (Fr x ∧ 0 < x.1) = decide (GoodP (m, x)) := by simp [GoodP, h1]
      rw [← e] at k
      exact k
    · rw [decide_eq_false h1]
      refine iteF ?_
      rw [decide_eq_false (fun h : GoodP (m, x) => h1 ⟨h.1, h.2.1⟩)] at k
      exact k
theorem cut1 (xs : List V) : cutV xs (some 1) none = xs.drop 1 := by
  unfold cutV
  have e1 : HT.sIx xs.length 0 (some 1) = min 1 xs.length := HT.sIx_nat xs.length 0 1
  rw [e1, HT.sIx_none]
  cases xs with
  | nil => rfl
  | cons a t =>
    have : min 1 (a :: t).length = 1 := by simp
    rw [this]
    simp
theorem scAscends : FnScope ["things", "low", "high"] ["things"] (defScope sAscends) := ⟨rfl, rfl, rfl, by decide +kernel, rfl, by decide +kernel, by decide +kernel⟩
theorem ok_ascends {f : Addr} {fd : FuncData} (F : Df K mg "ascends" sAscends ["things"] f fd) (T : Bt mg) : FnOk P w K mg base CX0 1 f fd ["things"] (spAsc K) := by
  refine F.F.ok scAscends (fun vs H Q E h => ?_) (fun cdv A outer s H vs Q E hr h => ?_)
  · obtain ⟨a, ns, rfl, _⟩ := h
    rfl
  · obtain ⟨a, ns, rfl, hS, hlen, k⟩ := h
    refine ⟨_, pss_one (ps_ret (pe_callB (cr_all rfl) (by rfl) T.all (by decide +kernel) (pa_cons (pe_lc (own := [("low", 1), ("high", 2)]) (g := gTup K 2 (gCons (gName 1) (gCons (gName 2) gNil))) (tt := tYes) rfl scAscends.nd (pi_zip (by rfl) T.zip (pa_cons (pv 0) (pa_cons (pe_slice sl_list (pv 0) (po_some pe_int) po_none) pa_nil))) (blkOk_by (N := ["things", "low", "high"]) (sc := defScope sAscends) (by decide +kernel)) (fun _ _ _ _ _ => pg_tup rfl (pgs_cons (pg_name (i := 1) scAscends.nd rfl (Or.inl rfl)) (pgs_cons (pg_name (i := 2) scAscends.nd rfl (Or.inl rfl)) pgs_nil))) (fun _ _ _ _ _ => pts_nil) (fun _ _ _ _ _ => pe_cmpR op_lt (pv 1) (pv 2) (nomark _))) pa_nil))), ?_⟩
    refine ⟨_, rfl, _, rfl, _, rfl, a, _, rfl, hS, fun b hb => ?_⟩
    rw [cut1]
    have k1 := Same.new (o := .lst ((ns.map V.int).drop 1)) hb
    have hB : (upd H b (.lst ((ns.map V.int).drop 1))) b = some (.lst ((ns.map V.int).drop 1)) := upd_same
    have hS1 := k1.seq hS
    generalize upd H b (.lst ((ns.map V.int).drop 1)) = H1 at *
    refine ⟨a, b, _, _, rfl, hS1, SqL.of hB, fun D hD => lc_it (walk_zip (xs := ns.map V.int) (ys := (ns.map V.int).drop 1) (n := ns.length - 1) (by simp)) (fun i H' => H' D = some (.lst (((List.zipWith (fun a b => decide (a < b)) ns (ns.drop 1)).take i).map V.bl)) ∧ Same H1 H') ⟨upd_same, Same.new hD⟩ (fun i H' _ ⟨_, s1⟩ => ⟨s1.seq hS1, SqL.of (s1 _ _ hB)⟩) ?_ ?_⟩
    · rintro i v H2 H3 hi ⟨h1, s1⟩ ⟨t, x, y, rfl, ht, rfl, hx, hy⟩
      have e1 : ns[i]? = some (ns[i]'(by omega)) := by simp
      have e2 : (ns.drop 1)[i]? = some (ns[i + 1]'(by omega)) := by
        rw [List.getElem?_drop]
        have : 1 + i = i + 1 := by omega
        rw [this]
        simp
      dsimp only at hx hy
      rw [List.getElem?_map, e1] at hx
      rw [← List.map_drop, List.getElem?_map, e2] at hy
      obtain rfl : V.int _ = x := Option.some.inj hx
      obtain rfl : V.int _ = y := Option.some.inj hy
      have k2 := Same.new (o := .tup [V.int (ns[i]'(by omega)), V.int (ns[i + 1]'(by omega))]) ht
      refine ⟨t, _, rfl, SqT.of upd_same, rfl, _, _, rfl, _, _, rfl, rfl, rfl, ?_⟩
      dsimp only [tYes]
      rw [if_pos rfl]
      refine ⟨_, rfl, _, rfl, _, _, rfl, rfl, _, k2 _ _ h1, small1000 ?_, ?_, ?_⟩
      · rw [List.length_map, List.length_take]; omega
      · rw [upd_same]
        have : (List.zipWith (fun a b => decide (a < b)) ns (ns.drop 1))[i]? = some (decide (ns[i]'(by omega) < ns[i + 1]'(by omega))) := by
          rw [List.getElem?_zipWith, e1, e2]
        rw [take_snoc this, List.map_append]
        rfl
      · exact same_upd hD (s1.trans k2)
    · rintro H2 ⟨h1, s1⟩
      rw [List.take_of_length_le (by rw [List.length_zipWith, List.length_drop]; omega)] at h1
      refine ⟨D, _, rfl, SqL.of h1, ?_⟩
      rw [asc_zip]
      exact k _ (k1.trans s1)
theorem scIsShare : FnScope ["thing", "pair", "number", "_"] ["thing"] (defScope sIsShare) := ⟨rfl, rfl, rfl, by decide +kernel, rfl, by decide +kernel, by decide +kernel⟩
theorem ok_is_share {f f1 f2 f3 : Addr} {fd fd1 fd2 fd3 : FuncData} {t8 : Tok} (F : Df K mg "is_share" sIsShare ["thing"] f fd) (D1 : Df K mg "is_row" sIsRow ["thing"] f1 fd1) (G1 : FnOk P w K mg base CX0 1 f1 fd1 ["thing"] (spRow K)) (D2 : Df K mg "is_share_pair" sIsSharePair ["thing"] f2 fd2) (G2 : FnOk P w K mg base CX0 5 f2 fd2 ["thing"] (spShP K))
    (D3 : Df K mg "ascends" sAscends ["things"] f3 fd3) (G3 : FnOk P w K mg base CX0 1 f3 fd3 ["things"] (spAsc K)) (g8 : mg "MOST_PAIRS" = some (.int 8 t8)) (T : Bt mg) : FnOk P w K mg base CX0 6 f fd ["thing"] (spIsSh K) := by
  refine F.F.ok scIsShare (fun vs H Q E h => ?_) (fun cdv A outer s H vs Q E hr h => ?_)
  · obtain ⟨p, xs, rfl, _⟩ := h
    rfl
  · obtain ⟨p, xs, rfl, ⟨vs, hp, hP⟩, hlen, k⟩ := h
    refine ⟨_, pss_cons (ps_if (PW.pt (pw_or (pt_not (pt_val (pe_call G1 (hr.mono (by decide)) (by rfl) D1.g D1.F.kp D1.b .nil pass0 (pa_cons (pv 0) pa_nil)))) (pw_or1 (pt_cmpR op_gt (pe_callB call_len_seq (by rfl) T.len PySem.boot_len (pa_cons (pv 0) pa_nil)) (pe_glob (v := .int 8) (by rfl) g8 ⟨_, rfl⟩) (nomark _))))) (pss_one (ps_ret pe_bl)) pss_nil)
      (pss_cons (ps_if (pt_not (pt_val (pe_callB (cr_all rfl) (by rfl) T.all (by decide +kernel) (pa_cons (pe_lc (own := [("pair", 1)]) (g := gName 1) (tt := tYes) rfl scIsShare.nd (pi_tup (pv 0)) (blkOk_by (N := ["thing", "pair", "number", "_"]) (sc := defScope sIsShare) (by decide +kernel)) (fun _ _ _ _ _ => pg_name (i := 1) scIsShare.nd rfl (Or.inl rfl)) (fun _ _ _ _ _ => pts_nil) (fun _ _ _ _ _ => pe_call G2 hr (by rfl) D2.g D2.F.kp D2.b .nil pass0 (pa_cons (pv 1) pa_nil))) pa_nil)))) (pss_one (ps_ret pe_bl)) pss_nil)
      (pss_one (ps_ret (pe_call G3 (hr.mono (by decide)) (by rfl) D3.g D3.F.kp D3.b .nil pass0 (pa_cons (pe_lc (own := [("number", 2), ("_", 3)]) (g := gTup K 2 (gCons (gName 2) (gCons (gName 3) gNil))) (tt := tYes) rfl scIsShare.nd (pi_tup (pv 0)) (blkOk_by (N := ["thing", "pair", "number", "_"]) (sc := defScope sIsShare) (by decide +kernel)) (fun _ _ _ _ _ => pg_tup rfl (pgs_cons (pg_name (i := 2) scIsShare.nd rfl (Or.inl rfl)) (pgs_cons (pg_name (i := 3) scIsShare.nd rfl (Or.inl rfl)) pgs_nil))) (fun _ _ _ _ _ => pts_nil) (fun _ _ _ _ _ => pv 2)) pa_nil))))), ?_⟩
    refine ⟨_, rfl, p, _, rfl, hp, _, rfl, iteF ?_⟩
    refine ⟨_, rfl, p, _, rfl, .inr hp, _, _, rfl, rfl, _, rfl, ?_⟩
    rw [hP.len]
    by_cases h8 : (8 : Int) < (xs.length : Int)
    · rw [decide_eq_true h8]
      refine iteT ?_
      have := k H (Same.refl H)
      rw [decide_eq_false (fun h : Shr xs => by have := h.1; omega)] at this
      exact this
    rw [decide_eq_false h8]
    refine iteF ?_
    refine ⟨_, rfl, p, rfl, ⟨_, hp⟩, fun D hD => lc_tup (K := K) (a := p) (xs := vs) (fun i H' => H' D = some (.lst (((xs.take i).map fun a => decide (GoodP a)).map V.bl)) ∧ Same H H') ⟨upd_same, Same.new hD⟩ (fun i H' _ ⟨_, s1⟩ => s1.tup hp) ?_ ?_⟩
    · rintro i v H' hi ⟨h1, s1⟩
      obtain ⟨q, r, m, x, rfl, hxi, hq, hr'⟩ := hP.get hi
      have hi2 : i < xs.length := (List.getElem?_eq_some_iff.mp hxi).1
      refine ⟨rfl, ?_⟩
      dsimp only [tYes]
      rw [if_pos rfl]
      refine ⟨_, rfl, q, r, m, x, rfl, s1.tup hq, s1.tup hr', _, h1, small1000 ?_, ?_, same_upd hD s1⟩
      · rw [List.length_map, List.length_map, List.length_take]; omega
      · rw [upd_same, take_snoc hxi, List.map_append, List.map_append]
        rfl
    · rintro H1 ⟨h1, s1⟩
      rw [hP.len, List.take_length] at h1
      refine ⟨D, _, rfl, SqL.of h1, _, rfl, ?_⟩
      by_cases hg : ∀ a ∈ xs, GoodP a
      · have e : ((xs.map fun a => decide (GoodP a)).all id) = true := by
          rw [List.all_map, List.all_eq_true]
          intro a ha
          exact decide_eq_true (hg a ha)
        rw [e]
        refine iteF ?_
        refine ⟨_, rfl, p, rfl, ⟨_, s1.tup hp⟩, fun D2 hD2 => lc_tup (K := K) (a := p) (xs := vs) (fun i H' => H' D2 = some (.lst (((xs.take i).map (·.1)).map V.int)) ∧ Same H1 H') ⟨upd_same, Same.new hD2⟩ (fun i H' _ ⟨_, s2⟩ => s2.tup (s1.tup hp)) ?_ ?_⟩
        · rintro i v H' hi ⟨h2, s2⟩
          obtain ⟨q, r, m, x, rfl, hxi, hq, hr'⟩ := hP.get hi
          have hi2 : i < xs.length := (List.getElem?_eq_some_iff.mp hxi).1
          refine ⟨q, _, rfl, s2.tup (s1.tup hq), rfl, _, _, rfl, _, _, rfl, rfl, rfl, ?_⟩
          dsimp only [tYes]
          rw [if_pos rfl]
          refine ⟨_, rfl, _, h2, small1000 ?_, ?_, same_upd hD2 s2⟩
          · rw [List.length_map, List.length_map, List.length_take]; omega
          · rw [upd_same, take_snoc hxi, List.map_append, List.map_append]
            rfl
        · rintro H2 ⟨h2, s2⟩
          rw [hP.len, List.take_length] at h2
          refine ⟨D2, xs.map (·.1), rfl, SqL.of h2, by rw [List.length_map]; exact hlen, fun H3 s3 => ?_⟩
          have := k H3 (s1.trans (s2.trans s3))
          have e2 : decide (Shr xs) = decide ((xs.map (·.1)).Pairwise (· < ·)) := by
            rw [decide_eq_decide]
            exact ⟨fun h => h.2.2, fun h => ⟨by omega, hg, h⟩⟩
          rw [e2] at this
          exact this
      · have e : ((xs.map fun a => decide (GoodP a)).all id) = false := by
          rw [Bool.eq_false_iff]
          intro h
          rw [List.all_map, List.all_eq_true] at h
          exact hg fun a ha => of_decide_eq_true (h a ha)
        rw [e]
        refine iteT ?_
        have := k H1 s1
        rw [decide_eq_false (fun h : Shr xs => hg h.2.1)] at this
        exact this
theorem scNeedShare : FnScope ["thing"] ["thing"] (defScope sNeedShare) := ⟨rfl, rfl, rfl, by decide +kernel, rfl, by decide +kernel, by decide +kernel⟩
theorem ok_need_share {f f1 : Addr} {fd fd1 : FuncData} (F : Df K mg "need_share" sNeedShare ["thing"] f fd) (D1 : Df K mg "is_share" sIsShare ["thing"] f1 fd1) (G1 : FnOk P w K mg base CX0 6 f1 fd1 ["thing"] (spIsSh K)) : FnOk P w K mg base CX0 7 f fd ["thing"] (spNeedSh K) := by
  refine F.F.ok scNeedShare (fun vs H Q E h => ?_) (fun cdv A outer s H vs Q E hr h => ?_)
  · obtain ⟨p, xs, rfl, _⟩ := h
    rfl
  · obtain ⟨p, xs, rfl, hp, hx, k⟩ := h
    refine ⟨_, pss_cons (ps_if (pt_not (pt_val (pe_call G1 hr (by rfl) D1.g D1.F.kp D1.b .nil pass0 (pa_cons (pv 0) pa_nil)))) (pss_one ps_never) pss_nil) (pss_one (ps_ret (pv 0))), ?_⟩
    refine ⟨_, rfl, p, xs, rfl, hp, by have := hx.1; omega, fun H' s' => ⟨_, rfl, ?_⟩⟩
    rw [decide_eq_true hx]
    exact iteF ⟨_, rfl, k _ s'⟩
end
end CS
set_option Elab.async false
set_option maxRecDepth 100000
set_option maxHeartbeats 4000000
set_option linter.unusedVariables false
/-! A function object as a value: what its call without arguments does is told by a promise over the abstract heap, in which the cells that it captured are tracked, too. -/
namespace CS
open PySem PySem.Spec PyProof.Rows L2 LamX
/-- the function object at f -/
def FunO (f : Addr) (fd : FuncData) : HO := .ext fun h => ∃ od sl, h.get? f = some (⟨.type "function", od, .func fd, sl⟩ : Obj)
/-- the very object at c -/
def CellX (c : Addr) (o : Obj) : HO := .ext fun h => h.get? c = some o
theorem funO_at {P : Program} {w : World} {H : Hp} {h : Heap} {f : Addr} {fd : FuncData} (ok : HOk P w H h) (e : H f = some (FunO f fd)) : ∃ od sl, h.get? f = some (⟨.type "function", od, .func fd, sl⟩ : Obj) := by
  have x : ObjOk P w H h f (FunO f fd) := ok f _ e
  exact x.1
theorem cellX_at {P : Program} {w : World} {H : Hp} {h : Heap} {c : Addr} {o : Obj} (ok : HOk P w H h) (e : H c = some (CellX c o)) : h.get? c = some o := by
  have x : ObjOk P w H h c (CellX c o) := ok c _ e
  exact x.1
theorem cellX_ok {P : Program} {w : World} {H : Hp} {h : Heap} {c : Addr} {o : Obj} (e : h.get? c = some o) : ObjOk P w H h c (CellX c o) := ⟨e, ⟨o, e⟩, fun _ _ z k => k _ z⟩
/-- with the objects of l tracked, without them -/
def addC (l : Addr → Option Obj) (H : Hp) : Hp := fun b => match l b with
  | some o => some (CellX b o)
  | none => H b
def Free (l : Addr → Option Obj) (H : Hp) : Prop := ∀ b o, l b = some o → H b = none
def Cin (l : Addr → Option Obj) (H : Hp) : Prop := ∀ b o, l b = some o → H b = some (CellX b o)
def subC (l : Addr → Option Obj) (H : Hp) : Hp := fun b => if (l b).isSome then none else H b
section
variable {l : Addr → Option Obj} {H H2 : Hp} {b : Addr} {o : Obj}
theorem addC_in (e : l b = some o) : addC l H b = some (CellX b o) := by
  unfold addC
  rw [e]
theorem addC_out (e : l b = none) : addC l H b = H b := by
  unfold addC
  rw [e]
theorem subC_in (e : l b = some o) : subC l H b = none := by
  unfold subC
  rw [e]
  rfl
theorem subC_out (e : l b = none) : subC l H b = H b := by
  unfold subC
  rw [e]
  rfl
theorem cin_add : Cin l (addC l H) := fun _ _ e => addC_in e
theorem free_sub : Free l (subC l H) := fun _ _ e => subC_in e
theorem sub_add (F : Free l H) : subC l (addC l H) = H := by
  funext b
  cases e : l b with
  | none => rw [subC_out e, addC_out e]
  | some o => rw [subC_in e, F b o e]
theorem add_sub (C : Cin l H) : addC l (subC l H) = H := by
  funext b
  cases e : l b with
  | none => rw [addC_out e, subC_out e]
  | some o => rw [addC_in e, C b o e]
theorem Cin.out (C : Cin l H) {u : HO} (e : H b = some u) (n : ∀ c o, u ≠ CellX c o) : l b = none := by
  cases q : l b with
  | none => rfl
  | some o =>
    have := C b o q
    rw [e] at this
    exact absurd (Option.some.inj this) (n b o)
theorem Free.out (F : Free l H) {u : HO} (e : H b = some u) : l b = none := by
  cases q : l b with
  | none => rfl
  | some o =>
    rw [F b o q] at e
    cases e
theorem cx_tup {c : Addr} {o : Obj} {xs : List V} : (HO.tup xs) ≠ CellX c o := fun z => by
  unfold CellX at z
  cases z
theorem cx_frz {c : Addr} {o o2 : Obj} {u : HO} : (HO.frz o2 u) ≠ CellX c o := fun z => by
  unfold CellX at z
  cases z
theorem cx_tbl {c : Addr} {o : Obj} {ps : Array Value} : (HO.tbl ps) ≠ CellX c o := fun z => by
  unfold CellX at z
  cases z
theorem sub_none (n : H b = none) : subC l H b = none := by
  unfold subC
  split
  · rfl
  · exact n
end
section
variable {P : Program} {w : World} {l : Addr → Option Obj} {H H2 : Hp} {h h' : Heap} {fs : List Addr}
theorem hok_sub (C : Cin l H) (ok : HOk P w H h) : HOk P w (subC l H) h := fun b u e => by
  have hb : l b = none := free_sub.out e
  rw [subC_out hb] at e
  refine (ok b u e).stay (fun _ _ _ q => q) (fun c hc => ?_) (fun c xs hc => ?_)
  · rw [subC_out (C.out hc fun _ _ z => by unfold CellX at z; cases z)]
    exact hc
  · rw [subC_out (C.out hc fun _ _ => cx_tup)]
    exact hc
theorem hok_add (F : Free l H2) (ok : HOk P w H2 h) (k : ∀ b o, l b = some o → h.get? b = some o) : HOk P w (addC l H2) h := fun b u e => by
  cases q : l b with
  | some o =>
    rw [addC_in q] at e
    cases e
    exact cellX_ok (k b o q)
  | none =>
    rw [addC_out q] at e
    refine (ok b u e).stay (fun _ _ _ q => q) (fun c hc => ?_) (fun c xs hc => ?_)
    · rw [addC_out (F.out hc)]
      exact hc
    · rw [addC_out (F.out hc)]
      exact hc
/-- the step of a body, told with the cells -/
theorem un_add (C : Cin l H) (F : Free l H2) (u : Un fs [] (subC l H) H2 h h') : Un fs [] H (addC l H2) h h' where
  keep := fun b o q n hb hx => u.keep b o q (sub_none n) hb hx
  slot := fun b o q n hb hx => u.slot b o q (sub_none n) hb hx
  free := fun b o q n hx => by
    have e : l b = none := by
      cases z : l b with
      | none => rfl
      | some o2 =>
        rw [C b o2 z] at n
        cases n
    rw [addC_out e]
    exact u.free b o q (sub_none n) hx
  there := u.there
  tups := fun b xs e => by
    have q := C.out e fun _ _ => cx_tup
    rw [addC_out q]
    exact u.tups b xs (by rw [subC_out q]; exact e)
  frzs := fun b o2 x e => by
    have q := C.out e fun _ _ => cx_frz
    rw [addC_out q]
    exact u.frzs b o2 x (by rw [subC_out q]; exact e)
  tbls := fun b ps e => by
    have q := C.out e fun _ _ => cx_tbl
    rw [addC_out q]
    exact u.tbls b ps (by rw [subC_out q]; exact e)
/-- .. and a caller's, told without them -/
theorem un_sub (F : Free l H) (C : Cin l H2) (hk : HOk P w H2 h') (hh : ∀ b o, l b = some o → h.get? b = some o) (u : Un fs [] (addC l H) H2 h h') : Un fs [] H (subC l H2) h h' where
  keep := fun b o q n hb hx => by
    cases z : l b with
    | none => exact u.keep b o q (by rw [addC_out z]; exact n) hb hx
    | some o2 =>
      have e := hh b o2 z
      rw [q] at e
      cases e
      exact cellX_at hk (C b _ z)
  slot := fun b o q n hb hx => by
    cases z : l b with
    | none => exact u.slot b o q (by rw [addC_out z]; exact n) hb hx
    | some o2 =>
      have e := hh b o2 z
      rw [q] at e
      cases e
      exact ⟨o.slots, cellX_at hk (C b _ z)⟩
  free := fun b o q n hx => by
    cases z : l b with
    | none => exact sub_none (u.free b o q (by rw [addC_out z]; exact n) hx)
    | some o2 => exact subC_in z
  there := u.there
  tups := fun b xs e => by
    have q := F.out e
    have := u.tups b xs (by rw [addC_out q]; exact e)
    rw [subC_out q]
    exact this
  frzs := fun b o2 x e => by
    have q := F.out e
    have := u.frzs b o2 x (by rw [addC_out q]; exact e)
    rw [subC_out q]
    exact this
  tbls := fun b ps e => by
    have q := F.out e
    have := u.tbls b ps (by rw [addC_out q]; exact e)
    rw [subC_out q]
    exact this
/-- an exception that leaves a body, told with the cells -/
theorem cx_add {outer : List Env} {s s' : Shared} {E : XK} {u : Value} (C : Cin l H) (ok : HOk P w H s.heap) (nf : ∀ b ∈ frs outer, H b = none) (c : L2.CX P w outer (subC l H) s (fun cls d H' => Free l H' → E cls d (addC l H')) u s') : L2.CX P w outer H s E u s' := by
  obtain ⟨a, B, H', cls, d, rfl, fl, hok, ub, na, os, ag, hE⟩ := c
  have hh : ∀ b o, l b = some o → s.heap.get? b = some o := fun b o e => cellX_at ok (C b o e)
  have nfr : ∀ b o, l b = some o → b ∉ frs outer := fun b o e z => by
    have := nf b z
    rw [C b o e] at this
    cases this
  have F : Free l H' := fun b o e => ub.free b o (hh b o e) (subC_in e)
  have kB : ∀ b o, l b = some o → B.get? b = some o := fun b o e => ub.keep b o (hh b o e) (subC_in e) (nfr b o e)
  refine ⟨a, B, addC l H', cls, d, rfl, fl, hok_add F hok kB, ⟨fun b o q n hb => ub.keep b o q (sub_none n) hb, ub.slot, fun b o q n => ?_, ub.there, fun b xs e => ?_, fun b o2 x e => ?_, fun b ps e => ?_⟩, ?_, os, ag, hE F⟩
  · have e : l b = none := by
      cases z : l b with
      | none => rfl
      | some o2 =>
        rw [C b o2 z] at n
        cases n
    rw [addC_out e]
    exact ub.free b o q (sub_none n)
  · have q := C.out e fun _ _ => cx_tup
    rw [addC_out q]
    exact ub.tups b xs (by rw [subC_out q]; exact e)
  · have q := C.out e fun _ _ => cx_frz
    rw [addC_out q]
    exact ub.frzs b o2 x (by rw [subC_out q]; exact e)
  · have q := C.out e fun _ _ => cx_tbl
    rw [addC_out q]
    exact ub.tbls b ps (by rw [subC_out q]; exact e)
  · cases z : l a with
    | none => rw [addC_out z]; exact na
    | some o =>
      have e1 := kB a o z
      have e2 : B.get? a = none := fl.2.1
      rw [e1] at e2
      cases e2
end
/-! what a function object's call does -/
abbrev Act := Addr → Hp → VK → XK → Prop
def ActOk (P : Program) (w : World) (K : PySem.W.Frag) (mg : Str → Option Value) (base : Heap) (k : Nat) (act : Act) : Prop :=
  ∀ (f : Addr) (A : Around) (outer : List Env) (s : Shared) (H : Hp) (Q : VK) (E : XK), Room k A → Env0 P w K mg base A outer s H → act f H Q E →
    (∃ fd, H f = some (FunO f fd)) ∧ codeAny (model P w) A (.call (.ref f) ⟨[], []⟩) (CR (L2.CX P w) outer P w H s Q E) s
section
variable {X : Cx} {act : Act} {k i : Nat} {x : Str} {E : L2.St → XK} {p pos : Pos}
def tAct (act : Act) (i : Nat) (E : L2.St → XK) : TE := fun σ H Q => ∃ f, σ[i]? = some (some (.ref f)) ∧ act f H Q (E σ)
/-- x(), x a name that holds such an object -/
theorem pe_act0 (ha : ActOk X.prog X.w X.K X.mg X.base k act) (hr : Room k X.A) (hx : ∀ σ, PassesAt (L2.CX X.prog X.w) X σ (E σ)) (hN : X.N[i]? = some x) (hv : Vis X.env.scope x) (hd : (x == ("__debug__" : Str)) = false := by decide) (hcd : (x == ("__classdict__" : Str)) = false := by decide) :
    PE X (.Call (.Name x p) [] [] pos) (tAct act i E) := by
  refine ⟨fun pins s σ H Q I h => ?_⟩
  obtain ⟨f, hs, q⟩ := h
  obtain ⟨⟨fd, hf⟩, hc⟩ := ha f X.A X.stack s H Q (E σ) hr I.env0 q
  have hv2 := (pe_var (pos := p) hN hv hd hcd).run pins s σ H (fun v H1 => v = .ref f ∧ H1 = H ∧ act f H Q (E σ)) I ⟨.ref f, hs, rfl, rfl, q⟩
  refine wpAny_Call_Name_kw (thn hv2 fun u s1 ⟨v, H1, I1, r1, ev, eH, q1⟩ => ?_)
  subst ev
  subst eH
  obtain rfl : u = Value.ref f := r1
  obtain ⟨⟨fd, hf⟩, hc⟩ := ha f X.A X.stack s1 H1 Q (E σ) hr I1.env0 q1
  obtain ⟨od, sl, ho⟩ := funO_at I1.hok hf
  refine PySem.W.callWith_F0 (first := []) ⟨_, od, _, sl, ho⟩ ?_
  show wpAny _ _ (call (.ref f) []) _ _ _
  refine wpAny_call (codeAny_mono hc fun r s' hq => ?_)
  match r with
  | .error er => exact hx σ pins H1 s1 er s' I1 hq
  | .ok (.ret u) => exact I1.after hq
  | .ok .next => exact hq.elim
  | .ok .brk => exact hq.elim
  | .ok .cont => exact hq.elim
end
/-! a lambda's call -/
/-- the scope of a lambda whose own names (its parameters) are none of N -/
structure LScope (sc scope : Scope) (N : List Str) : Prop where
  kind : scope.kind = .function
  co : scope.isCoroutine = false
  gen : scope.isGenerator = false
  cell : ∀ y ∈ scope.names, y.2 ≠ .cell
  own : ∀ y ∈ scope.names, y.2 = .local → y.1 ∉ N
  free : ∀ y ∈ scope.names, y.2 = .free → sc.names.lookup y.1 = some .cell ∨ sc.names.lookup y.1 = some .free
theorem LScope.has {X : Cx} {scope : Scope} {N : List Str} (L : LScope X.env.scope scope N) (ok : X.Ok) : ∀ y ∈ scope.names, y.2 = .free → ∃ c, X.env.cells.lookup y.1 = some c := fun y hy e =>
  (L.free y hy e).elim (fun k => ok.has _ (.inl k)) fun k => ok.has _ (.inr k)
abbrev clo (X : Cx) (scope : Scope) : List (Str × Addr) := cloFrom X.env.cells scope.names []
abbrev lfd (X : Cx) (scope : Scope) (params : Arguments) (body : Expr) (c' : Addr) (dV doc pm ctv : Value) : FuncData :=
  PySem.W.kdv_fn "<lambda>" (X.env.qual ++ "<lambda>") params (.expr body) scope (clo X scope) dV doc pm (.ref c') ctv
/-- the objects of l are the captured cells, with what the slots tell -/
structure Held (X : Cx) (scope : Scope) (σ : L2.St) (l : Addr → Option Obj) : Prop where
  all : ∀ y c, (clo X scope).lookup y = some c → ∃ o v, l c = some o ∧ o.data = .cell v
  val : ∀ (i : Nat) (x : Str) (v : V), X.N[i]? = some x → σ[i]? = some (some v) → scope.names.lookup x = some .free → ∃ c o u, (clo X scope).lookup x = some c ∧ l c = some o ∧ o.data = .cell (some u) ∧ RelV v u
section
variable {X : Cx} {scope : Scope} {σ : L2.St} {l : Addr → Option Obj} {params : Arguments} {body : Expr} {f c' : Addr} {dV doc pm ctv : Value} {k : Nat} {binds : List (Str × Value)} {E : XK} {tb : TE}
theorem lam_inv {A : Around} {outer : List Env} {s : Shared} {H : Hp} {h₁ : Heap} {tk : Nat} (ok : X.Ok) (L : LScope X.env.scope scope X.N) (V : Held X scope σ l) (hlen : σ.length = X.N.length) (C : Cin l H) (e0 : Env0 X.prog X.w X.K X.mg X.base A outer s H) (hd : A.handled = none)
    (hns : h₁.Ns s.heap.objs.size fun y => binds.reverse.lookup y) (kp : ∀ b o, s.heap.get? b = some o → h₁.get? b = some o) : Inv (lamCx X A outer s (subC l H) E scope f c') [] σ (subC l H) { s with heap := h₁, toks := tk } := by
  have hfree := L.has ok
  have at_ : ∀ {c o}, l c = some o → s.heap.get? c = some o := fun {c o} e => cellX_at e0.hok (C c o e)
  have hs := hok_sub C e0.hok
  refine {
    ok := {
      mod := e0.mod, kind := L.kind, glob := rfl, blt := rfl, above := Nat.le_refl _
      inj := fun y z c e1 e2 => ok.inj y z c (NdefX.clo_cm hfree e1) (NdefX.clo_cm hfree e2)
      has := fun y hy => ?_
      cab := fun y c z _ => absurd (show false = true from z) (by decide)
      hd := fun _ => hd
      frames := Around.frames_deeper e0.frames
      stk := .inr ⟨rfl, rfl⟩
      exf := fun b z => absurd (show b ∈ ([] : List Addr) from z) (by simp)
      bs := fun b o e => ⟨(e0.bs b o e).1, sub_none (e0.bs b o e).2⟩
      bsz := e0.bsz
      noex := fun b _ _ z => absurd (show b ∈ ([] : List Addr) from z) (by simp)
      exfs := fun b z => absurd (show b ∈ ([] : List Addr) from z) (by simp)
      funs := e0.funs
      frf := fun b hb => sub_none (e0.frf b hb) }
    os := rfl
    bare := e0.bare
    base := Un.kept kp
    loc := ⟨_, hns, fun i y v e1 e2 e3 => ?_⟩
    cell := fun y c e => ?_
    free := hs.fresh (Nat.le_refl _)
    freeC := fun y c e => ?_
    pin := fun q hq => absurd (show q ∈ ([] : List (Addr × Obj)) ++ [] from hq) (by simp)
    hok := hs.kept kp
    len := hlen }
  · have hy : scope.names.lookup y = some .cell ∨ scope.names.lookup y = some .free := hy
    rcases hy with hy | hy
    · exact absurd rfl (L.cell _ (PySem.mem_of_lookup hy))
    · obtain ⟨c, hc⟩ := hfree _ (PySem.mem_of_lookup hy) rfl
      exact ⟨c, NdefX.clo_has hfree (PySem.mem_of_lookup hy) hc⟩
  · have e3 : Vis scope y := e3
    have e1 : X.N[i]? = some y := e1
    rcases e3 with q | q | q
    · exact absurd (List.mem_of_getElem? e1) (L.own _ (PySem.mem_of_lookup q) rfl)
    · exact absurd rfl (L.cell _ (PySem.mem_of_lookup q))
    · obtain ⟨c, o, u, h1, h2, h3, r⟩ := V.val i y v e1 e2 q
      exact ⟨u, r, .inr ⟨.inr q, c, h1, o, kp _ _ (at_ h2), h3⟩⟩
  · obtain ⟨o, v, h1, h2⟩ := V.all y c e
    exact ⟨v, o, kp _ _ (at_ h1), h2⟩
  · obtain ⟨o, v, h1, h2⟩ := V.all y c e
    exact subC_in h1
/-- how its parameters are bound where nothing is passed -/
def BindL (X : Cx) (scope : Scope) (params : Arguments) (body : Expr) (dV : Value) (H : Hp) : Prop := ∀ (P : Program) (w : World) (s : Shared) (c' : Addr) (doc pm ctv : Value), HOk P w H s.heap →
  ∃ binds, BindsTo s (lfd X scope params body c' dV doc pm ctv) ⟨[], []⟩ binds ∧ ∀ y ∈ binds, scope.names.lookup y.1 = some .local
/-- what such an object's call does: the body's reading, over what is tracked but the cells -/
def lact (X : Cx) (scope : Scope) (params : Arguments) (body : Expr) (σ : L2.St) (l : Addr → Option Obj) (tb : XK → TE) : Act := fun f H Q E =>
  ∃ (c' : Addr) (dV doc pm ctv : Value) (H1 : Hp) (Q0 : VK) (E0 : XK), H = addC l H1 ∧ Free l H1 ∧ H1 f = some (FunO f (lfd X scope params body c' dV doc pm ctv)) ∧ H1 c' = some (CodeO c' (X.env.qual ++ "<lambda>")) ∧
    BindL X scope params body dV H ∧ tb E0 σ H1 Q0 ∧ (∀ v H2, Free l H2 → Q0 v H2 → Q v (addC l H2)) ∧ ∀ cls d H2, Free l H2 → E0 cls d H2 → E cls d (addC l H2)
theorem lact_ok {tb : XK → TE} (ok : X.Ok) (L : LScope X.env.scope scope X.N) (V : Held X scope σ l) (hlen : σ.length = X.N.length)
    (hb : ∀ (A : Around) (outer : List Env) (s : Shared) (H : Hp) (E : XK) (f c' : Addr), Room k (A.deeper (lamEnv X scope s.heap.objs.size f c')) → PE (lamCx X A outer s H E scope f c') body (tb E)) :
    ActOk X.prog X.w X.K X.mg X.base (k + 1) (lact X scope params body σ l tb) := by
  intro f A outer s H Q E hr e0 h
  obtain ⟨c', dV, doc, pm, ctv, H1, Q0, E0, rfl, F, hf, hc, hbind, q, hQ, hE⟩ := h
  have hf2 : addC l H1 f = some (FunO f (lfd X scope params body c' dV doc pm ctv)) := by rw [addC_out (F.out hf)]; exact hf
  have hc2 : addC l H1 c' = some (CodeO c' (X.env.qual ++ "<lambda>")) := by rw [addC_out (F.out hc)]; exact hc
  refine ⟨⟨_, hf2⟩, ?_⟩
  obtain ⟨od, sl, ho⟩ := funO_at e0.hok hf2
  have C : Cin l (addC l H1) := cin_add
  have es : subC l (addC l H1) = H1 := sub_add F
  obtain ⟨binds, hbi, hloc⟩ := hbind _ _ s c' doc pm ctv e0.hok
  refine PySem.W.kla_callFunE hr.depth ho rfl L.co L.gen rfl (NdefX.codeO_at e0.hok hc2) (hbi _ _ _ _ ?_)
  refine wpAny_newFunctionEnv L.cell hloc (fun h₁ hns hsb => ⟨((e0.mod.nolimit).keeps fun b o e => (e0.bs b o e).1).fresh _ hsb, ?_⟩) L.kind
  show codeAny _ _ (.expr body (lamEnv X scope s.heap.objs.size f c')) _ _
  have kp : ∀ b o, s.heap.get? b = some o → h₁.get? b = some o := fun b o e => hsb.extBut b o (Nat.ne_of_lt (Heap.lt_size e)) (Heap.get?_push_of_some _ e)
  have I := lam_inv (E := E0) (f := f) (c' := c') (tk := s.toks + binds.length) ok L V hlen C e0 hr.hd hns kp
  rw [es] at I
  have nfr : ∀ b ∈ frs outer, addC l H1 b = none := e0.frf
  have cx : ∀ {e : Value} {s3 : Shared}, L2.CX X.prog X.w outer H1 s E0 e s3 → L2.CX X.prog X.w outer (addC l H1) s E e s3 := fun {e s3} hx => by
    refine cx_add C e0.hok nfr ?_
    rw [es]
    obtain ⟨a, B, H', cls, d, x1, x2, x3, x4, x5, x6, x7, x8⟩ := hx
    exact ⟨a, B, H', cls, d, x1, x2, x3, x4, x5, x6, x7, fun F' => hE cls d H' F' x8⟩
  refine PySem.W.kla_codeExpr (wpAny_mono ((hb A outer s H1 E0 f c' (hr.deeper _)).run [] _ σ H1 Q0 I q) (fun u s2 hq => ?_) fun e s2 he => wpAny_mono he (fun _ _ hx => cx hx) fun _ _ hx => cx hx)
  obtain ⟨v, H2, I2, r, q2⟩ := hq
  have F2 : Free l H2 := fun b o e => I2.base.free b o (cellX_at e0.hok (C b o e)) (F b o e) (by intro z; cases z)
  have un : Un (frs outer) [] (subC l (addC l H1)) H2 s.heap s2.heap := by rw [es]; exact I2.base
  refine ⟨v, addC l H2, I2.os, I2.bare, un_add C F2 un, hok_add F2 I2.hok fun b o e => ?_, r, hQ v H2 F2 q2⟩
  refine I2.base.keep b o (cellX_at e0.hok (C b o e)) (F b o e) (fun z => ?_) (by intro z; cases z)
  have := nfr b z
  rw [C b o e] at this
  cases this
end
end CS
set_option Elab.async false
set_option maxRecDepth 100000
set_option maxHeartbeats 4000000
set_option linter.unusedVariables false
namespace CS
open PySem PySem.Spec PyProof.Rows L2 LamX
/-! the making of such an object; a def that is handed it -/
theorem funO_ok {P : Program} {w : World} {H : Hp} {h : Heap} {f : Addr} {fd : FuncData} {od : Option Addr} {sl : Array (Option Value)} (e : h.get? f = some (⟨.type "function", od, .func fd, sl⟩ : Obj)) : ObjOk P w H h f (FunO f fd) :=
  ⟨⟨od, sl, e⟩, ⟨_, e⟩, fun _ _ ⟨a, b, z⟩ k => ⟨a, b, k _ z⟩⟩
/-- one more code object of the name q in the table -/
theorem tabs_more {T : List (Addr × Str)} {H : Hp} {P c' : Addr} {q : Str} {ps : Array Value} {pos : Pos} (hT : Tabs T H) (hP : H P = some (.tbl ps)) (ht : TriplesOk ps.toList) (hn : H c' = none) (hu : ∀ p ∈ T, p.1 = P → p.2 = q) :
    Tabs T (upd (upd H P (.tbl (ps ++ #[rawInt pos.line, rawInt pos.col, .ref c']))) c' (CodeO c' q)) := by
  have nP : P ≠ c' := ne_of_none hP hn
  rintro ⟨B, z⟩ hp
  obtain ⟨bs, b1, b2, b3⟩ := hT _ hp
  have nB : B ≠ c' := ne_of_none b1 hn
  have old : ∀ c, H c = some (CodeO c z) → upd (upd H P (.tbl (ps ++ #[rawInt pos.line, rawInt pos.col, .ref c']))) c' (CodeO c' q) c = some (CodeO c z) := fun c hc => by
    rw [upd_ne (ne_of_none hc hn), upd_ne (fun y => by rw [y, hP] at hc; exact codeO_ne _ (Option.some.inj hc).symm)]
    exact hc
  by_cases e : B = P
  · subst e
    obtain rfl : z = q := hu _ hp rfl
    rw [show H B = _ from b1] at hP
    cases hP
    refine ⟨_, by show upd _ _ _ B = _; rw [upd_ne nB, upd_same], ?_, fun p2 cv hcv => ?_⟩
    · rw [Array.toList_append]
      exact PySem.TriplesOk_snoc _ _ _ _ b2
    · rw [Array.toList_append] at hcv
      rcases among_app _ b2 hcv with y | y
      · obtain ⟨c, rfl, hc⟩ := b3 p2 cv y
        exact ⟨c, rfl, old c hc⟩
      · exact ⟨c', y, upd_same⟩
  · refine ⟨bs, by show upd _ _ _ B = _; rw [upd_ne nB, upd_ne e]; exact b1, b2, fun p2 cv hcv => ?_⟩
    obtain ⟨c, rfl, hc⟩ := b3 p2 cv hcv
    exact ⟨c, rfl, old c hc⟩
section
variable {X : Cx} {pins : List (Addr × Obj)} {σ : L2.St} {H : Hp} {s : Shared} {scope : Scope} {params : Arguments} {body : Expr}
/-- the object alone is new -/
theorem fun_new {c' : Addr} {dV doc pm ctv : Value} {tk : Nat} (I : Inv X pins σ H s) : Inv X pins σ (upd H s.heap.objs.size (FunO s.heap.objs.size (lfd X scope params body c' dV doc pm ctv))) { s with heap := s.heap.push (PySem.W.kdv_obj "<lambda>" (X.env.qual ++ "<lambda>") params (.expr body) scope (clo X scope) dV doc pm c' ctv), toks := tk } :=
  I.laid (fun b u e => Heap.get?_push_of_some _ e) (Nat.le_refl _) (funO_ok (Heap.get?_push_size _ rfl))
/-- what is known behind the making -/
def Made (X : Cx) (scope : Scope) (params : Arguments) (body : Expr) (T : List (Addr × Str)) (H : Hp) (dV : Value) (f : Addr) (H1 : Hp) : Prop :=
  ExtN H H1 ∧ Tabs T H1 ∧ H f = none ∧ ∃ (c' : Addr) (doc pm ctv : Value), H1 f = some (FunO f (lfd X scope params body c' dV doc pm ctv)) ∧ H1 c' = some (CodeO c' (X.env.qual ++ "<lambda>"))
theorem lam_made {T : List (Addr × Str)} {c P : Addr} {pos : Pos} {dV : Value} {E : Value → Shared → Prop} {Q : Value → Shared → Prop} (I : Inv X pins σ H s) (TB : TabB X.base X.mg c P) (hcode : X.env.code = .ref c) (hm : (P, X.env.qual ++ "<lambda>") ∈ T)
    (hu : ∀ p ∈ T, p.1 = P → p.2 = X.env.qual ++ "<lambda>") (hT : Tabs T H) (hfree : ∀ y ∈ scope.names, y.2 = .free → ∃ c, X.env.cells.lookup y.1 = some c) (h : ∀ f H1 s', Inv X pins σ H1 s' → Made X scope params body T H dV f H1 → Q (.ref f) s') :
    wpAny (model X.prog X.w) X.A (makeTail "<lambda>" (X.env.qual ++ "<lambda>") params (.expr body) scope X.env dV .none none pos pos.line) Q E s := by
  obtain ⟨ps, hP, ht, ha⟩ := hT _ hm
  have gP : s.heap.get? P = some (PySem.W.tabObj ps) := I.hok P _ hP
  cases hc : codeAmong pos ps.toList with
  | some cv =>
    obtain ⟨c', rfl, hc'⟩ := ha pos cv hc
    refine PySem.W.kdv_makeTailHit (closure_ok hfree) I.ok.glob (I.mod.glob.keeps I.bk) hcode (TB.code.keeps I.bk) gP ht hc (TB.bm.keeps I.bk) fun ctv doc h' tk hx hge => ?_
    have I1 : Inv X pins σ H { s with heap := h', toks := tk } := I.kept hx
    have n1 : H h'.objs.size = none := I1.hok.fresh (Nat.le_refl _)
    refine h _ _ _ (fun_new (c' := c') (tk := tk) I1) ⟨fun b o e _ => by rw [upd_ne (ne_of_none e n1)]; exact e, hT.ext fun b o e => by rw [upd_ne (ne_of_none e n1)]; exact e, n1, c', doc, _, ctv, upd_same, by rw [upd_ne (ne_of_none hc' n1)]; exact hc'⟩
  | none =>
    refine PySem.W.kdv_makeTail (closure_ok hfree) I.ok.glob (I.mod.glob.keeps I.bk) hcode (TB.code.keeps I.bk) gP ht hc TB.gP (TB.bm.keeps I.bk) fun c' ctv doc h' tk hx hge _ hrec htb => ?_
    obtain ⟨c2, oc, vs, t, e2, r1, r2, r3⟩ := hrec
    cases e2
    have nC : H c' = none := I.hok.fresh hge
    have I1 := inv_table (t' := tk) I hP (fun b o hb e => hx b o hb e) htb hge ⟨oc, vs, t, r1, r2, r3⟩
    have n1 := I1.hok.fresh (a := h'.objs.size) (Nat.le_refl _)
    have T1 := tabs_more (pos := pos) hT hP ht nC hu
    have X1 : ExtN H (upd (upd H P (.tbl (ps ++ #[rawInt pos.line, rawInt pos.col, .ref c']))) c' (CodeO c' (X.env.qual ++ "<lambda>"))) := fun b o e n => by
      rw [upd_ne (ne_of_none e nC), upd_ne (fun y => by rw [y, hP] at e; cases e; exact n _ rfl)]
      exact e
    have hc' : upd (upd H P (.tbl (ps ++ #[rawInt pos.line, rawInt pos.col, .ref c']))) c' (CodeO c' (X.env.qual ++ "<lambda>")) c' = some (CodeO c' (X.env.qual ++ "<lambda>")) := upd_same
    have nH : H h'.objs.size = none := by
      by_cases y : h'.objs.size = c'
      · rw [y]; exact nC
      · by_cases y2 : h'.objs.size = P
        · rw [y2, upd_ne (ne_of_none hP nC), upd_same] at n1
          cases n1
        · rw [upd_ne y, upd_ne y2] at n1
          exact n1
    generalize upd (upd H P (.tbl (ps ++ #[rawInt pos.line, rawInt pos.col, .ref c']))) c' (CodeO c' (X.env.qual ++ "<lambda>")) = H2 at *
    refine h _ _ _ (fun_new (c' := c') (tk := tk) I1) ⟨X1.trans fun b o e _ => by rw [upd_ne (ne_of_none e n1)]; exact e, T1.ext fun b o e => by rw [upd_ne (ne_of_none e n1)]; exact e, nH, c', doc, _, ctv, upd_same, by rw [upd_ne (ne_of_none hc' n1)]; exact hc'⟩
/-- lambda: body -/
def tLamV (X : Cx) (scope : Scope) (params : Arguments) (body : Expr) (T : List (Addr × Str)) : TE := fun _ H Q => Tabs T H ∧ ∀ f H1 dV, Made X scope params body T H dV f H1 → BindL X scope params body dV H1 → Q (.ref f) H1
theorem Made.of_ext {T : List (Addr × Str)} {H0 H1 : Hp} {dV : Value} {f : Addr} (e : ∀ b o, H b = some o → H0 b = some o) (n : ∀ b, H0 b = none → H b = none) (m : Made X scope params body T H0 dV f H1) : Made X scope params body T H dV f H1 :=
  ⟨(ExtN.of e).trans m.1, m.2.1, n _ m.2.2.1, m.2.2.2⟩
theorem pe_lam0 {T : List (Addr × Str)} {c P : Addr} {pos : Pos} (TB : TabB X.base X.mg c P) (hcode : X.env.code = .ref c) (hm : (P, X.env.qual ++ "<lambda>") ∈ T)
    (hu : ∀ p ∈ T, p.1 = P → p.2 = X.env.qual ++ "<lambda>") (L : LScope X.env.scope scope X.N) (hp : params = ⟨[], [], none, [], [], none, []⟩) : PE X (.Lambda params body scope pos) (tLamV X scope params body T) := by
  subst hp
  refine ⟨fun pins s σ H Q I ⟨hT, h⟩ => ?_⟩
  refine PySem.W.kla_eval rfl ?_
  rw [makeFunction_eq]
  simp only [List.zip_nil_right, List.filterMap_nil, List.isEmpty_nil, if_true, pure_bind]
  refine lam_made I TB hcode hm hu hT (L.has I.ok) fun f H1 s' I1 m => ⟨.ref f, H1, I1, rfl, h f H1 .none m fun P w s c' doc pm ctv _ => ⟨[], .of_eq rfl, fun _ z => nomatch z⟩⟩
theorem pe_lam1 {T : List (Addr × Str)} {c P : Addr} {pos p1 p2 : Pos} {x : Str} {i : Int} {j : Nat} (TB : TabB X.base X.mg c P) (hcode : X.env.code = .ref c) (hm : (P, X.env.qual ++ "<lambda>") ∈ T)
    (hu : ∀ p ∈ T, p.1 = P → p.2 = X.env.qual ++ "<lambda>") (L : LScope X.env.scope scope X.N) (hx : scope.names.lookup x = some .local) (hp : params = ⟨[], [⟨x, none, p1⟩], none, [], [], none, [.Constant (.int i) j p2]⟩) : PE X (.Lambda params body scope pos) (tLamV X scope params body T) := by
  subst hp
  refine ⟨fun pins s σ H Q I ⟨hT, h⟩ => ?_⟩
  refine PySem.W.kdv_lam rfl rfl (evalAll_cons ?_)
  have h0 := (pe_int (X := X) (i := i) (j := j) (pos := p2)).run pins s σ H (fun v H1 => v = .int i ∧ H1 = H) I ⟨rfl, rfl⟩
  refine thn h0 fun u s1 ⟨v, H1, I1, r, ev, eH⟩ => ?_
  subst ev
  subst eH
  obtain ⟨t, rfl⟩ := r
  refine evalAll_nil ?_
  rw [makeFunction_eq]
  simp only [List.zip_nil_right, List.filterMap_nil, List.isEmpty_nil, if_true, pure_bind, List.isEmpty_cons, Bool.false_eq_true, if_false]
  refine wpAny_bind (wpAny_newTextTuple ?_)
  have nd : H1 s1.heap.objs.size = none := I1.hok.fresh (Nat.le_refl _)
  have I2 : Inv X pins σ (upd H1 s1.heap.objs.size (.tup [.int i])) { s1 with heap := s1.heap.push { cls := .type "tuple", data := .seq [Value.int i t].toArray } } :=
    I1.laid (t' := s1.toks) (fun b u e => Heap.get?_push_of_some _ e) (Nat.le_refl _) ⟨by show 1 ≤ sizeLine; decide, [Value.int i t], .cons ⟨t, rfl⟩ .nil, ⟨_, Heap.get?_push_size _ rfl, rfl, _, rfl⟩⟩
  have e2 : ∀ b o, H1 b = some o → upd H1 s1.heap.objs.size (.tup [.int i]) b = some o := fun b o e => by
    rw [upd_ne (ne_of_none e nd)]
    exact e
  have hT2 := hT.ext e2
  have ht : upd H1 s1.heap.objs.size (.tup [.int i]) s1.heap.objs.size = some (.tup [.int i]) := upd_same
  have n2 : ∀ b, upd H1 s1.heap.objs.size (.tup [.int i]) b = none → H1 b = none := fun b z => NdefX.upd_none z
  generalize upd H1 s1.heap.objs.size (.tup [.int i]) = H2 at *
  refine lam_made I2 TB hcode hm hu hT2 (L.has I2.ok) fun f H3 s' I3 m => ⟨.ref f, H3, I3, rfl, h f H3 _ (m.of_ext e2 n2) fun P w s c' doc pm ctv ok => ?_⟩
  have ht3 : H3 s1.heap.objs.size = some (.tup [.int i]) := m.1 _ _ ht fun _ z => by cases z
  obtain ⟨_, its, vs, o, h1, h2, n, h3⟩ := (show ObjOk P w H3 s.heap s1.heap.objs.size (.tup [.int i]) from ok _ _ ht3)
  cases vs with
  | @cons _ u _ ur ra rw' =>
    cases rw'
    exact ⟨[(x, u)], .of_defaults rfl h1 h3 rfl (by simp), fun y hy => by
      rw [List.mem_singleton.mp hy]
      exact hx⟩
end
section
variable {X : Cx} {scope : Scope} {params : Arguments} {body : Expr} {k : Nat}
/-- the captured cells' objects, now -/
def heldNow (X : Cx) (scope : Scope) (h : Heap) : Addr → Option Obj := fun c => if (clo X scope).any (fun p => decide (p.2 = c)) then h.get? c else none
theorem held_mem {h : Heap} {c : Addr} {o : Obj} (e : heldNow X scope h c = some o) : (∃ y, (y, c) ∈ clo X scope) ∧ h.get? c = some o := by
  unfold heldNow at e
  split at e
  · rename_i q
    obtain ⟨⟨y, c2⟩, hp, z⟩ := List.any_eq_true.mp q
    exact ⟨⟨y, of_decide_eq_true z ▸ hp⟩, e⟩
  · cases e
theorem held_in {h : Heap} {y : Str} {c : Addr} (e : (clo X scope).lookup y = some c) : heldNow X scope h c = h.get? c := by
  unfold heldNow
  rw [if_pos (List.any_eq_true.mpr ⟨(y, c), PySem.mem_of_lookup e, decide_eq_true rfl⟩)]
theorem clo_mem (L : LScope X.env.scope scope X.N) (ok : X.Ok) {y : Str} {c : Addr} (e : (y, c) ∈ clo X scope) : X.env.cells.lookup y = some c := by
  rcases cloFrom_mem e with hm | ⟨h1, h2⟩
  · cases hm
  · obtain ⟨c1, hc⟩ := L.has ok _ h1 rfl
    have hc : X.env.cells.lookup y = some c1 := hc
    rw [h2, hc]
    rfl
theorem held_of {pins : List (Addr × Obj)} {σ : L2.St} {H : Hp} {s : Shared} (L : LScope X.env.scope scope X.N) (I : Inv X pins σ H s) : Held X scope σ (heldNow X scope s.heap) ∧ Free (heldNow X scope s.heap) H := by
  have hfree := L.has I.ok
  refine ⟨⟨fun y c e => ?_, fun i x v e1 e2 e3 => ?_⟩, fun c o e => ?_⟩
  · obtain ⟨v, o, ho, hd⟩ := I.cell y c (NdefX.clo_cm hfree e)
    exact ⟨o, v, by rw [held_in e]; exact ho, hd⟩
  · obtain ⟨m, hn, hl⟩ := I.loc
    have hm := PySem.mem_of_lookup e3
    have hvis : Vis X.env.scope x := (L.free _ hm rfl).elim (fun k => .inr (.inl k)) fun k => .inr (.inr k)
    obtain ⟨u, r, lo⟩ := hl i x v e1 e2 hvis
    rcases lo with ⟨k, _⟩ | ⟨_, c, ec, o, ho, hd⟩
    · rcases L.free _ hm rfl with k2 | k2 <;> (rw [show X.env.kindOf x = _ from k2] at k; cases k)
    · have e4 := NdefX.clo_has hfree hm ec
      exact ⟨c, o, u, e4, by rw [held_in e4]; exact ho, hd, r⟩
  · obtain ⟨⟨y, hy⟩, _⟩ := held_mem e
    exact I.freeC y c (clo_mem L I.ok hy)
/-- what a def makes of the exceptions of what it is handed, is the same with cells tracked -/
def Nat1 (Wx : Value → Option Addr → Hp → VK → Prop) : Prop := ∀ (l : Addr → Option Obj) (cls : Value) (d : Option Addr) (H : Hp) (Q : VK), Free l H → Wx cls d H Q → Wx cls d (addC l H) (fun v H2 => Cin l H2 ∧ Q v (subC l H2))
/-- the promise of a def that calls what it is handed, gives out what that gives, and makes Wx of its exceptions -/
def spGive (Wx : Value → Option Addr → Hp → VK → Prop) (act : Act) : Sp := fun vs H Q _ => ∃ f, vs = [.ref f] ∧ act f H Q (fun cls d H' => Wx cls d H' Q)
/-- x(lambda: body) -/
theorem pe_give {Wx : Value → Option Addr → Hp → VK → Prop} {T : List (Addr × Str)} {x a : Str} {g : Addr} {fd : FuncData} {j : Nat} {tb : XK → TE} {p lpos pos : Pos} (nat : Nat1 Wx)
    (G : ∀ act, ActOk X.prog X.w X.K X.mg X.base (k + 1) act → FnOk X.prog X.w X.K X.mg X.base CX0 j g fd [a] (spGive Wx act)) (hr : Room j X.A) (hg : Gl X x) (hm : X.mg x = some (.ref g)) (hk : PySem.W.keepIn X.K (.ref g) = true) (hb : Binds X.K fd [a] [])
    (hfn : ∀ y, X.fn y = true) (L : LScope X.env.scope scope X.N) (he : PE X (.Lambda params body scope lpos) (tLamV X scope params body T))
    (hbody : ∀ (A : Around) (outer : List Env) (s : Shared) (H : Hp) (E : XK) (f c' : Addr), Room k (A.deeper (lamEnv X scope s.heap.objs.size f c')) → PE (lamCx X A outer s H E scope f c') body (tb E)) (hdb : (x == ("__debug__" : Str)) = false := by decide) :
    PE X (.Call (.Name x p) [.Lambda params body scope lpos] [] pos) (fun σ H Q => Tabs T H ∧ ∀ H1, ExtN H H1 → Tabs T H1 → tb (fun cls d H2 => Wx cls d H2 Q) σ H1 Q) := by
  refine ⟨fun pins s σ H Q I ⟨hT, h⟩ => ?_⟩
  refine wpAny_Call_Name_kw (ld_glob I hg hm ?_ hdb)
  refine PySem.W.callWith_K (h₀ := X.base) I.ok.mod.kin hk (thn ((pa_cons he pa_nil).run pos pins s σ H (fun vs H1 => ∃ f dV, vs = [.ref f] ∧ Made X scope params body T H dV f H1 ∧ BindL X scope params body dV H1) I ⟨hT, fun f H1 dV m b => ⟨f, dV, rfl, m, b⟩⟩) fun us s1 ⟨vs, H1, I1, r, f, dV, ev, m, bl⟩ => ⟨I1.kIn, ?_⟩) rfl rfl
  subst ev
  obtain ⟨V, F⟩ := held_of L I1
  obtain ⟨x1, t1, nf, c', doc, pm, ctv, hf, hc⟩ := m
  have q := h H1 x1 t1
  have hh : ∀ b o, heldNow X scope s1.heap b = some o → s1.heap.get? b = some o := fun b o e => (held_mem e).2
  have cell_hi : ∀ b o, heldNow X scope s1.heap b = some o → X.s_0.heap.objs.size ≤ b := fun b o e => by
    obtain ⟨⟨y, hy⟩, _⟩ := held_mem e
    exact I.ok.cab y b (hfn y) (clo_mem L I.ok hy)
  have cell_ne : ∀ b o, heldNow X scope s1.heap b = some o → b ≠ X.env.locals := fun b o e => by
    obtain ⟨⟨y, hy⟩, _⟩ := held_mem e
    exact I1.cne y b (clo_mem L I.ok hy)
  have okA := hok_add F I1.hok hh
  generalize heldNow X scope s1.heap = l at *
  have A := lact_ok (params := params) (body := body) I.ok L V I1.len hbody
  have e0 := I1.env0
  have none_of : ∀ b, H1 b = none → l b = none → addC l H1 b = none := fun b n e => by rw [addC_out e]; exact n
  have lbase : ∀ b o, X.base.get? b = some o → l b = none := fun b o e => by
    cases z : l b with
    | none => rfl
    | some o2 => exact absurd (Nat.lt_of_lt_of_le (Heap.lt_size e) I.ok.bsz) (Nat.not_lt.mpr (cell_hi b o2 z))
  have lfr : ∀ b ∈ frs X.stack, l b = none := fun b hb => by
    cases z : l b with
    | none => rfl
    | some o2 =>
      rcases List.mem_cons.mp (I1.stkSub b hb) with y | y
      · exact absurd y (cell_ne b o2 z)
      · obtain ⟨_, ob, hob, _⟩ := I1.ok.funs.mem y
        exact absurd (Heap.lt_size hob) (Nat.not_lt.mpr (cell_hi b o2 z))
  have e1 : Env0 X.prog X.w X.K X.mg X.base X.A X.stack s1 (addC l H1) := ⟨e0.frames, e0.mod, fun b o e => ⟨(e0.bs b o e).1, none_of b (e0.bs b o e).2 (lbase b o e)⟩, e0.bsz, e0.funs, fun b hb => none_of b (e0.frf b hb) (lfr b hb), okA, e0.bare⟩
  have hsp : spGive Wx (lact X scope params body σ l tb) [.ref f] (addC l H1) (fun v H2 => Cin l H2 ∧ Q v (subC l H2)) (fun _ _ _ => False) := by
    refine ⟨f, rfl, c', dV, doc, pm, ctv, H1, Q, _, rfl, F, hf, hc, fun P w s c' doc pm ctv ok => ?_, q, fun v H2 F2 q2 => ⟨cin_add, by rw [sub_add F2]; exact q2⟩, fun cls d H2 F2 q2 => nat l cls d H2 Q F2 q2⟩
    have := hok_sub (l := l) cin_add ok
    rw [sub_add F] at this
    exact bl P w s c' doc pm ctv this
  refine wpAny_call (codeAny_mono ((G _ A).run X.A X.stack s1 (addC l H1) ⟨us, []⟩ (us ++ []) [.ref f] _ _ hr e1 (hb s1 us I1.kIn (by rw [List.append_nil, ← r.length]; rfl)) (by rw [List.append_nil]; exact r) hsp) fun r s' hq => ?_)
  match r with
  | .error er => exact hq.elim
  | .ok (.ret u) =>
    obtain ⟨v, H2, os, bare, un, hok, r2, C2, q2⟩ := hq
    exact ⟨v, subC l H2, I1.call' (ch := []) os (un_sub F C2 hok hh un) (hok_sub C2 hok) bare (fun b z => absurd z (by simp)), r2, q2⟩
  | .ok .next => exact hq.elim
  | .ok .brk => exact hq.elim
  | .ok .cont => exact hq.elim
end
end CS
set_option Elab.async false
set_option maxRecDepth 100000
set_option maxHeartbeats 4000000
set_option linter.unusedVariables false
/-! An exception class of the program's own over any built-in one, whose __init__ stores its one argument. -/
namespace CS
open PySem PySem.Spec PyProof.Rows L2
/-- what the written part says of it: x its name, f the field, bmB the built-in classes above -/
structure OwnX (K : PySem.W.Frag) (mg : Str → Option Value) (x f : Str) (C fI : Addr) (bmB : List Value) (newId : String) : Prop where
  gC : mg x = some (.ref C)
  ini : PySem.W.excInitIn K C bmB newId = true
  ovr : PySem.W.excOver K C bmB = true
  sa : PySem.W.findIn K (.ref C) "__setattr__" = some (some (.builtin "object.__setattr__"))
  tk : PySem.W.takerIn K C f = some none
  xf : XfC K C
  noF : PySem.W.findIn K (.ref C) f = some none
  iC : PySem.W.findIn K (.ref C) "__init__" = some (some (.ref fI))
  tI : PySem.W.typeIn K (.ref fI) = some (.type "function")
  kC : PySem.W.keepIn K (.ref C) = true
  tyC : PySem.W.typeIn K (.ref C) = some (.type "type")
section
variable {X : Cx} {pins : List (Addr × Obj)} {σ : L2.St} {H : Hp} {s : Shared} {a C fI : Addr} {x f : Str} {y : V} {u : Value} {bmB : List Value} {B newId initId : String}
/-- what the store leaves -/
def Stored (H : Hp) (a C : Addr) (f : Str) (y : V) (dx : Addr) (H' : Hp) : Prop := H dx = none ∧ dx ≠ a ∧ H' a = some (exo a C (some dx)) ∧ H' dx = some (exd dx [(f, y)]) ∧ ∀ b, b ≠ a → b ≠ dx → H' b = H b
theorem put_new {A : Around} {Q : Unit → Shared → Prop} {E : Value → Shared → Prop} (SF : StoreFacts B bmB "object.__setattr__" "object") (T : OwnX X.K X.mg x f C fI bmB newId) (I : Inv X pins σ H s) (e : H a = some (exo a C none)) (ry : RelV y u)
    (h : ∀ dx H' s', Stored H a C f y dx H' → Inv X pins σ H' s' → Q () s') : wpAny (model X.prog X.w) A (setAttr (.ref a) f u) Q E s := by
  obtain ⟨t1, ho⟩ := exo_at I.hok e
  obtain ⟨hp, g, d, t, os⟩ := s
  have hnd : H hp.objs.size = none := I.hok.fresh (Nat.le_refl _)
  have lt : a < hp.objs.size := Heap.lt_size ho
  have dne : hp.objs.size ≠ a := Nat.ne_of_gt lt
  obtain ⟨cd, hc, hd⟩ := PySem.W.any_some T.xf.hdC
  refine PySem.W.set_plain I.kIn (od := none) ⟨ho, rfl, rfl, trivial⟩ T.sa ?_
  refine PySem.W.osa_openX SF I.kIn (od := none) ⟨ho, rfl, rfl, trivial⟩ T.ovr T.tk fun b => ?_
  refine wpAny_bind (wpAny_pure (wpAny_bind (PySem.W.instanceDict_exc ho (PySem.W.looks_clsIn I.kIn hc) hd ?_)))
  have e1 : (hp.push (PySem.W.dictOf [] 0)).get? hp.objs.size = some (PySem.W.dictOf [] 0) := Heap.get?_push_size _ rfl
  have n1 : (hp.push (PySem.W.dictOf [] 0)).Ns hp.objs.size (fun _ => none) := ⟨_, _, _, e1, rfl, fun q hq => absurd hq (by simp), fun _ => rfl⟩
  have I1 : Inv X pins σ (upd H hp.objs.size (exd hp.objs.size [])) ⟨hp.push (PySem.W.dictOf [] 0), g, d, t, os⟩ := I.laid (fun b o q => Heap.get?_push_of_some _ q) (Nat.le_refl _) (exd_ok (Heap.Ns1.of_empty n1) fun _ => True.intro)
  have ea : upd H hp.objs.size (exd hp.objs.size []) a = some (exo a C none) := by rw [upd_ne (Ne.symm dne)]; exact e
  have ho1 := Heap.get?_push_of_some (PySem.W.dictOf [] 0) ho
  have ho2 := Heap.get?_update_self (fun o : Obj => { o with dict := some hp.objs.size }) ho1 rfl
  have I2 := I1.write (x := a) (e := a) (o := exo a C (some hp.objs.size)) (t' := t) (h' := (hp.push (PySem.W.dictOf [] 0)).update a fun o => { o with dict := some hp.objs.size }) (by rw [ea]; exact True.intro) (.inl rfl)
    (fun b o hb q => by rw [Heap.get?_update_other _ _ (Ne.symm hb)]; exact q) ⟨_, ho2⟩ (exo_ok ho2)
  have n2 : ((hp.push (PySem.W.dictOf [] 0)).update a fun o => { o with dict := some hp.objs.size }).Ns hp.objs.size (fun _ => none) :=
    ⟨_, _, _, by rw [Heap.get?_update_other _ _ (Ne.symm dne)]; exact e1, rfl, fun q hq => absurd hq (by simp), fun _ => rfl⟩
  have ed : upd (upd H hp.objs.size (exd hp.objs.size [])) a (exo a C (some hp.objs.size)) hp.objs.size = some (exd hp.objs.size []) := by rw [upd_ne dne, upd_same]
  show wpAny _ _ (Builtin.ObjectAttr.storeInDict hp.objs.size _ f u) _ _ _
  refine PySem.HandSPX.store_in_new n2 fun h3 tk3 hn3 hs3 => ?_
  obtain ⟨o3, es3, ep3, q3, r3⟩ := id hn3
  have I3 := I2.write (x := hp.objs.size) (e := hp.objs.size) (o := exd hp.objs.size [(f, y)]) (t' := tk3) (h' := h3) (by rw [ed]; exact True.intro) (.inl rfl) (fun b o hb q => (hs3.2 b hb).trans q) ⟨_, q3⟩
    (exd_ok hn3 (relO_put (fs := []) ry fun g => True.intro))
  exact h _ _ _ ⟨hnd, dne, by rw [upd_ne (Ne.symm dne), upd_same], upd_same, fun b h1 h2 => by rw [upd_ne h2, upd_ne h1, upd_ne h2]⟩ I3
/-- self.f = e, self an exception that has no field yet -/
def tPut (C : Addr) (f : Str) (to te : TE) : TS := fun D σ H => te σ H fun y H1 => to σ H1 fun x H2 => ∃ a, x = .ref a ∧ H2 a = some (exo a C none) ∧ ∀ dx H', Stored H2 a C f y dx H' → D.nx σ H'
theorem ps_put {o e : Expr} {to te : TE} {p' pos : Pos} (SF : StoreFacts B bmB "object.__setattr__" "object") (T : OwnX X.K X.mg x f C fI bmB newId) (ho : PE X o to) (he : PE X e te) (hs : swapsWith e (some (.Attribute o f p')) pos.line X.env = pure false := by rfl) : PS X (.Assign [.Attribute o f p'] e pos) (tPut C f to te) := by
  refine ⟨fun pins s σ H D I h => plainObj_wpAny_Assign_Attribute (thn (he.run pins s σ H _ I h) fun v s1 ⟨y, H1, I1, r1, q1⟩ => thn (ho.run pins s1 σ H1 _ I1 q1) fun w2 s2 ⟨z, H2, I2, r2, a, ez, ea, q⟩ => ?_) hs⟩
  subst ez
  obtain rfl : w2 = Value.ref a := r2
  exact put_new SF T I2 ea r1 fun dx H' s' st J => ⟨σ, H', J, q dx H' st⟩
/-- the promise of such an __init__ -/
def spPut (C : Addr) (f : Str) : Sp := fun vs H Q _ => ∃ a y, vs = [.ref a, y] ∧ H a = some (exo a C none) ∧ ∀ dx H', Stored H a C f y dx H' → Q .non H'
theorem ok_put {P : Program} {w : World} {K : PySem.W.Frag} {mg : Str → Option Value} {base : Heap} {st : Stmt} {qual : Str} {fd : FuncData} {p1 p2 p3 p4 : Pos} (SF : StoreFacts B bmB "object.__setattr__" "object") (T : OwnX K mg x f C fI bmB newId)
    (F : Fun K "__init__" qual st fI fd) (S : FnScope ["self", f] ["self", f] (defScope st)) (hb : defBody st = [.Assign [.Attribute (.Name "self" p1) f p2] (.Name f p3) p4]) (hf : (defScope st).names.lookup f = some .local) (hs : (defScope st).names.lookup ("self" : Str) = some .local)
    (hd : (f == ("__debug__" : Str)) = false) (hcd : (f == ("__classdict__" : Str)) = false) (hsw : ∀ env : Env, swapsWith (.Name f p3) (some (.Attribute (.Name "self" p1) f p2)) p4.line env = pure false) : FnOk P w K mg base CX0 1 fI fd ["self", f] (spPut C f) := by
  refine F.ok S (fun vs H Q E h => ?_) (fun cdv A outer s H vs Q E hr h => ?_)
  · obtain ⟨a, y, rfl, _⟩ := h
    rfl
  · obtain ⟨a, y, rfl, ea, k⟩ := h
    rw [hb]
    refine ⟨_, pss_one (ps_put SF T (pe_var (i := 0) rfl (.inl hs) (by decide) (by decide)) (pe_var (i := 1) rfl (.inl hf) hd hcd) (hsw _)), ?_⟩
    exact ⟨_, rfl, _, rfl, a, rfl, ea, fun dx H' st => k dx H' st⟩
/-- C(e) as an exception that is raised -/
def tMkX (C : Addr) (f : Str) (ta : TA) : L2.St → Hp → XK → Prop := fun σ H Q => ta σ H fun vs H1 => ∃ v, vs = [v] ∧ ∀ d, H1 d = none → Q (.ref C) (some d) (upd H1 d (.xd [(f, v)]))
theorem pmk_own1 {e : Expr} {ta : TA} {p pos : Pos} {k : Nat} {fd : FuncData} (FB : ExcBaseFacts B newId initId bmB) (T : OwnX X.K X.mg x f C fI bmB newId) (G : FnOk X.prog X.w X.K X.mg X.base CX0 k fI fd ["self", f] (spPut C f)) (hb : Binds X.K fd ["self", f] []) (hr : Room (k + 1) X.A) (hg : Gl X x) (ha : PA X [e] ta)
    (hdb : (x == ("__debug__" : Str)) = false := by decide) (he : starEach [e] X.env = (false, eval e X.env) :: starEach [] X.env := by rfl) (hpl : (backTo pos (starEach [] X.env)).any (·.1) = false := by rfl) : PMk X (.Call (.Name x p) [e] [] pos) (tMkX C f ta) := fun pins s σ H Q I h => by
  refine wpAny_Call_Name_kw (ld_glob I hg T.gC (PySem.W.callWith_K (h₀ := X.base) I.ok.mod.kin T.kC (thn (ha.run pos pins s σ H _ I h) fun us s1 ⟨vs, H1, I1, r1, v, ev, q⟩ => ⟨I1.kIn, ?_⟩) he hpl) hdb)
  subst ev
  obtain ⟨nm, N, qn, bs, bm, hdct, sn, sub, ab, col, dd, k0, k1, k2, k3, k5, hC, hT⟩ := PySem.W.excInit_of I1.kIn T.ini
  have hus : us.length ≤ sizeLine := by
    rw [← r1.length]
    show 1 ≤ sizeLine
    decide
  obtain ⟨hp, g, dr, tk, os⟩ := s1
  obtain ⟨a, ea⟩ : ∃ a, a = hp.objs.size + 1 := ⟨_, rfl⟩
  obtain ⟨h2, eh⟩ : ∃ h2, h2 = (hp.push (PySem.W.kdv_tup us)).push (PySem.HandSPX.excO C hp.objs.size) := ⟨_, rfl⟩
  have big : hp.objs.size ≤ a := by rw [ea]; exact Nat.le_succ _
  have kp : ∀ b o, hp.get? b = some o → h2.get? b = some o := fun b o z => by
    rw [eh]
    exact Heap.get?_push_of_some _ (Heap.get?_push_of_some _ z)
  have at_ : h2.get? a = some (PySem.HandSPX.excO C hp.objs.size) := by
    rw [eh, ea]
    heap_get
  have na : H1 a = none := I1.hok.fresh big
  have I2 : Inv X pins σ (upd H1 a (exo a C none)) ⟨h2, g, dr, tk, os⟩ := I1.laid (t' := tk) kp big (exo_ok at_)
  have hsp : spPut C f [.ref a, v] (upd H1 a (exo a C none)) (fun v2 H2 => v2 = .non ∧ ∃ dx, Stored (upd H1 a (exo a C none)) a C f v dx H2) (fun _ _ _ => False) := ⟨a, v, rfl, upd_same, fun dx H' st => ⟨rfl, dx, st⟩⟩
  have run := G.run (A := X.A.under (.builtin "type.__call__" ⟨.ref C :: us, []⟩)) (outer := X.stack) (s := ⟨h2, g, dr, tk, os⟩) (args := ⟨.ref a :: us, []⟩) (us := .ref a :: us) (vs := [.ref a, v]) (Q := _) (E := fun _ _ _ => False) (H := upd H1 a (exo a C none)) (hr.make C us []) (I2.env0.make C us [])
    (by have := hb ⟨h2, g, dr, tk, os⟩ (.ref a :: us) I2.kIn (by rw [List.append_nil, List.length_cons, ← r1.length]; rfl); rw [List.append_nil] at this; exact this) (.cons rfl r1) hsp
  show wpAny _ _ (call (.ref C) us) _ _ _
  refine wpAny_call (PySem.HandSPX.call_own FB hT hC (PySem.W.looks_findIn I1.kIn T.iC) (fun self => PySem.W.bind_fn I1.kIn self T.tI) hus ?_)
  rw [← ea, ← eh]
  refine codeAny_mono run fun r s' hq => ?_
  match r with
  | .error er => exact hq.elim
  | .ok .next => exact hq.elim
  | .ok .brk => exact hq.elim
  | .ok .cont => exact hq.elim
  | .ok (.ret z) =>
    obtain ⟨v2, H2, os2, bare2, un2, hok2, rv, ev2, dx, st1, st2, st3, st4, st5⟩ := hq
    have nd : H1 dx = none := by rw [upd_ne st2] at st1; exact st1
    have eq : upd (del H2 a) dx (.xd [(f, v)]) = upd H1 dx (.xd [(f, v)]) := by
      funext b
      by_cases h1 : b = dx
      · rw [h1, upd_same, upd_same]
      · rw [upd_ne h1, upd_ne h1]
        by_cases h2 : b = a
        · rw [h2, del_same, na]
        · rw [del_ne h2, st5 b h2 h1, upd_ne h2]
    obtain ⟨h3, g3, d3, t3, os3⟩ := s'
    have fin := mk_end (Q := Q) (d2 := d3) (t2 := t3) (raises_own T.xf.exC T.tyC) I1 big kp un2 hok2 os2 bare2 st3 st4 nd (by rw [eq]; exact q dx nd)
    subst ev2
    exact ⟨rv, fin⟩
end
end CS
set_option Elab.async false
set_option maxRecDepth 100000
set_option maxHeartbeats 4000000
set_option linter.unusedVariables false
/-! try with several except clauses, some with a name, some without. -/
namespace CS
open PySem PySem.Spec PyProof.Rows L2
/-- the exception at a, of the class cls with the dict d, has landed; W0 is what is wanted of one that no clause takes -/
structure Landed (X : Cx) (pins : List (Addr × Obj)) (σ : L2.St) (H : Hp) (a : Addr) (cls : Value) (d : Option Addr) (s : Shared) : Prop where
  go : ∃ (B : Heap) (sI : Shared), HandSPX.FlyingZ B (X.env :: X.outer) a (Zc cls d) s.heap ∧ Inv X pins σ H sI ∧ (∀ b o, sI.heap.get? b = some o → b ∉ frs X.stack → B.get? b = some o) ∧ sI.heap.UpToSlots s.heap ∧ s.os = sI.os ∧ AllBare s.gens
  no : H a = none
abbrev TSx := Addr → Value → Option Addr → TS
section
variable {X : Cx} {pins : List (Addr × Obj)} {σ : L2.St} {H : Hp} {s : Shared} {a : Addr} {cls : Value} {d : Option Addr}
theorem Landed.inv (L : Landed X pins σ H a cls d s) : Inv X pins σ H s := by
  obtain ⟨B, sI, fl, J, nb, up, os, ag⟩ := L.go
  exact J.landed nb fl.1 up os ag
/-- the state within a suite -/
theorem Landed.suite (L : Landed X pins σ H a cls d s) (hf : X.env.frame = some X.env.locals) : ∃ oe, Zc cls d oe ∧ (∃ vs, oe.data = .fields vs) ∧ s.heap.get? a = some oe ∧ Inv (X.suite a ((a, oe) :: (X.pn ++ pins))) [] σ H s := by
  have J := L.inv
  obtain ⟨B, sI, fl, _⟩ := L.go
  obtain ⟨oe, vs, he, hz, hd⟩ := fl.there
  have no : a ∉ frs (X.env :: X.outer) := fun hm => by
    obtain ⟨_, o, e, n⟩ := fl.2.2.1.mem hm
    rw [he] at e
    cases e
    exact n _ hd
  have in_ : ∀ e ∈ X.env :: X.outer, e.frame ≠ some a := fun e he q => no (List.mem_filterMap.mpr ⟨e, he, q⟩)
  refine ⟨oe, hz, ⟨vs, hd⟩, he, J.suite he hd L.no (fun z => in_ _ List.mem_cons_self (by rw [hf, z])) fun hm => ?_⟩
  obtain ⟨e, h1, h2⟩ := List.mem_filterMap.mp hm
  exact in_ e (List.mem_cons_of_mem _ h1) h2
/-- it is looked at once more -/
theorem Landed.again {M : Model} {A : Around} {E : Value → Shared → Prop} {Q : Unit → Shared → Prop} (L : Landed X pins σ H a cls d s) (h : ∀ s', Landed X pins σ H a cls d s' → Q () s') :
    ∃ B, HandSPX.FlyingZ B (X.env :: X.outer) a (Zc cls d) s.heap ∧ ∀ h', HandSPX.FlyingZ B (X.env :: X.outer) a (Zc cls d) h' → s.heap.UpToSlots h' → Q () { s with heap := h' } := by
  obtain ⟨B, sI, fl, J, nb, up, os, ag⟩ := L.go
  exact ⟨B, fl, fun h' fl' up' => h _ ⟨⟨B, sI, fl', J, nb, up.trans up', os, ag⟩, L.no⟩⟩
end
/-- clauses with a name or without; what they wish of an exception, the wish W0 where none takes it -/
inductive Clauses (X : Cx) (W0 : WX) : List ExceptHandler → (Ends → WX) → Prop
  | nil : Clauses X W0 [] (fun _ => W0)
  | plain {x : Str} {c : Value} {ts : TSx} {b₀ : Stmt} {suite : List Stmt} {np pos' : Pos} {hds : List ExceptHandler} {W : Ends → WX} (hc : Names X x c)
      (hsu : ∀ (a : Addr) (oe : Obj) (cls : Value) (d : Option Addr) (pn : List (Addr × Obj)), Zc cls d oe → (∃ vs, oe.data = .fields vs) → PSs (X.suite a ((a, oe) :: pn)) (b₀ :: suite) (ts a cls d)) (r : Clauses X W0 hds W) :
      Clauses X W0 (.ExceptHandler (some (.Name x np)) none (b₀ :: suite) pos' :: hds) (fun D cls d σ H => ∃ b, PySem.W.exmOne X.K cls c = some b ∧ (b = true → ∀ a, H a = none → ts a cls d D σ H) ∧ (b = false → W D cls d σ H))
  | named {x n : Str} {c : Value} {i : Nat} {ts : TSx} {b₀ : Stmt} {suite : List Stmt} {np pos' : Pos} {hds : List ExceptHandler} {W : Ends → WX} (hc : Names X x c) (hi : X.N[i]? = some n) (hln : X.env.kindOf n = some .local)
      (hsu : ∀ (a : Addr) (oe : Obj) (cls : Value) (d : Option Addr) (pn : List (Addr × Obj)), Zc cls d oe → (∃ vs, oe.data = .fields vs) → PSs (X.suite a ((a, oe) :: pn)) (b₀ :: suite) (ts a cls d)) (r : Clauses X W0 hds W) :
      Clauses X W0 (.ExceptHandler (some (.Name x np)) (some n) (b₀ :: suite) pos' :: hds) (fun D cls d σ H => ∃ b, PySem.W.exmOne X.K cls c = some b ∧
        (b = true → ∀ a, H a = none → ts a cls d { nx := fun σ' H' => D.nx (σ'.set i none) H', rt := D.rt, bk := fun σ' H' => D.bk (σ'.set i none) H', ct := fun σ' H' => D.ct (σ'.set i none) H' } (σ.set i (some (.ref a))) H) ∧ (b = false → W D cls d σ H))
section
variable {X : Cx} {pins : List (Addr × Obj)} {σ : L2.St} {H : Hp} {s : Shared} {a : Addr} {cls : Value} {d : Option Addr} {W0 : WX}
/-- a clause's test -/
theorem Landed.test (L : Landed X pins σ H a cls d s) (hf : X.env.frame = some X.env.locals) {x : Str} {c : Value} {np : Pos} (hc : Names X x c) {b : Bool} (hb : PySem.W.exmOne X.K cls c = some b) {Q E : Value → Shared → Prop}
    (q : (∀ (A : Around) (Q E : Bool → Shared → Prop), True) → ∀ M, PySem.W.Looks M s.heap (typeOf (.ref a)) cls → Q c s) : wpAny (model X.prog X.w) (X.A.mark (some (.ref a))) (eval (.Name x np) X.env) Q E s := by
  obtain ⟨oe, hz, hd, he, S⟩ := L.suite hf
  have q2 : Q c s := q (fun _ _ _ => trivial) (model X.prog X.w) fun A Q E s k q => wpAny_typeOf_ref (k _ _ he) (by rw [hz.1]; exact q)
  obtain ⟨hg, hdbg, hm | ⟨hm, hv, hnn⟩⟩ := hc
  · exact ld_glob (X := X.suite a ((a, oe) :: (X.pn ++ pins))) S hg hm q2 hdbg
  · exact ld_blt (X := X.suite a ((a, oe) :: (X.pn ++ pins))) S hg hm hv q2 hnn hdbg
theorem ends_plain {a : Addr} {p : Addr × Obj} {D : Ends} {f : Flow} (ok : X.Ok) (h : SP (X.suite a (p :: (X.pn ++ pins))) [] D f s) : SP X pins D f s := by
  cases f with
  | ret u =>
    obtain ⟨v, σ6, H6, S6, r, q⟩ := h
    exact ⟨v, σ6, H6, S6.unsuite ok, r, q⟩
  | next =>
    obtain ⟨σ6, H6, S6, q⟩ := h
    exact ⟨σ6, H6, S6.unsuite ok, q⟩
  | brk =>
    obtain ⟨σ6, H6, S6, q⟩ := h
    exact ⟨σ6, H6, S6.unsuite ok, q⟩
  | cont =>
    obtain ⟨σ6, H6, S6, q⟩ := h
    exact ⟨σ6, H6, S6.unsuite ok, q⟩
theorem caught (hs : X.stack = X.env :: X.outer) (hf : X.env.frame = some X.env.locals) (hN : X.N.Nodup) (tk : Takes X W0) {D : Ends} {hds : List ExceptHandler} {W : Ends → WX} (C : Clauses X W0 hds W) (L : Landed X pins σ H a cls d s) (w : W D cls d σ H) :
    wpAny (model X.prog X.w) X.A (handleBy (.ref a) X.env hds) (SP X pins D) X.xe s := by
  have ok := L.inv.ok
  have LT : ∀ M, PySem.W.Looks M s.heap (typeOf (.ref a)) cls := fun M => by
    obtain ⟨oe, hz, _, he, _⟩ := L.suite hf
    exact fun A Q E s k q => wpAny_typeOf_ref (k _ _ he) (by rw [hz.1]; exact q)
  induction C with
  | nil =>
    refine wpAny_handleBy_nil ?_
    obtain ⟨B, sI, fl, J, nb, up, os, ag⟩ := L.go
    obtain ⟨_, _, _, oe, vs, T, oT, ts, he, _, hd, h1, _⟩ := id fl
    have out : wpAny (model X.prog X.w) X.A (setFlight (.ref a) X.env.frame) (fun _ s4 => wpAny (model X.prog X.w) X.A (throw (.ref a) : Sem Flow) (SP X pins D) X.xe s4) X.xe s := by
      rw [hf]
      exact HandSPX.setFlight_upZ fl fun h4 hh4 up4 => wpAny_throw (tk _ _ ⟨a, B, sI, pins, σ, H, cls, d, rfl, J, nb, up.trans up4, .inr (.inr (by rw [hs]; exact hh4)), L.no, os, ag, w⟩)
    unfold PySem.passOn
    refine wpAny_bind (wpAny_field he hd h1 ?_)
    rw [if_neg (show ¬ ((Value.ref T == Value.none) = true) from by simp)]
    first
      | exact wpAny_bind (wpAny_pure (wpAny_bind out))
      | exact wpAny_bind out
  | plain hc hsu r ih =>
    obtain ⟨b, hb, yes, no⟩ := w
    refine wpAny_handleBy_cons (codeAny_handlers_test (L.test hf hc hb fun _ _ _ => ((PySem.W.exm_one (M := model X.prog X.w) L.inv.kIn (LT _) hb).here ?_))) (by intro q; cases q)
    cases b with
    | false => exact ih (no rfl)
    | true =>
      refine codeAny_handlers_suite ?_
      obtain ⟨B, fl, k⟩ := L.again (M := model X.prog X.w) (A := X.A) (E := X.xe) (Q := fun _ s' => Landed X pins σ H a cls d s') fun _ z => z
      refine HandSPX.lands_againZ fl fun h4 fl4 up4 => ?_
      obtain ⟨oe, hz, hd, he, S⟩ := (k h4 fl4 up4).suite hf
      exact wpAny_mono ((hsu a oe cls d (X.pn ++ pins) hz hd).run [] _ _ H _ S (yes rfl a L.no)) (fun f s6 hsp => ends_plain ok hsp) fun _ _ z => z.elim
  | @named x n c i ts b₀ suite np pos' hds W hc hi hln hsu r ih =>
    obtain ⟨b, hb, yes, no⟩ := w
    refine wpAny_handleBy_cons (codeAny_handlers_test (L.test hf hc hb fun _ _ _ => ((PySem.W.exm_one (M := model X.prog X.w) L.inv.kIn (LT _) hb).here ?_))) (by intro q; cases q)
    cases b with
    | false => exact ih (no rfl)
    | true =>
      refine codeAny_handlers_suite_as ?_
      obtain ⟨B, fl, k⟩ := L.again (M := model X.prog X.w) (A := X.A) (E := X.xe) (Q := fun _ s' => Landed X pins σ H a cls d s') fun _ z => z
      refine HandSPX.lands_againZ fl fun h4 fl4 up4 => ?_
      obtain ⟨oe, hz, hd, he, S⟩ := (k h4 fl4 up4).suite hf
      refine store_ok (X := X.suite a ((a, oe) :: (X.pn ++ pins))) (v := .ref a) S hN hi (.inl hln) rfl (fun s5 S5 => ?_) (.inr hln)
      refine wpAny_mono ((hsu a oe cls d (X.pn ++ pins) hz hd).run [] s5 _ H _ S5 (yes rfl a L.no)) (fun f s6 hsp => ?_) fun _ _ z => z.elim
      have gone : ∀ {σ6 : L2.St} {H6 : Hp} {Q : Shared → Prop}, Inv X pins σ6 H6 s6 → (∀ s7, Inv X pins (σ6.set i none) H6 s7 → Q s7) → wpAny (model X.prog X.w) X.A (do bindName X.env n .none; unbindBehindTheSuite X.env n pos') (fun _ s7 => Q s7) X.xe s6 :=
        fun J6 hq => gone_ok J6 hN hi hln hq
      have q6 := ends_plain ok hsp
      cases f with
      | ret u =>
        obtain ⟨v6, σ6, H6, J6, r6, q6⟩ := q6
        exact gone J6 fun s7 J7 => ⟨_, _, _, J7, r6, q6⟩
      | next =>
        obtain ⟨σ6, H6, J6, q6⟩ := q6
        exact gone J6 fun s7 J7 => ⟨_, _, J7, q6⟩
      | brk =>
        obtain ⟨σ6, H6, J6, q6⟩ := q6
        exact gone J6 fun s7 J7 => ⟨_, _, J7, q6⟩
      | cont =>
        obtain ⟨σ6, H6, J6, q6⟩ := q6
        exact gone J6 fun s7 J7 => ⟨_, _, J7, q6⟩
/-- try: body / except .. -/
theorem ps_tryx {body : List Stmt} {h₀ : ExceptHandler} {hds : List ExceptHandler} {W : Ends → WX} {tb : WX → TS} {pos : Pos} (hs : X.stack = X.env :: X.outer) (hf : X.env.frame = some X.env.locals) (hN : X.N.Nodup) (tk : Takes X W0) (C : Clauses X W0 (h₀ :: hds) W)
    (hb : ∀ (W : WX) (pn : List (Addr × Obj)) (xe : Value → Shared → Prop), Takes (X.tr pn xe) W → PassesOwn (model X.prog X.w) X.A X.env xe → PSs (X.tr pn xe) body (tb W)) : PS X (.Try body (h₀ :: hds) [] [] pos) (fun D σ H => tb (W D) D σ H) := by
  refine ⟨fun pins s σ H D I h => ?_⟩
  have ok := I.ok
  have hfr : X.A.frames = some (X.env :: X.outer) := by rw [ok.frames, hs]
  refine wpAny_Try_except (wpAny_mono ((hb (W D) (X.pn ++ pins) _ (fun u s' xx => ?_) PassesOwn.looking).run [] s σ H D (I.toTry _) h) (fun f s1 hsp => ?_) fun _ _ he => he)
  · obtain ⟨a, B, sI, pins', σ', H', cls, d, rfl, J, nb, up, sky, na, os, ag, w⟩ := xx
    have J := J.ofTry ok
    have sky : Sky B (X.env :: X.outer) a (Zc cls d) X.env.locals s'.heap := by rw [← hs]; exact sky
    exact Sky.land Zc.steady hfr hf sky fun h3 fl3 up3 => caught hs hf hN tk C ⟨⟨B, sI, fl3, J, nb, up.trans up3, os, ag⟩, na⟩ w
  · cases f with
    | ret u =>
      obtain ⟨v, σ', H', J, r, q⟩ := hsp
      exact ⟨v, σ', H', J.ofTry ok, r, q⟩
    | next =>
      obtain ⟨σ', H', J, q⟩ := hsp
      exact wpAny_execs_nil ⟨σ', H', J.ofTry ok, q⟩
    | brk =>
      obtain ⟨σ', H', J, q⟩ := hsp
      exact ⟨σ', H', J.ofTry ok, q⟩
    | cont =>
      obtain ⟨σ', H', J, q⟩ := hsp
      exact ⟨σ', H', J.ofTry ok, q⟩
end
end CS
set_option Elab.async false
set_option maxRecDepth 100000
set_option maxHeartbeats 8000000
set_option linter.unusedVariables false
namespace CS
open PySem L2
abbrev bmO : List Value := [.type "OverflowError", .type "ArithmeticError", .type "Exception", .type "BaseException", .type "object"]
abbrev bmV : List Value := [.type "ValueError", .type "Exception", .type "BaseException", .type "object"]
theorem AllF.app {n : Nat} {xs ys : List (Int × Fx)} (h : AllF n xs) (g : AllF n ys) : AllF n (xs ++ ys) := fun a ha => (List.mem_append.mp ha).elim (h a) (g a)
theorem AllF.up {n m : Nat} {xs : List (Int × Fx)} (h : AllF n xs) (l : n ≤ m) : AllF m xs := fun a ha => ⟨(h a ha).1, (h a ha).2.up l⟩
section
variable {P : Program} {w : World} {K : PySem.W.Frag} {mg : Str → Option Value} {base : Heap}
/-- an exception class of the text with its __init__ -/
structure Xc (K : PySem.W.Frag) (mg : Str → Option Value) (x f : Str) (C fI : Addr) (bmB : List Value) (newId : String) (st : Stmt) (qual : Str) (fd : FuncData) : Prop where
  T : OwnX K mg x f C fI bmB newId
  F : Fun K "__init__" qual st fI fd
  b : Binds K fd ["self", f] []
theorem scBsI : FnScope ["self", "given"] ["self", "given"] (defScope (inClass sBadshare 0)) := ⟨rfl, rfl, rfl, by decide +kernel, rfl, by decide +kernel, by decide +kernel⟩
theorem ok_bs_init {CB fI : Addr} {fd : FuncData} (Z : Xc K mg "BadShare" "given" CB fI bmV "ValueError.__new__" (inClass sBadshare 0) "BadShare.__init__" fd) : FnOk P w K mg base CX0 1 fI fd ["self", "given"] (spPut CB "given") :=
  ok_put PySem.F.store_ValueError Z.T Z.F scBsI rfl rfl rfl (by decide +kernel) (by decide +kernel) (fun _ => rfl)
/-- put together: the gathered share, or too many -/
def spPutT (K : PySem.W.Frag) (CT : Addr) : Sp := fun vs H Q E => ∃ p q xs ys, vs = [.ref p, .ref q] ∧ ShAt K H p xs ∧ ShAt K H q ys ∧ Shr xs ∧ Shr ys ∧ AllF 80 xs ∧ AllF 80 ys ∧ ∀ H' r zs, Same H H' → ShAt K H' r zs → IsS (gat [] (xs ++ ys)) zs →
  (zs.length ≤ 8 → Q (.ref r) H') ∧ (8 < zs.length → ∀ d, H' d = none → E (.ref CT) (some d) (upd H' d (.xd [("most", .int 8)])))
end
end CS
set_option maxHeartbeats 1000000
set_option linter.unusedVariables false
namespace CS
theorem ups_new {f : List (Int × Fx)} {k : Int} {x : Fx} (h : k ∉ f.map (·.1)) : ups f k x = f ++ [(k, x)] := by
  induction f with
  | nil => rfl
  | cons a f ih =>
    obtain ⟨i, y⟩ := a
    simp only [List.map_cons, List.mem_cons, not_or] at h
    simp [ups, Ne.symm h.1, ih h.2]
theorem cm_pos {t b : Int} (hb : 0 < b) : 0 < cm t b := by
  unfold cm
  rw [if_neg (by omega)]
  have := gcd_pos (t := t) (b := b) (by omega)
  omega
theorem sg {c l : Int} (h : 0 < c) : (0 < l ↔ 0 < c * l) ∧ (l < 0 ↔ c * l < 0) := by
  rcases Int.lt_trichotomy l 0 with a | a | a
  · have := Int.mul_neg_of_pos_of_neg h a
    omega
  · subst a
    simp
  · have := Int.mul_pos h a
    omega
theorem low_sign {t b : Int} (hb : 0 < b) : (0 < (low t b).1 ↔ 0 < t) ∧ ((low t b).1 < 0 ↔ t < 0) := by
  have e := (low_parts (t := t) (b := b) (by omega)).1
  have h := sg (l := (low t b).1) (cm_pos (t := t) hb)
  rw [← e] at h
  exact h
theorem fr_zero {x : Fx} (h : Fr x) (e : x.1 = 0) : x = (0, 1) := by
  obtain ⟨a, b⟩ := x
  have h1 := h.1
  have h2 := h.2
  simp only at e h1 h2
  subst e
  rw [Int.gcd_zero_left] at h2
  have : b = 1 := by omega
  rw [this]
theorem fadd_pos {x y : Fx} (hx : Fr x) (hy : Fr y) (px : 0 ≤ x.1) (py : 0 ≤ y.1) (h : 0 < x.1 ∨ 0 < y.1) : 0 < (fadd x y).1 := by
  unfold fadd
  rw [(low_sign (dd0 hx hy)).1]
  have h1 := hx.pos
  have h2 := hy.pos
  rcases h with h | h
  · have a := Int.mul_pos h h2
    have b := Int.mul_nonneg py (Int.le_of_lt h1)
    omega
  · have a := Int.mul_pos h h1
    have b := Int.mul_nonneg px (Int.le_of_lt h2)
    omega
theorem scl_neg {y : Fx} (hy : Fr y) : scl y (-1) = (-y.1, y.2) := by
  unfold scl
  refine low_uniq hy.ne ⟨hy.1, ?_⟩ (by simp)
  have := hy.2
  simpa [Int.neg_gcd] using this
theorem fadd_neg {x y : Fx} (hy : Fr y) : fadd x (scl y (-1)) = fsub x y := by
  rw [scl_neg hy]
  unfold fadd fsub
  simp only [Int.neg_mul, Int.sub_eq_add_neg]
theorem fsub_neg_iff {x y : Fx} (hx : Fr x) (hy : Fr y) : (fsub x y).1 < 0 ↔ flt x y = true := by
  unfold fsub flt
  rw [(low_sign (dd0 hx hy)).2, decide_eq_true_iff]
  omega
theorem lk_of_mem : ∀ {xs : List (Int × Fx)} {k : Int} {x : Fx}, (xs.map (·.1)).Nodup → (k, x) ∈ xs → lk xs k = x
  | [], _, _, _, h => by cases h
  | (j, y) :: xs, k, x, hn, h => by
    rw [List.map_cons, List.nodup_cons] at hn
    rw [lk_cons]
    rcases List.mem_cons.mp h with e | h
    · cases e
      rw [if_pos rfl]
    · rw [if_neg fun e => hn.1 (by rw [← e]; exact List.mem_map.mpr ⟨(k, x), h, rfl⟩)]
      exact lk_of_mem hn.2 h
/-- weights taken away one after another -/
def tks (f ys : List (Int × Fx)) : List (Int × Fx) := ys.foldl (fun f kx => ups f kx.1 (fsub (lk f kx.1) kx.2)) f
theorem tks_snoc (f ys : List (Int × Fx)) (a : Int × Fx) : tks f (ys ++ [a]) = ups (tks f ys) a.1 (fsub (lk (tks f ys) a.1) a.2) := by
  unfold tks
  rw [List.foldl_append]
  rfl
theorem tks_none : ∀ (ys f : List (Int × Fx)) (j : Int), j ∉ ys.map (·.1) → lk (tks f ys) j = lk f j
  | [], _, _, _ => rfl
  | (k, x) :: ys, f, j, h => by
    simp only [List.map_cons, List.mem_cons, not_or] at h
    show lk (tks (ups f k (fsub (lk f k) x)) ys) j = _
    rw [tks_none ys _ j h.2, lk_ups, if_neg h.1]
theorem lk_tks : ∀ (ys f : List (Int × Fx)) (j : Int), (ys.map (·.1)).Nodup → lk (tks f ys) j = if j ∈ ys.map (·.1) then fsub (lk f j) (lk ys j) else lk f j
  | [], f, j, _ => by simp [tks]
  | (k, x) :: ys, f, j, h => by
    rw [List.map_cons, List.nodup_cons] at h
    show lk (tks (ups f k (fsub (lk f k) x)) ys) j = _
    by_cases e : j = k
    · subst e
      rw [tks_none ys _ j h.1, lk_ups, if_pos rfl, lk_cons, if_pos rfl, if_pos (by simp)]
    · have q : (j ∈ ((k, x) :: ys).map (·.1)) ↔ j ∈ ys.map (·.1) := by simp [e]
      rw [lk_tks ys _ j h.2, lk_ups, if_neg e, lk_cons, if_neg e]
      simp only [q]
theorem tks_keys : ∀ (ys f : List (Int × Fx)) (j : Int), j ∈ (tks f ys).map (·.1) ↔ j ∈ f.map (·.1) ∨ j ∈ ys.map (·.1)
  | [], f, j => by simp [tks]
  | (k, x) :: ys, f, j => by
    show j ∈ (tks (ups f k _) ys).map (·.1) ↔ _
    rw [tks_keys ys, ups_keys]
    simp only [List.map_cons, List.mem_cons]
    grind
theorem tks_nodup : ∀ (ys f : List (Int × Fx)), (f.map (·.1)).Nodup → ((tks f ys).map (·.1)).Nodup
  | [], _, h => h
  | (k, x) :: ys, f, h => tks_nodup ys _ (ups_nodup f k _ h)
theorem tks_len : ∀ (ys f : List (Int × Fx)), (tks f ys).length ≤ f.length + ys.length
  | [], _ => Nat.le_refl _
  | (k, x) :: ys, f => by
    have h1 := tks_len ys (ups f k (fsub (lk f k) x))
    have h2 := ups_len f k (fsub (lk f k) x)
    show (tks (ups f k (fsub (lk f k) x)) ys).length ≤ _
    rw [List.length_cons]
    omega
theorem gat_frS {n : Nat} {f xs : List (Int × Fx)} (hf : AllF n f) (h : AllF n xs) (h0 : 0 < n) (j : Int) : Fr (lk (gat f xs) j) ∧ Sz (n + xs.length * (n + 1)) (lk (gat f xs) j) := by
  rw [lk_gat]
  have hl := lk_fr hf h0 j
  exact ⟨cfold_fr j xs _ hl.1 fun x hx => (h x hx).1, cfold_sz n j xs _ n hl.1 hl.2 h⟩
/-! two shares -/
/-- as the law draws them, or puts them together -/
structure Good (n : Nat) (xs : List (Int × Fx)) : Prop where
  nd : (xs.map (·.1)).Pairwise (· < ·)
  all : AllF n xs
  pos : ∀ a ∈ xs, 0 < a.2.1
  lo : ∀ a ∈ xs, -100 ≤ a.1 ∧ a.1 ≤ 100
theorem Good.nodup {n : Nat} {xs : List (Int × Fx)} (g : Good n xs) : (xs.map (·.1)).Nodup := g.nd.imp fun e => Int.ne_of_lt e
theorem Good.shr {n : Nat} {xs : List (Int × Fx)} (g : Good n xs) (h : xs.length ≤ 8) : Shr xs := ⟨h, fun a ha => ⟨(g.lo a ha).1, (g.lo a ha).2, (g.all a ha).1, g.pos a ha⟩, g.nd⟩
theorem lk_nonneg {xs : List (Int × Fx)} (h : ∀ a ∈ xs, 0 < a.2.1) (k : Int) : 0 ≤ (lk xs k).1 ∧ (k ∈ xs.map (·.1) → 0 < (lk xs k).1) := by
  induction xs with
  | nil => exact ⟨by show (0 : Int) ≤ 0; decide, fun h => by cases h⟩
  | cons a xs ih =>
    obtain ⟨j, y⟩ := a
    have ih := ih fun b hb => h b (List.mem_cons_of_mem _ hb)
    have hy := h (j, y) List.mem_cons_self
    simp only at hy
    rw [lk_cons]
    by_cases e : k = j
    · rw [if_pos e]
      exact ⟨by omega, fun _ => hy⟩
    · rw [if_neg e]
      refine ⟨ih.1, fun m => ih.2 ?_⟩
      rcases List.mem_cons.mp m with q | q
      · exact absurd q e
      · exact q
theorem Good.self {n : Nat} {xs : List (Int × Fx)} (g : Good n xs) : IsS xs xs := ⟨g.nd, fun k x => by
  constructor
  · intro h
    refine ⟨lk_of_mem g.nodup h, fun e => ?_⟩
    have q : 0 < x.1 := g.pos _ h
    rw [e] at q
    exact absurd q (by decide)
  · rintro ⟨e, h⟩
    have m := lk_mem (f := xs) (k := k) (by rw [e]; exact h)
    obtain ⟨⟨k2, y⟩, hm, e2⟩ := List.mem_map.mp m
    simp only at e2
    subst e2
    rw [lk_of_mem g.nodup hm] at e
    rw [← e]
    exact hm⟩
theorem lk_cat {n : Nat} {xs ys : List (Int × Fx)} (g : Good n xs) (h0 : 0 < n) (hn : (ys.map (·.1)).Nodup) (j : Int) : lk (gat [] (xs ++ ys)) j = fadd (lk xs j) (lk ys j) := by
  have e : gat [] (xs ++ ys) = gat (gat [] xs) ys := by
    unfold gat
    rw [List.foldl_append]
  have hx : lk (gat [] xs) j = lk xs j := by
    rw [lk_gat]
    exact (fold_nodup xs j (0, 1) fr01 g.nodup).trans (zero_fadd (lk_fr g.all h0 j).1)
  rw [e, lk_gat, fold_nodup ys j _ (by rw [hx]; exact (lk_fr g.all h0 j).1) hn, hx]
theorem both_good {n : Nat} {xs ys zs : List (Int × Fx)} (gx : Good n xs) (gy : Good n ys) (h0 : 0 < n) (h : IsS (gat xs ys) zs) : Good (n + n + 1) zs := by
  have val : ∀ k x, (k, x) ∈ zs → x = fadd (lk xs k) (lk ys k) ∧ (k ∈ xs.map (·.1) ∨ k ∈ ys.map (·.1)) := fun k x hm => by
    obtain ⟨e, hx⟩ := (h.2 k x).mp hm
    rw [lk_gat_nodup gx.all h0 gy.nodup] at e
    refine ⟨e.symm, ?_⟩
    by_cases a : k ∈ xs.map (·.1)
    · exact .inl a
    · refine .inr ?_
      by_cases b : k ∈ ys.map (·.1)
      · exact b
      · rw [lk_none a, lk_none b] at e
        exact absurd (e.symm.trans (by decide)) hx
  refine ⟨h.1, fun a ha => ?_, fun a ha => ?_, fun a ha => ?_⟩
  · obtain ⟨e, _⟩ := val a.1 a.2 ha
    have h1 := lk_fr gx.all h0 a.1
    have h2 := lk_fr gy.all h0 a.1
    rw [e]
    exact ⟨fadd_fr h1.1 h2.1, fadd_sz h1.1 h2.1 h1.2 h2.2⟩
  · obtain ⟨e, m⟩ := val a.1 a.2 ha
    have h1 := lk_nonneg gx.pos a.1
    have h2 := lk_nonneg gy.pos a.1
    rw [e]
    exact fadd_pos (lk_fr gx.all h0 a.1).1 (lk_fr gy.all h0 a.1).1 h1.1 h2.1 (m.imp h1.2 h2.2)
  · obtain ⟨e, m⟩ := val a.1 a.2 ha
    rcases m with m | m
    · obtain ⟨b, hb, eb⟩ := List.mem_map.mp m
      rw [← eb]
      exact gx.lo b hb
    · obtain ⟨b, hb, eb⟩ := List.mem_map.mp m
      rw [← eb]
      exact gy.lo b hb
def ngs (ys : List (Int × Fx)) : List (Int × Fx) := ys.map fun a => (a.1, scl a.2 (-1))
theorem ngs_keys (ys : List (Int × Fx)) : (ngs ys).map (·.1) = ys.map (·.1) := by
  unfold ngs
  rw [List.map_map]
  rfl
theorem lk_ngs (ys : List (Int × Fx)) (j : Int) : lk (ngs ys) j = scl (lk ys j) (-1) := by
  induction ys with
  | nil =>
    show ((0, 1) : Fx) = scl (0, 1) (-1)
    decide
  | cons a ys ih =>
    obtain ⟨k, y⟩ := a
    show lk ((k, scl y (-1)) :: ngs ys) j = _
    rw [lk_cons, lk_cons, ih]
    split <;> rfl
theorem lk_take {n : Nat} {xs ys : List (Int × Fx)} (gx : Good n xs) (gy : Good n ys) (h0 : 0 < n) (j : Int) : lk (gat [] (xs ++ ngs ys)) j = fsub (lk xs j) (lk ys j) := by
  rw [lk_cat gx h0 (by rw [ngs_keys]; exact gy.nodup), lk_ngs, fadd_neg (lk_fr gy.all h0 j).1]
/-- what was put on is taken off -/
theorem take_both {n : Nat} {xs ys zs ws : List (Int × Fx)} (gx : Good n xs) (gy : Good n ys) (h0 : 0 < n) (hz : IsS (gat xs ys) zs) (hw : IsS (gat [] (zs ++ ngs ys)) ws) : ws = xs := by
  have gz := both_good gx gy h0 hz
  refine hw.uniq gx.self fun k => ?_
  have e : lk zs k = fadd (lk xs k) (lk ys k) := by
    rw [← lk_gat_nodup gx.all h0 gy.nodup]
    by_cases c : lk (gat xs ys) k = (0, 1)
    · rw [c]
      by_cases d : lk zs k = (0, 1)
      · exact d
      · obtain ⟨⟨k2, y⟩, hm, e2⟩ := List.mem_map.mp (lk_mem d)
        simp only at e2
        subst e2
        exact absurd (c ▸ ((hz.2 _ _).mp hm).1.symm) ((hz.2 _ _).mp hm).2
    · exact lk_of_mem gz.nodup ((hz.2 k _).mpr ⟨rfl, c⟩)
  have gy2 : AllF (n + n + 1) ys := fun a ha => ⟨(gy.all a ha).1, (gy.all a ha).2.up (by omega)⟩
  rw [lk_take gz ⟨gy.nd, gy2, gy.pos, gy.lo⟩ (by omega), e]
  exact fsub_fadd (lk_fr gx.all h0 k).1 (lk_fr gy.all h0 k).1
theorem both_comm {n : Nat} {xs ys zs ws : List (Int × Fx)} (gx : Good n xs) (gy : Good n ys) (h0 : 0 < n) (hz : IsS (gat xs ys) zs) (hw : IsS (gat [] (ys ++ xs)) ws) : ws = zs :=
  hw.uniq hz fun k => by rw [lk_cat gy h0 gx.nodup, lk_gat_nodup gx.all h0 gy.nodup, fadd_comm]
theorem both_same {n : Nat} {xs ys zs ws : List (Int × Fx)} (gx : Good n xs) (gy : Good n ys) (h0 : 0 < n) (hz : IsS (gat xs ys) zs) (hw : IsS (gat [] (xs ++ ys)) ws) : ws = zs :=
  hw.uniq hz fun k => by rw [lk_cat gx h0 gy.nodup, lk_gat_nodup gx.all h0 gy.nodup]
/-- the second one is within the first one -/
def Inn (xs ys : List (Int × Fx)) : Prop := ∀ a ∈ ys, a.1 ∈ xs.map (·.1) ∧ flt (lk xs a.1) a.2 = false
theorem nd_len : ∀ {r q : List Int}, r.Nodup → (∀ a ∈ r, a ∈ q) → r.length ≤ q.length
  | [], _, _, _ => Nat.zero_le _
  | a :: r, q, h, m => by
    rw [List.nodup_cons] at h
    have ha : a ∈ q := m a List.mem_cons_self
    have h2 := nd_len (q := q.erase a) h.2 fun b hb => (List.mem_erase_of_ne fun e => h.1 (by rw [← e]; exact hb)).mpr (m b (List.mem_cons_of_mem _ hb))
    rw [List.length_erase_of_mem ha] at h2
    have := List.length_pos_of_mem ha
    rw [List.length_cons]
    omega
theorem take_in {n : Nat} {xs ys zs : List (Int × Fx)} (gx : Good n xs) (gy : Good n ys) (h0 : 0 < n) (h8 : xs.length ≤ 8) (hz : IsS (gat [] (xs ++ ngs ys)) zs) (h : Inn xs ys) : Shr zs ∧ ∀ ws, IsS (tks xs ys) ws → zs = ws := by
  have lx := fun k => lk_fr gx.all h0 k
  have ly := fun k => lk_fr gy.all h0 k
  have val : ∀ k x, (k, x) ∈ zs → x = fsub (lk xs k) (lk ys k) ∧ x ≠ (0, 1) ∧ k ∈ xs.map (·.1) := fun k x hm => by
    obtain ⟨e, hx⟩ := (hz.2 k x).mp hm
    rw [lk_take gx gy h0] at e
    refine ⟨e.symm, hx, ?_⟩
    by_cases a : k ∈ xs.map (·.1)
    · exact a
    · by_cases b : k ∈ ys.map (·.1)
      · obtain ⟨c, hc, ec⟩ := List.mem_map.mp b
        rw [← ec]
        exact (h c hc).1
      · rw [lk_none a, lk_none b] at e
        exact absurd (e.symm.trans (by decide)) hx
  refine ⟨⟨?_, fun a ha => ?_, hz.1⟩, fun ws hw => hz.uniq hw fun k => ?_⟩
  · have n1 : (zs.map (·.1)).Nodup := hz.1.imp fun e => Int.ne_of_lt e
    have := nd_len (q := xs.map (·.1)) n1 fun k hk => by
      obtain ⟨a, ha, rfl⟩ := List.mem_map.mp hk
      exact (val a.1 a.2 ha).2.2
    rw [List.length_map, List.length_map] at this
    omega
  · obtain ⟨e, hne, m⟩ := val a.1 a.2 ha
    obtain ⟨b, hb, eb⟩ := List.mem_map.mp m
    have lo := gx.lo b hb
    rw [eb] at lo
    have f : Fr a.2 := by rw [e]; exact fsub_fr (lx _).1 (ly _).1
    refine ⟨lo.1, lo.2, f, ?_⟩
    have n0 : a.2.1 ≠ 0 := fun z => hne (fr_zero f z)
    have n1 : ¬ a.2.1 < 0 := fun z => by
      rw [e, fsub_neg_iff (lx _).1 (ly _).1] at z
      by_cases c : a.1 ∈ ys.map (·.1)
      · obtain ⟨b2, hb2, eb2⟩ := List.mem_map.mp c
        have q := (h b2 hb2).2
        rw [eb2] at q
        rw [← eb2, lk_of_mem gy.nodup hb2, eb2, q] at z
        cases z
      · rw [lk_none c] at z
        unfold flt at z
        have := (lk_nonneg gx.pos a.1).1
        have z2 := of_decide_eq_true z
        simp only [Int.mul_one, Int.zero_mul] at z2
        omega
    omega
  · rw [lk_take gx gy h0, lk_tks ys xs k gy.nodup]
    split
    · rfl
    · rename_i c
      rw [lk_none c]
      have := fsub_fadd (lx k).1 fr01
      rw [fadd_zero (lx k).1] at this
      exact this
theorem take_out {n : Nat} {xs ys zs : List (Int × Fx)} (gx : Good n xs) (gy : Good n ys) (h0 : 0 < n) (hz : IsS (gat [] (xs ++ ngs ys)) zs) (h : ¬ Inn xs ys) : ¬ Shr zs := fun S => by
  refine h fun a ha => ?_
  have hl := lk_of_mem gy.nodup ha
  have hp := gy.pos a ha
  have key : flt (lk xs a.1) a.2 = false := by
    cases c : flt (lk xs a.1) a.2 with
    | false => rfl
    | true =>
      have neg : (fsub (lk xs a.1) (lk ys a.1)).1 < 0 := by
        rw [fsub_neg_iff (lk_fr gx.all h0 _).1 (lk_fr gy.all h0 _).1, hl]
        exact c
      have hm : (a.1, fsub (lk xs a.1) (lk ys a.1)) ∈ zs := (hz.2 _ _).mpr ⟨lk_take gx gy h0 _, fun e => by rw [e] at neg; exact absurd neg (by decide)⟩
      have := (S.2.1 _ hm).2.2.2
      simp only at this
      omega
  refine ⟨?_, key⟩
  by_cases m : a.1 ∈ xs.map (·.1)
  · exact m
  · rw [lk_none m] at key
    unfold flt at key
    have z := of_decide_eq_false key
    simp only [Int.zero_mul, Int.mul_one] at z
    omega
theorem take_self {n : Nat} {xs zs : List (Int × Fx)} (gx : Good n xs) (h0 : 0 < n) (hz : IsS (gat [] (xs ++ ngs xs)) zs) : zs = [] := by
  refine hz.uniq (g := []) ⟨List.Pairwise.nil, fun k x => ?_⟩ fun k => ?_
  · constructor
    · intro h
      cases h
    · rintro ⟨e, h⟩
      exact absurd e.symm h
  · rw [lk_take gx gx h0]
    have := fsub_fadd fr01 (lk_fr gx.all h0 k).1
    rw [zero_fadd (lk_fr gx.all h0 k).1] at this
    exact this
end CS
set_option Elab.async false
set_option maxRecDepth 100000
set_option maxHeartbeats 8000000
set_option linter.unusedVariables false
namespace CS
open PySem L2
theorem ngs_all {n : Nat} {ys : List (Int × Fx)} (h : AllF n ys) : AllF (n + 1) (ngs ys) := fun a ha => by
  obtain ⟨b, hb, rfl⟩ := List.mem_map.mp ha
  exact ⟨scl_fr (h b hb).1 _, scl_sz (m := 1) (h b hb).1 (h b hb).2 (by decide)⟩
theorem IsS.len {f r : List (Int × Fx)} (h : IsS f r) : r.length ≤ f.length := by
  have n : (r.map (·.1)).Nodup := h.1.imp fun e => Int.ne_of_lt e
  have := nd_len (q := f.map (·.1)) n fun a ha => by
    obtain ⟨⟨k, x⟩, hk, rfl⟩ := List.mem_map.mp ha
    obtain ⟨e, z⟩ := (h.2 k x).mp hk
    exact lk_mem (by rw [e]; exact z)
  simpa using this
section
variable {P : Program} {w : World} {K : PySem.W.Frag} {mg : Str → Option Value} {base : Heap}
def spTakeT (K : PySem.W.Frag) (CB : Addr) : Sp := fun vs H Q E => ∃ p q xs ys, vs = [.ref p, .ref q] ∧ ShAt K H p xs ∧ ShAt K H q ys ∧ Shr xs ∧ Shr ys ∧ AllF 80 xs ∧ AllF 80 ys ∧ ∀ H' r zs, Same H H' → ShAt K H' r zs → IsS (gat [] (xs ++ ngs ys)) zs →
  (Shr zs → Q (.ref r) H') ∧ (¬ Shr zs → ∀ d, H' d = none → E (.ref CB) (some d) (upd H' d (.xd [("given", .ref q)])))
end
end CS
set_option Elab.async false
set_option maxRecDepth 100000
set_option maxHeartbeats 4000000
set_option linter.unusedVariables false
/-! tuples whose very object is known to have no dict of its own, made by tuple(list); dict(..) of such ones -/
namespace CS
open PySem PySem.Spec PyProof.Rows L2
def TupZ (H : Hp) (a : Addr) (xs : List V) : Prop := ∃ o : Obj, o.dict = none ∧ H a = some (.frz o (.tup xs))
theorem TupZ.sq {K : PySem.W.Frag} {H : Hp} {a : Addr} {xs : List V} (h : TupZ H a xs) : SqT K H a xs := by
  obtain ⟨o, _, e⟩ := h
  exact .inl (.inr ⟨o, e⟩)
section
variable {X : Cx}
theorem call_tuple_ofZ : CallR X (.type "tuple") (fun xs H Q => ∃ p ys, xs = [.ref p] ∧ SqL X.K H p ys ∧ ∀ l o, H l = none → o.dict = none → Q (.ref l) (upd H l (.frz o (.tup ys)))) := by
  intro pins s σ H xs us Q I r ⟨p, ys, ex, hq, q⟩
  subst ex
  obtain ⟨u, rfl, rx⟩ := vals1 r
  cases rx
  obtain ⟨its, rv, pl, hz⟩ := I.list hq
  have hl := rv.length
  refine call_tuple_list pl.isList (fun h' kp => ?_) (by simp only [List.size_toArray]; omega)
  have J : Inv X pins σ H { s with heap := h' } := I.kept (t' := s.toks) kp
  have g : (h'.push ({ cls := .type "tuple", data := .seq its.toArray } : Obj)).get? h'.objs.size = some { cls := .type "tuple", data := .seq its.toArray } := Heap.get?_push_size _ rfl
  refine ⟨.ref h'.objs.size, _, J.laid (t' := s.toks) (o := .frz { cls := .type "tuple", data := .seq its.toArray } (.tup ys)) (fun b o e => Heap.get?_push_of_some _ e) (Nat.le_refl _) ?_, rfl, q _ _ (J.hok.fresh (Nat.le_refl _)) rfl⟩
  exact ⟨g, hz, its, rv, ⟨_, g, rfl, _, rfl⟩⟩
theorem call_dictZ (hcalm : X.calm = true) : CallR X (.type "dict") (fun xs H Q => ∃ (a : Addr) (ps : List Addr) (kvs : List (Key × V)), xs = [.ref a] ∧ TupZ H a (ps.map V.ref) ∧ Paired (fun p kv => SqT X.K H p [kV kv.1, kv.2]) ps kvs ∧
    ∀ p, H p = none → Q (.ref p) (upd H p (.dK (mergeK [] kvs)))) := by
  intro pins s σ H xs us Q I r ⟨a, ps, kvs, ex, ⟨o, od, ho⟩, hp, q⟩
  subst ex
  obtain ⟨u, rfl, rx⟩ := vals1 r
  cases rx
  obtain ⟨g, z, its, rv, o2, g2, oc, n, dat⟩ := (show ObjOk X.prog X.w H s.heap a (.frz o (.tup (ps.map V.ref))) from I.hok a _ ho)
  rw [g] at g2
  cases g2
  cases refs_at rv
  rw [List.length_map] at z
  obtain ⟨prs, rel, hl, hpr⟩ := pairs_of I hp
  
  obtain ⟨us, hus⟩ : ∃ us : List (Value × Value), us.length = prs.length ∧ ∀ (j : Nat) (q : Key × Value), prs[j]? = some q → ∃ b u, us[j]? = some (u, q.2) ∧ ps[j]? = some b ∧ IsTup s.heap b #[u, q.2] ∧ keyIs q.1 u = true := by
    have mk : ∀ (prs : List (Key × Value)) (ps : List Addr), prs.length = ps.length → (∀ (j : Nat) (q : Key × Value), prs[j]? = some q → ∃ b u, ps[j]? = some b ∧ IsTup s.heap b #[u, q.2] ∧ keyIs q.1 u = true) → ∃ us : List (Value × Value), us.length = prs.length ∧ ∀ (j : Nat) (q : Key × Value), prs[j]? = some q → ∃ b u, us[j]? = some (u, q.2) ∧ ps[j]? = some b ∧ IsTup s.heap b #[u, q.2] ∧ keyIs q.1 u = true := by
      intro prs
      induction prs with
      | nil => exact fun ps _ _ => ⟨[], rfl, fun j q e => by simp at e⟩
      | cons p prs ih =>
        intro ps hl h
        cases ps with
        | nil => simp at hl
        | cons c ps =>
          obtain ⟨b, u, e1, e2, e3⟩ := h 0 p rfl
          obtain ⟨us, h1, h2⟩ := ih ps (by simpa using hl) fun j q e => by simpa using h (j + 1) q (by simpa using e)
          refine ⟨(u, p.2) :: us, by simp [h1], fun j q e => ?_⟩
          cases j with
          | zero =>
            cases (Option.some.inj e : p = q)
            exact ⟨b, u, rfl, e1, e2, e3⟩
          | succ j => simpa using h2 j q (by simpa using e)
    exact mk prs ps hl hpr
  obtain ⟨ul, uh⟩ := hus
  have P := PairArg.tuple (prog := X.prog) (w := X.w) a (ps.map Value.ref).toArray (fun j => (ps[j]?).getD 0) us
  refine PySem.call_dict_pairs (knd := mixKind X.prog X.w) (kvs := prs) P (I.ok.hd hcalm) ⟨⟨o, n, g, oc, od, dat⟩, by simp [ul, hl], fun j k v e => ?_⟩ ⟨by rw [ul], fun i k v e => ?_⟩ (by rw [ul, hl]; exact z) fun h' tk hd' k => ?_
  · have hj : j < prs.length := by rw [← ul]; exact (List.getElem?_eq_some_iff.mp e).1
    obtain ⟨b, u, e1, e2, e3, e4⟩ := uh j prs[j] (List.getElem?_eq_getElem hj)
    rw [e] at e1
    cases e1
    refine ⟨by simp [e2], ?_⟩
    show PairAt s.heap ((ps[j]?).getD 0) _ _
    rw [e2]
    exact .inl e3
  · have e : us[i]? = some (k, v) := e
    have hj : i < prs.length := by rw [← ul]; exact (List.getElem?_eq_some_iff.mp e).1
    obtain ⟨b, u, e1, e2, e3, e4⟩ := uh i prs[i] (List.getElem?_eq_getElem hj)
    rw [e] at e1
    cases e1
    exact ⟨prs[i].1, List.getElem?_eq_getElem hj, e4⟩
  · have hm : (s.heap.objs.size == sysModules) = false := beq_eq_false_iff_ne.mpr (Nat.ne_of_gt I.big)
    have h1 : (mergeK [] kvs).length ≤ sizeLine := by
      have := length_mergeK kvs []
      have h2 := Paired.length rel
      rw [List.length_nil, Nat.zero_add] at this
      omega
    exact ⟨.ref s.heap.objs.size, upd H s.heap.objs.size (.dK (mergeK [] kvs)), I.laid (t' := tk) (fun b o e => k b o (fun z => nomatch z) e) (Nat.le_refl _) (show ObjOk X.prog X.w _ _ _ (.dK (mergeK [] kvs)) from ⟨h1, hm, merged [] prs, KV.merge rel .nil, hd'⟩), rfl, q _ (I.hok.fresh (Nat.le_refl _))⟩
end
end CS
set_option Elab.async false
set_option maxRecDepth 100000
set_option maxHeartbeats 8000000
set_option linter.unusedVariables false
namespace CS
open PySem L2
theorem fr_one (m : Int) : Fr ((m, 1) : Fx) := by
  unfold Fr
  simp
theorem sz_one {m : Int} {n : Nat} (h : m.natAbs < 2 ^ n) (h0 : 0 < n) : Sz n ((m, 1) : Fx) := ⟨h, Nat.one_lt_two_pow (by omega)⟩
section
variable {P : Program} {w : World} {K : PySem.W.Frag} {mg : Str → Option Value} {base : Heap}
theorem scLawSum : FnScope ["some", "found", "one"] ["some"] (defScope sLawSum) := ⟨rfl, rfl, rfl, by decide +kernel, rfl, by decide +kernel, by decide +kernel⟩
theorem ok_law_sum {f f1 : Addr} {fd fd1 : FuncData} (F : Df K mg "_law_sum" sLawSum ["some"] f fd) (D1 : Df K mg "_law_plus" sLawPlus ["one", "other"] f1 fd1) (G1 : FnOk P w K mg base CX0 2 f1 fd1 ["one", "other"] (spF2 K (fun _ _ => True) fadd)) : FnOk P w K mg base CX0 3 f fd ["some"] (spSum K) := by
  refine F.F.ok scLawSum (fun vs H Q E h => ?_) (fun cdv A outer s H vs Q E hr h => ?_)
  · obtain ⟨a, ws, xs, rfl, _⟩ := h
    rfl
  · obtain ⟨a, ws, xs, rfl, hS, hF, hx, hlen, k⟩ := h
    refine ⟨_, pss_cons (ps_set (i := 1) scLawSum.nd rfl (Or.inl rfl) (pe_tup (pa_cons pe_int (pa_cons pe_int pa_nil))))
      (pss_cons (ps_for PassesOwn.never rfl (pi_list (pv 0)) (pg_name (i := 2) scLawSum.nd rfl (Or.inl rfl)) (pss_one (ps_set (i := 1) scLawSum.nd rfl (Or.inl rfl) (pe_call G1 hr (by rfl) D1.g D1.F.kp D1.b .nil pass0 (pa_cons (pv 1) (pa_cons (pv 2) pa_nil))))))
      (pss_one (ps_ret (pv 1)))), ?_⟩
    refine ⟨(by show 2 ≤ sizeLine; decide), fun t ht => ?_⟩
    have s0 := Same.new (o := .tup [V.int 0, V.int 1]) ht
    refine ⟨_, rfl, a, rfl, ⟨_, s0.seq hS⟩, for_list (K := K) (a := a) (xs := ws) (fun i σ H' => ∃ p v, σ = [some (.ref a), some (.ref p), v] ∧ Same H H' ∧ FT K H' p ((xs.take i).foldl fadd (0, 1))) ⟨t, none, rfl, s0, FT.new (x := (0, 1))⟩ (fun i σ H' _ ⟨_, _, _, s, _⟩ => s.seq hS) ?_ ?_⟩
    · rintro i v σ H' hi ⟨p, u, rfl, s1, hp⟩
      obtain ⟨r, x, rfl, hxi, hr'⟩ := hF.get hi
      have hi2 : i < xs.length := (List.getElem?_eq_some_iff.mp hxi).1
      have hxm := hx x (List.mem_of_getElem? hxi)
      have hz : Sz 1900 ((xs.take i).foldl fadd (0, 1)) := by
        refine (fold_sz 100 (xs.take i) (0, 1) 1 fr01 (sz01 (by decide)) fun y hy => hx y (List.mem_of_mem_take hy)).up ?_
        rw [List.length_take]
        omega
      have hf : Fr ((xs.take i).foldl fadd (0, 1)) := fold_fr _ _ fr01 fun y hy => (hx y (List.mem_of_mem_take hy)).1
      refine ⟨_, rfl, _, rfl, p, r, _, x, rfl, hp, s1.tup hr', hf, hxm.1, hz, hxm.2.up (by decide), trivial, fun q hq => ?_⟩
      refine ⟨q, _, rfl, s1.trans (Same.new hq), ?_⟩
      rw [take_snoc hxi, List.foldl_append]
      exact FT.new
    · rintro σ H' ⟨p, u, rfl, s1, hp⟩
      rw [hF.len, List.take_length] at hp
      exact ⟨_, rfl, k _ _ s1 hp⟩
/-! share_of -/
def spShOf (K : PySem.W.Frag) : Sp := fun vs H Q _ => ∃ d kvs g, vs = [.ref d] ∧ H d = some (.dK kvs) ∧ DPr K H kvs g ∧ (g.map (·.1)).Nodup ∧ g.length ≤ 40 ∧ ∀ H' r ys, Same H H' → ShAt K H' r ys → IsS g ys → Q (.ref r) H'
theorem scLawShareOf : FnScope ["hefts", "mark"] ["hefts"] (defScope sLawShareOf) := ⟨rfl, rfl, rfl, by decide +kernel, rfl, by decide +kernel, by decide +kernel⟩
theorem ok_law_share_of {f : Addr} {fd : FuncData} (F : Df K mg "_law_share_of" sLawShareOf ["hefts"] f fd) (T : Bt mg) : FnOk P w K mg base CX0 1 f fd ["hefts"] (spShOf K) := by
  refine F.F.ok scLawShareOf (fun vs H Q E h => ?_) (fun cdv A outer s H vs Q E hr h => ?_)
  · obtain ⟨d, kvs, g, rfl, _⟩ := h
    rfl
  · obtain ⟨d, kvs, g, rfl, hdk, hD, hn, hlen, k⟩ := h
    have hu := hu_of hr
    refine ⟨_, pss_one (ps_ret (pe_callTy call_tuple_of (by rfl) T.tuple (by decide +kernel) (pa_cons (pe_lc (own := [("mark", 1)]) (g := gName 1) (tt := tTest (tOp (rNeD K) (tDGet (tVar 0) (tVar 1)) (tTup (tCons (tC (.int 0)) (tCons (tC (.int 1)) tNil))))) rfl scLawShareOf.nd (pi_list (pe_callB (call_sortedDI rfl) (by rfl) T.sorted (by decide +kernel) (pa_cons (pv 0) pa_nil))) (blkOk_by (N := ["hefts", "mark"]) (sc := defScope sLawShareOf) (by decide +kernel)) (fun _ _ _ _ _ => pg_name (i := 1) scLawShareOf.nd rfl (Or.inl rfl)) (fun _ _ _ _ _ => pts_one (pt_cmpR (op_neD hr.units) (pe_dget hu (pv 0) (pv 1) (fun _ _ => rfl)) (pe_tup (pa_cons pe_int (pa_cons pe_int pa_nil))) (nomark _))) (fun _ _ _ _ _ => pe_tup (pa_cons (pv 1) (pa_cons (pe_dget hu (pv 0) (pv 1) (fun _ _ => rfl)) pa_nil)))) pa_nil))), ?_⟩
    refine ⟨_, rfl, d, kvs, g.map (·.1), rfl, .inl hdk, hD.keys, by rw [List.length_map]; omega, fun ys t perm srt ht => ?_⟩
    have k1 := Same.new (o := .lst (ys.map V.int)) ht
    have hlen2 : ys.length ≤ 40 := by
      rw [perm.length_eq, List.length_map]
      exact hlen
    have hT : (upd H t (.lst (ys.map V.int))) t = some (.lst (ys.map V.int)) := upd_same
    have hD2 := hD.tk (tk_same k1)
    have hdk2 := k1 _ _ hdk
    generalize upd H t (.lst (ys.map V.int)) = H2 at *
    refine ⟨t, rfl, ⟨_, SqL.of hT⟩, fun D hDn => lc_list (K := K) (a := t) (xs := ys.map V.int) (fun i H' => LcP K H2 D ((((ys.take i).filter fun k => decide (lk g k ≠ (0, 1))).map fun k => (k, lk g k))) H') (LcP.start hDn) (fun i H' _ ⟨_, _, s3, _⟩ => SqL.of (s3 _ _ hT)) ?_ ?_⟩
    · rintro i v H' hi ⟨us, h1, s3, hf⟩
      rw [List.getElem?_map] at hi
      obtain ⟨m, hmi, rfl⟩ : ∃ m, ys[i]? = some m ∧ v = V.int m := by
        cases e : ys[i]? with
        | none => rw [e] at hi; cases hi
        | some z => rw [e] at hi; exact ⟨z, rfl, (Option.some.inj hi).symm⟩
      have hmem : m ∈ g.map (·.1) := perm.mem_iff.mp (List.mem_of_getElem? hmi)
      obtain ⟨r, g1, g2⟩ := (hD2.tk (tk_same s3)).val m hmem
      have hg : DGet H' d (.int m) (some (.ref r)) := by
        rw [← g1]
        exact DGet.k (k := Sum.inl m) (s3 _ _ hdk2)
      refine ⟨rfl, ?_⟩
      refine ⟨_, rfl, _, rfl, d, _, rfl, hg, (by show 2 ≤ sizeLine; decide), fun t0 ht0 => ?_⟩
      have k0 := Same.new (o := .tup [V.int 0, V.int 1]) ht0
      refine ⟨frD (lk g m), frD (0, 1), ftDp (k0.tup g2), ftDp (FT.new (x := (0, 1))), rfl, rfl, _, rfl, ?_⟩
      dsimp only
      rw [eqvFr]
      have hsz : us.length ≤ 1000 := by
        rw [hf.len, List.length_map]
        have := List.length_filter_le (fun k => decide (lk g k ≠ (0, 1))) (ys.take i)
        rw [List.length_take] at this
        omega
      have hgk : DGet (upd H' t0 (.tup [V.int 0, V.int 1])) d (.int m) (some (.ref r)) := by
        rw [← g1]
        exact DGet.k (k := Sum.inl m) (k0 _ _ (s3 _ _ hdk2))
      by_cases hc : lk g m = (0, 1)
      · rw [if_neg (by simp [hc])]
        show LcP K H2 D _ _
        rw [take_snoc hmi, List.filter_append, List.map_append, List.filter_cons_of_neg (by simp [hc])]
        show LcP K H2 D (_ ++ []) _
        rw [List.append_nil]
        exact ⟨us, k0 _ _ h1, s3.trans k0, hf.tk (tk_same k0)⟩
      · rw [if_pos (by simp [hc])]
        refine ⟨_, rfl, _, rfl, _, rfl, d, _, rfl, hgk, (by show 2 ≤ sizeLine; decide), fun t2 ht2 => ?_⟩
        have k2 := k0.trans (Same.new (o := .tup [V.int m, .ref r]) ht2)
        refine ⟨us, k2 _ _ h1, small1000 hsz, ?_⟩
        show LcP K H2 D _ _
        rw [take_snoc hmi, List.filter_append, List.map_append, List.filter_cons_of_pos (by simp [hc])]
        exact LcP.step hDn (k2 _ _ h1) (s3.trans k2) (hf.tk (tk_same k2)) (SqT.of upd_same) (k2.tup g2)
    · rintro H' ⟨us, h1, s3, hf⟩
      rw [List.length_map, List.take_length] at hf
      refine ⟨D, us, rfl, .inl ⟨SqL.of h1, fun l hl => ?_⟩⟩
      have k3 := Same.new (o := .tup us) hl
      exact k _ l _ (k1.trans (s3.trans k3)) ⟨us, SqT.of upd_same, hf.tk (tk_same k3)⟩ (isS_of perm hn srt)
end
end CS
set_option Elab.async false
set_option maxRecDepth 100000
set_option maxHeartbeats 8000000
set_option linter.unusedVariables false
namespace CS
open PySem L2
/-! shares whose tuple has no dict of its own -/
def ShZ (K : PySem.W.Frag) (H : Hp) (p : Addr) (xs : List (Int × Fx)) : Prop := ∃ vs, TupZ H p vs ∧ PrsAt K H vs xs
section
variable {K : PySem.W.Frag} {H H' : Hp}
theorem ShZ.sh {p : Addr} {xs : List (Int × Fx)} (h : ShZ K H p xs) : ShAt K H p xs := by
  obtain ⟨vs, a, b⟩ := h
  exact ⟨vs, a.sq, b⟩
theorem ShZ.same {p : Addr} {xs : List (Int × Fx)} (e : Same H H') (h : ShZ K H p xs) : ShZ K H' p xs := by
  obtain ⟨vs, ⟨o, d, a⟩, b⟩ := h
  exact ⟨vs, ⟨o, d, e _ _ a⟩, b.tk (tk_same e)⟩
/-- the table that dict(..) makes of a share -/
theorem dpr_merge : ∀ {vs : List V} {xs : List (Int × Fx)}, PrsAt K H vs xs → ∃ (ps : List Addr) (kvs : List (Key × V)), vs = ps.map V.ref ∧ Paired (fun p kv => SqT K H p [kV kv.1, kv.2]) ps kvs ∧
    ∀ (acc : List (Key × V)) (f : List (Int × Fx)), DPr K H acc f → ((f ++ xs).map (·.1)).Nodup → DPr K H (mergeK acc kvs) (f ++ xs)
  | _, _, .nil => ⟨[], [], rfl, .nil, fun acc f h _ => by rw [List.append_nil]; exact h⟩
  | _, _, @PrsAt.cons _ _ q r m x vs xs a b c => by
    obtain ⟨ps, kvs, e, hp, k⟩ := dpr_merge c
    refine ⟨q :: ps, (Sum.inl m, .ref r) :: kvs, by rw [e]; rfl, .cons a hp, fun acc f h hn => ?_⟩
    have hn2 : (f.map (·.1)).Nodup := by
      rw [List.map_append] at hn
      exact (List.nodup_append.mp hn).1
    have hm : m ∉ f.map (·.1) := fun z => by
      rw [List.map_append] at hn
      exact (List.nodup_append.mp hn).2.2 m z m (by simp) rfl
    have h2 := h.put hn2 (k := m) b
    rw [ups_new hm] at h2
    have := k _ _ h2 (by rw [List.append_assoc]; exact hn)
    rw [List.append_assoc] at this
    exact this
end
section
variable {P : Program} {w : World} {K : PySem.W.Frag} {mg : Str → Option Value} {base : Heap}
/-- two shares in, the first one of the law's own, a share out -/
def spTwo (K : PySem.W.Frag) (ok : List (Int × Fx) → List (Int × Fx) → Prop) (g : List (Int × Fx) → List (Int × Fx) → List (Int × Fx)) : Sp := fun vs H Q _ => ∃ p q xs ys, vs = [.ref p, .ref q] ∧ ShZ K H p xs ∧ ShAt K H q ys ∧ (xs.map (·.1)).Nodup ∧ AllF 80 xs ∧ AllF 80 ys ∧ xs.length ≤ 16 ∧ ys.length ≤ 16 ∧ ok xs ys ∧
  ∀ H' r zs, Same H H' → ShAt K H' r zs → IsS (g xs ys) zs → Q (.ref r) H'
end
end CS
set_option Elab.async false
set_option maxRecDepth 100000
set_option maxHeartbeats 8000000
set_option linter.unusedVariables false
namespace CS
open PySem L2
theorem low_pos {t b : Int} (ht : 0 < t) (hb : 0 < b) : 0 < (low t b).1 := (low_sign hb).1.mpr ht
/-- a set's keys, one more -/
def addK (ns : List Int) (m : Int) : List Int := if m ∈ ns then ns else ns ++ [m]
theorem keys_put {kvs : List (Key × V)} {ns : List Int} {m : Int} {v : V} (h : kvs.map (·.1) = ns.map Sum.inl) : (putK kvs (Sum.inl m : Key) v).map (·.1) = (addK ns m).map Sum.inl := by
  have e : (kvs.any fun kv => decide (kv.1 = (Sum.inl m : Key))) = decide (m ∈ ns) := by
    have e1 : (kvs.any fun kv => decide (kv.1 = (Sum.inl m : Key))) = (kvs.map (·.1)).any fun k => decide (k = (Sum.inl m : Key)) := by rw [List.any_map]; rfl
    rw [e1, h, List.any_map, Bool.eq_iff_iff]
    simp
  unfold putK addK
  rw [e]
  by_cases c : m ∈ ns
  · rw [if_pos (decide_eq_true c), if_pos c, ← h, List.map_map]
    apply List.map_congr_left
    intro kv _
    simp only [Function.comp]
    by_cases q : kv.1 = (Sum.inl m : Key)
    · rw [if_pos q, q]
    · rw [if_neg q]
  · rw [if_neg (by simp [c]), if_neg c, List.map_append, List.map_append, h]
    rfl
theorem addK_nodup {ns : List Int} {m : Int} (h : ns.Nodup) : (addK ns m).Nodup := by
  unfold addK
  split
  · exact h
  · rename_i c
    rw [List.nodup_append]
    refine ⟨h, by simp, fun a ha b hb => ?_⟩
    rw [List.mem_singleton.mp hb]
    exact fun e => c (e ▸ ha)
theorem addK_len (ns : List Int) (m : Int) : (addK ns m).length ≤ ns.length + 1 := by
  unfold addK
  split
  · omega
  · simp
theorem addK_pos (ns : List Int) (m : Int) : 0 < (addK ns m).length := by
  unfold addK
  split
  · next h => exact List.length_pos_of_mem h
  · simp
theorem addK_mem {ns : List Int} {m a : Int} (h : a ∈ addK ns m) : a ∈ ns ∨ a = m := by
  unfold addK at h
  split at h
  · exact .inl h
  · simpa using h
section
variable {H H1 : Hp} {d c l a : Addr} {k : Nat} {o : HO}
/-- a write beside the state -/
theorem StAt.upd (S : StAt H d c l k) (h1 : a ≠ d) (h2 : a ≠ c) (h3 : a ≠ l) : StAt (upd H a o) d c l k := by
  obtain ⟨hd, ne, cs, ls, e1, e2, r⟩ := S
  exact ⟨by rw [upd_ne (Ne.symm h1)]; exact hd, ne, cs, ls, by rw [upd_ne (Ne.symm h2)]; exact e1, by rw [upd_ne (Ne.symm h3)]; exact e2, r⟩
theorem StAt.neD (S : StAt H d c l k) (h : H a = none) : a ≠ d ∧ a ≠ c ∧ a ≠ l := by
  obtain ⟨hd, ne, cs, ls, e1, e2, r⟩ := S
  refine ⟨fun z => ?_, fun z => ?_, fun z => ?_⟩
  · rw [z, hd] at h
    cases h
  · rw [z, e1] at h
    cases h
  · rw [z, e2] at h
    cases h
/-- what was new ahead is no part of the state behind -/
theorem Fm.upd (f : Fm d l H H1) (h : H a = none) : Fm d l H (upd H1 a o) := fun b u e n m => by
  rw [upd_ne (ne_of_none e h)]
  exact f b u e n m
theorem Fm.none (f : Fm d l H H1) (h : H1 a = Option.none) (nd : a ≠ d) (nl : a ≠ l) : H a = Option.none := by
  cases e : H a with
  | none => rfl
  | some u =>
    rw [f a u e nd nl] at h
    cases h
end
section
variable {P : Program} {w : World} {K : PySem.W.Frag} {mg : Str → Option Value} {base : Heap}
def spHeft (K : PySem.W.Frag) : Sp := fun vs H Q _ => ∃ (d c l : Addr) (k : Nat), vs = [.ref d] ∧ StAt H d c l k ∧ k ≤ 90000 ∧ ∀ p H' x, Fr x → 0 < x.1 → Sz 10 x → StAt H' d c l (k + 2) → Fm d l H H' → FT K H' p x → Q (.ref p) H'
theorem scLawHeft : FnScope ["state"] ["state"] (defScope sLawHeft) := ⟨rfl, rfl, rfl, by decide +kernel, rfl, by decide +kernel, by decide +kernel⟩
theorem ok_law_heft {f f1 f2 : Addr} {fd fd1 fd2 : FuncData} (F : Df K mg "_law_heft" sLawHeft ["state"] f fd) (F1 : Df K mg "_law_draw" sDraw ["state", "many"] f1 fd1) (G1 : FnOk P w K mg base CX0 2 f1 fd1 ["state", "many"] spDraw) (F2 : Df K mg "_law_ratio" sLawRatio ["top", "bottom"] f2 fd2) (G2 : FnOk P w K mg base CX0 1 f2 fd2 ["top", "bottom"] spLowP) : FnOk P w K mg base CX0 3 f fd ["state"] (spHeft K) := by
  refine F.F.ok scLawHeft (fun vs H Q E h => ?_) (fun cdv A outer s H vs Q E hr h => ?_)
  · obtain ⟨d, c, l, k, rfl, _⟩ := h
    rfl
  · obtain ⟨d, c, l, n, rfl, S, hn, k⟩ := h
    refine ⟨_, pss_one (ps_ret (pe_call G2 (hr.mono (by decide)) (by rfl) F2.g F2.F.kp F2.b .nil pass0 (pa_cons (pe_op op_add pe_int (pe_call G1 hr (by rfl) F1.g F1.F.kp F1.b .nil pass0 (pa_cons (pv 0) (pa_cons pe_int pa_nil))))
      (pa_cons (pe_op op_add pe_int (pe_call G1 hr (by rfl) F1.g F1.F.kp F1.b .nil pass0 (pa_cons (pv 0) (pa_cons pe_int pa_nil)))) pa_nil)))), ?_⟩
    refine ⟨_, rfl, d, c, l, n, _, rfl, S, by decide, by decide, by omega, fun r H1 r0 r1 S1 fm1 => ?_⟩
    refine ⟨_, _, rfl, rfl, _, rfl, d, c, l, n + 1, _, rfl, S1, by decide, by decide, by omega, fun u H2 u0 u1 S2 fm2 => ?_⟩
    refine ⟨_, _, rfl, rfl, _, _, rfl, by omega, lt_up (n := 4000) (show (1 + r).natAbs < 2 ^ 10 by omega) (by decide), lt_up (n := 4000) (show (1 + u).natAbs < 2 ^ 10 by omega) (by decide), fun p hp => ?_⟩
    exact k p _ (low (1 + r) (1 + u)) (low_fr (by omega)) (low_pos (by omega) (by omega)) (low_sz (by omega) (by omega) (by omega)) (S2.same (Same.new hp)) ((fm1.trans fm2).same (Same.new hp)) (SqT.of upd_same)
def spMarks : Sp := fun vs H Q _ => ∃ (d c l : Addr) (k : Nat) (m n : Int), vs = [.ref d, .int m, .int n] ∧ StAt H d c l k ∧ k ≤ 80000 ∧ 0 < m ∧ m ≤ 10 ∧ 0 ≤ n ∧ n ≤ 90 ∧
  ∀ (H' : Hp) (p : Addr) (ns : List Int) (k' : Nat), k' ≤ k + 11 → ns.Pairwise (· < ·) → (∀ a ∈ ns, -n ≤ a ∧ a ≤ n) → (ns.length : Int) ≤ m → 0 < ns.length → StAt H' d c l k' → Fm d l H H' → H p = none → H' p = some (.lst (ns.map V.int)) → Q (.ref p) H'
theorem scLawMarks : FnScope ["state", "many", "most", "known", "k"] ["state", "many", "most"] (defScope sLawMarks) := ⟨rfl, rfl, rfl, by decide +kernel, rfl, by decide +kernel, by decide +kernel⟩
theorem ok_law_marks {f f1 : Addr} {fd fd1 : FuncData} (F : Df K mg "_law_marks" sLawMarks ["state", "many", "most"] f fd) (F1 : Df K mg "_law_draw" sDraw ["state", "many"] f1 fd1) (G1 : FnOk P w K mg base CX0 2 f1 fd1 ["state", "many"] spDraw) (T : Bt mg) : FnOk P w K mg base CX0 3 f fd ["state", "many", "most"] spMarks := by
  refine F.F.ok scLawMarks (fun vs H Q E h => ?_) (fun cdv A outer s H vs Q E hr h => ?_)
  · obtain ⟨d, c, l, k, m, n, rfl, _⟩ := h
    rfl
  · obtain ⟨d, c, l, k0, m, n, rfl, S, hk0, m0, m1, n0, n1, k⟩ := h
    have hu := hu_of hr
    refine ⟨_, pss_cons (ps_set (i := 3) scLawMarks.nd rfl (Or.inl rfl) pe_dnewK)
      (pss_cons (ps_for PassesOwn.never rfl (pi_range1 rfl T.range (pa_cons (pe_op op_add pe_int (pe_call G1 hr (by rfl) F1.g F1.F.kp F1.b .nil pass0 (pa_cons (pv 0) (pa_cons (pv 1) pa_nil)))) pa_nil)) (pg_name (i := 4) scLawMarks.nd rfl (Or.inl rfl)) (pss_one (ps_dput hu (pv 3) (pe_op op_sub (pe_call G1 hr (by rfl) F1.g F1.F.kp F1.b .nil pass0 (pa_cons (pv 0) (pa_cons (pe_op op_add (pe_op op_mul pe_int (pv 2)) pe_int) pa_nil))) (pv 2)) pe_bl rfl)))
      (pss_one (ps_ret (pe_callB (call_sortedDI rfl) (by rfl) T.sorted (by decide +kernel) (pa_cons (pv 3) pa_nil))))), ?_⟩
    intro t ht
    have s0 := Same.new (o := .dK []) ht
    have N0 := S.neD ht
    have S0 := S.same s0
    refine ⟨_, rfl, _, rfl, d, c, l, k0, _, rfl, S0, m0, by omega, by omega, fun r H1 r0 r1 S1 fm1 => ?_⟩
    have ht1 : H1 t = some (.dK []) := fm1 t _ upd_same N0.1 N0.2.2
    have fmT : Fm d l H H1 := fun b o e n1 n2 => fm1 b o (s0 b o e) n1 n2
    refine ⟨_, _, rfl, rfl, _, rfl, by omega, by omega, ?_⟩
    refine for_range (lo := 0) (n := (1 + r).toNat) (fun i σ H' => ∃ v kvs ns, σ = [some (.ref d), some (.int m), some (.int n), some (.ref t), v] ∧ H' t = some (.dK kvs) ∧ kvs.map (·.1) = ns.map Sum.inl ∧ ns.Nodup ∧ (∀ a ∈ ns, -n ≤ a ∧ a ≤ n) ∧ ns.length ≤ i ∧ (0 < i → 0 < ns.length) ∧ StAt H' d c l (k0 + 1 + i) ∧ Fm d l H H')
      ⟨none, [], [], rfl, ht1, rfl, List.nodup_nil, fun a ha => (by cases ha), Nat.le_refl _, fun z => absurd z (Nat.lt_irrefl 0), S1, fmT⟩ ?_ ?_
    · rintro i σ H' hi ⟨v, kvs, ns, rfl, h1, h2, h3, h4, h5, h6, S2, fm2⟩
      refine ⟨_, rfl, _, rfl, _, rfl, _, _, rfl, rfl, .inl ⟨by decide, by decide⟩, _, _, rfl, rfl, d, c, l, _, _, rfl, S2, by omega, by omega, by omega, fun u H2 u0 u1 S3 fm3 => ?_⟩
      have ht2 : H2 t = some (.dK kvs) := fm3 t _ h1 N0.1 N0.2.2
      have hl : kvs.length < sizeLine := by
        have := congrArg List.length h2
        rw [List.length_map, List.length_map] at this
        exact small1000 (by omega)
      refine ⟨_, rfl, _, _, rfl, rfl, t, _, rfl, DPut.k (k := Sum.inl (u - n)) ht2 hl, ?_⟩
      refine ⟨_, _, _, rfl, upd_same, keys_put h2, addK_nodup h3, fun a ha => ?_, ?_, fun _ => addK_pos ns (u - n), ?_, ?_⟩
      · rcases addK_mem ha with q | q
        · exact h4 a q
        · omega
      · have := addK_len ns (u - n)
        omega
      · exact S3.upd N0.1 N0.2.1 N0.2.2
      · exact (fm2.trans fm3).upd ht
    · rintro σ H' ⟨v, kvs, ns, rfl, h1, h2, h3, h4, h5, h6, S2, fm2⟩
      refine ⟨_, rfl, t, kvs, ns, rfl, .inl h1, h2, by omega, fun ys p perm srt hp => ?_⟩
      have sp := Same.new (o := .lst (ys.map V.int)) hp
      have hnd : ys.Nodup := perm.nodup_iff.mpr h3
      refine k _ p ys _ (by omega) ?_ (fun a ha => h4 a (perm.mem_iff.mp ha)) ?_ (by rw [perm.length_eq]; exact h6 (by omega)) (S2.same sp) (fm2.same sp) (fm2.none hp (S2.neD hp).1 (S2.neD hp).2.2) upd_same
      · refine (List.Pairwise.and srt hnd).imp ?_
        rintro a b ⟨q1, q2⟩
        omega
      · rw [perm.length_eq]
        omega
def spShare (K : PySem.W.Frag) : Sp := fun vs H Q _ => ∃ (d c l : Addr) (k : Nat) (m : Int), vs = [.ref d, .int m] ∧ StAt H d c l k ∧ k ≤ 70000 ∧ 0 < m ∧ m ≤ 8 ∧
  ∀ H' p xs k', k' ≤ k + 40 → Good 10 xs → xs.length ≤ 8 → 0 < xs.length → StAt H' d c l k' → Fm d l H H' → ShZ K H' p xs → Q (.ref p) H'
theorem scLawShare : FnScope ["state", "many", "mark"] ["state", "many"] (defScope sLawShare) := ⟨rfl, rfl, rfl, by decide +kernel, rfl, by decide +kernel, by decide +kernel⟩
theorem ok_law_share {f f1 f2 : Addr} {fd fd1 fd2 : FuncData} (F : Df K mg "_law_share" sLawShare ["state", "many"] f fd) (F1 : Df K mg "_law_heft" sLawHeft ["state"] f1 fd1) (G1 : FnOk P w K mg base CX0 3 f1 fd1 ["state"] (spHeft K)) (F2 : Df K mg "_law_marks" sLawMarks ["state", "many", "most"] f2 fd2) (G2 : FnOk P w K mg base CX0 3 f2 fd2 ["state", "many", "most"] spMarks) (T : Bt mg) : FnOk P w K mg base CX0 4 f fd ["state", "many"] (spShare K) := by
  refine F.F.ok scLawShare (fun vs H Q E h => ?_) (fun cdv A outer s H vs Q E hr h => ?_)
  · obtain ⟨d, c, l, k, m, rfl, _⟩ := h
    rfl
  · obtain ⟨d, c, l, k0, m, rfl, S, hk0, m0, m1, k⟩ := h
    refine ⟨_, pss_one (ps_ret (pe_callTy call_tuple_ofZ (by rfl) T.tuple (by decide +kernel) (pa_cons (pe_lc (own := [("mark", 2)]) (g := gName 2) (tt := tYes) rfl scLawShare.nd (pi_list (pe_call G2 hr (by rfl) F2.g F2.F.kp F2.b .nil pass0 (pa_cons (pv 0) (pa_cons (pv 1) (pa_cons pe_int pa_nil))))) (blkOk_by (N := ["state", "many", "mark"]) (sc := defScope sLawShare) (by decide +kernel)) (fun _ _ _ _ _ => pg_name (i := 2) scLawShare.nd rfl (Or.inl rfl)) (fun _ _ _ _ _ => pts_nil) (fun _ _ _ _ _ => pe_tup (pa_cons (pv 2) (pa_cons (pe_call G1 hr (by rfl) F1.g F1.F.kp F1.b .nil pass0 (pa_cons (pv 0) pa_nil)) pa_nil)))) pa_nil))), ?_⟩
    refine ⟨_, rfl, _, rfl, d, c, l, k0, m, 9, rfl, S, by omega, m0, by omega, by decide, by decide, fun H1 t ns k1 hk1 asc lo len pos S1 fm1 nt ht => ?_⟩
    have Nt := S.neD nt
    refine ⟨t, rfl, ⟨_, SqL.of ht⟩, fun D hD => lc_list (K := K) (a := t) (xs := ns.map V.int) (fun i H' => ∃ ws xs, H' D = some (.lst ws) ∧ PrsAt K H' ws xs ∧ xs.map (·.1) = ns.take i ∧ AllF 10 xs ∧ (∀ a ∈ xs, 0 < a.2.1) ∧ StAt H' d c l (k1 + 2 * i) ∧ Fm d l H1 H')
      ⟨[], [], upd_same, .nil, rfl, fun a ha => (by cases ha), fun a ha => (by cases ha), S1.same (Same.new hD), same_fm (Same.new hD)⟩ ?_ ?_ ?_⟩
    · rintro i H' _ ⟨ws, xs, _, _, _, _, _, _, fm2⟩
      exact SqL.of (fm2 t _ ht Nt.1 Nt.2.2)
    · rintro i v H' hi ⟨ws, xs, h1, h2, h3, h4, h5, S2, fm2⟩
      rw [List.getElem?_map] at hi
      obtain ⟨z, hzi, rfl⟩ : ∃ z, ns[i]? = some z ∧ v = V.int z := by
        cases e : ns[i]? with
        | none => rw [e] at hi; cases hi
        | some z => rw [e] at hi; exact ⟨z, rfl, (Option.some.inj hi).symm⟩
      have hi2 : i < ns.length := (List.getElem?_eq_some_iff.mp hzi).1
      have nD := S1.neD hD
      refine ⟨rfl, ?_⟩
      dsimp only [tYes]
      rw [if_pos rfl]
      refine ⟨_, rfl, _, rfl, d, c, l, _, rfl, S2, by omega, fun p H2 x fx px zx S3 fm3 hx => ⟨(by show 2 ≤ sizeLine; decide), fun q hq => ?_⟩⟩
      have kq := Same.new (o := .tup [V.int z, V.ref p]) hq
      have hD2 : H2 D = some (.lst ws) := fm3 D _ h1 nD.1 nD.2.2
      have hxl : xs.length ≤ i := by
        have := congrArg List.length h3
        rw [List.length_map, List.length_take] at this
        omega
      refine ⟨ws, kq _ _ hD2, small1000 (by rw [h2.len]; omega), ?_⟩
      refine ⟨_, xs ++ [(z, x)], upd_same, ?_, ?_, h4.app ?_, ?_, ?_, ?_⟩
      · exact (((h2.tk (tk_fm fm3 S2)).tk (tk_same kq)).app (.cons (SqT.of upd_same) (kq.tup hx) .nil)).tk (tk_lst (kq _ _ hD2))
      · rw [List.map_append, h3, take_snoc hzi]
        rfl
      · intro a ha
        rw [List.mem_singleton.mp ha]
        exact ⟨fx, zx⟩
      · intro a ha
        rcases List.mem_append.mp ha with q | q
        · exact h5 a q
        · rw [List.mem_singleton.mp q]
          exact px
      · exact (S3.same kq).upd nD.1 nD.2.1 nD.2.2
      · exact ((fm2.trans fm3).same kq).upd hD
    · rintro H' ⟨ws, xs, h1, h2, h3, h4, h5, S2, fm2⟩
      rw [List.length_map] at *
      rw [List.take_length] at h3
      have hl : xs.length = ns.length := by
        have := congrArg List.length h3
        rwa [List.length_map] at this
      refine ⟨_, ws, rfl, SqL.of h1, fun q o hq ho => ?_⟩
      have kq := Same.new (o := .frz o (.tup ws)) hq
      refine k _ q xs _ (by omega) ⟨by rw [h3]; exact asc, h4, h5, fun a ha => ?_⟩ (by omega) (by omega) (S2.same kq) ((fm1.trans fm2).same kq) ⟨ws, ⟨o, ho, upd_same⟩, h2.tk (tk_same kq)⟩
      have : a.1 ∈ ns := by
        rw [← h3]
        exact List.mem_map.mpr ⟨a, ha, rfl⟩
      have := lo _ this
      omega
end
end CS
set_option Elab.async false
set_option maxRecDepth 100000
set_option maxHeartbeats 4000000
set_option linter.unusedVariables false
/-! data of any kind: what keeps it, what it is an instance of, slices, sums, membership -/
namespace CS
open PySem L2
end CS
namespace L2
open PySem CS
section
variable {K : PySem.W.Frag} {H H' : Hp}
mutual
theorem Dp.same (e : Same H H') : ∀ {d : PyData} {v : V}, Dp K H v d → Dp K H' v d
  | .none, _, .non => .non
  | .bool _, _, .bl b => .bl b
  | .int _, _, .int i => .int i
  | .str _, _, .str x => .str x
  | .list _, _, .lst h a => .lst (e.seq h) (DpAll.same e a)
  | .tuple _, _, .tup h a => .tup (e.tup h) (DpAll.same e a)
theorem DpAll.same (e : Same H H') : ∀ {ds : List PyData} {vs : List V}, DpAll K H vs ds → DpAll K H' vs ds
  | [], _, .nil => .nil
  | _ :: _, _, .cons a b => .cons (Dp.same e a) (DpAll.same e b)
end

mutual
def flatD : PyData → Bool
  | .list _ => false
  | .dict _ => false
  | .tuple ds => flatDs ds
  | _ => true
def flatDs : List PyData → Bool
  | [] => true
  | d :: ds => flatD d && flatDs ds
end
mutual
theorem Dp.tk (e : TK K H H') : ∀ {d : PyData} {v : V}, flatD d = true → Dp K H v d → Dp K H' v d
  | .none, _, _, .non => .non
  | .bool _, _, _, .bl b => .bl b
  | .int _, _, _, .int i => .int i
  | .str _, _, _, .str x => .str x
  | .tuple ds, _, f, .tup h a => .tup (e _ _ h) (DpAll.tk e (by simpa [flatD] using f) a)
theorem DpAll.tk (e : TK K H H') : ∀ {ds : List PyData} {vs : List V}, flatDs ds = true → DpAll K H vs ds → DpAll K H' vs ds
  | [], _, _, .nil => .nil
  | d :: ds, _, f, .cons a b => by
    have f2 : (flatD d && flatDs ds) = true := by simpa [flatDs] using f
    rw [Bool.and_eq_true] at f2
    exact .cons (Dp.tk e f2.1 a) (DpAll.tk e f2.2 b)
end
theorem DpAll.len : ∀ {vs : List V} {ds : List PyData}, DpAll K H vs ds → vs.length = ds.length
  | _, _, .nil => rfl
  | _, _, .cons _ b => by simp [DpAll.len b]
theorem DpAll.app : ∀ {vs ws : List V} {ds es : List PyData}, DpAll K H vs ds → DpAll K H ws es → DpAll K H (vs ++ ws) (ds ++ es)
  | _, _, _, _, .nil, g => g
  | _, _, _, _, .cons a b, g => .cons a (DpAll.app b g)
theorem DpAll.drop : ∀ {vs : List V} {ds : List PyData} (n : Nat), DpAll K H vs ds → DpAll K H (vs.drop n) (ds.drop n)
  | _, _, 0, h => h
  | _, _, _ + 1, .nil => .nil
  | _, _, n + 1, .cons _ b => DpAll.drop n b
theorem DpAll.take : ∀ {vs : List V} {ds : List PyData} (n : Nat), DpAll K H vs ds → DpAll K H (vs.take n) (ds.take n)
  | _, _, 0, _ => .nil
  | _, _, _ + 1, .nil => .nil
  | _, _, n + 1, .cons a b => .cons a (DpAll.take n b)
theorem DpAll.get : ∀ {vs : List V} {ds : List PyData} {i : Nat} {v : V}, DpAll K H vs ds → vs[i]? = some v → ∃ d, ds[i]? = some d ∧ Dp K H v d
  | _, _, 0, _, .cons a _, e => by
    cases e
    exact ⟨_, rfl, a⟩
  | _, _, i + 1, _, .cons _ b, e => by
    obtain ⟨d, h1, h2⟩ := DpAll.get b (by simpa using e)
    exact ⟨d, by simpa using h1, h2⟩
theorem DpAll.at : ∀ {vs : List V} {ds : List PyData} {i : Nat} {d : PyData}, DpAll K H vs ds → ds[i]? = some d → ∃ v, vs[i]? = some v ∧ Dp K H v d
  | _, _, 0, _, .cons a _, e => by
    cases e
    exact ⟨_, rfl, a⟩
  | _, _, i + 1, _, .cons _ b, e => by
    obtain ⟨v, h1, h2⟩ := DpAll.at b (by simpa using e)
    exact ⟨v, by simpa using h1, h2⟩
theorem DpAll.ints : ∀ ns : List Int, DpAll K H (ns.map V.int) (ns.map PyData.int)
  | [] => .nil
  | n :: ns => .cons (.int n) (DpAll.ints ns)
theorem DpAll.of_ints : ∀ {ns : List Int} {vs : List V}, DpAll K H vs (ns.map PyData.int) → vs = ns.map V.int
  | [], _, .nil => rfl
  | _ :: _, _, .cons (.int _) b => by rw [DpAll.of_ints b]; rfl
theorem Dp.tup_inv {v : V} {ds : List PyData} (h : Dp K H v (.tuple ds)) : ∃ a xs, v = .ref a ∧ SqT K H a xs ∧ DpAll K H xs ds := by
  cases h with
  | tup h a => exact ⟨_, _, rfl, h, a⟩
theorem Dp.lst_inv {v : V} {ds : List PyData} (h : Dp K H v (.list ds)) : ∃ a xs, v = .ref a ∧ SqL K H a xs ∧ DpAll K H xs ds := by
  cases h with
  | lst h a => exact ⟨_, _, rfl, h, a⟩
theorem Dp.new_tup {p : Addr} {xs : List V} {ds : List PyData} (n : H p = none) (h : DpAll K H xs ds) : Dp K (upd H p (.tup xs)) (.ref p) (.tuple ds) := .tup (SqT.of upd_same) (h.same (Same.new n))
theorem Dp.new_lst {p : Addr} {xs : List V} {ds : List PyData} (n : H p = none) (h : DpAll K H xs ds) : Dp K (upd H p (.lst xs)) (.ref p) (.list ds) := .lst (SqL.of upd_same) (h.same (Same.new n))
mutual
theorem Dp.noDict : ∀ {d : PyData} {v : V}, Dp K H v d → d.hasDict = false
  | .none, _, .non => rfl
  | .bool _, _, .bl _ => rfl
  | .int _, _, .int _ => rfl
  | .str _, _, .str _ => rfl
  | .list ds, _, .lst _ a => by
    rw [PyData.hasDict]
    exact DpAll.noDict a
  | .tuple ds, _, .tup _ a => by
    rw [PyData.hasDict]
    exact DpAll.noDict a
theorem DpAll.noDict : ∀ {ds : List PyData} {vs : List V}, DpAll K H vs ds → PyData.hasDictAll ds = false
  | [], _, .nil => rfl
  | d :: ds, _, .cons a b => by
    rw [PyData.hasDictAll, Dp.noDict a, DpAll.noDict b]
    rfl
end
/-! isinstance -/
def tyD : PyData → String
  | .none => "NoneType"
  | .bool _ => "bool"
  | .int _ => "int"
  | .str _ => "str"
  | .list _ => "list"
  | .tuple _ => "tuple"
  | .dict _ => "dict"
theorem TyX.of_lst {p : Addr} {xs : List V} (h : SqL K H p xs) : TyX K H (.ref p) (.type "list") := by
  rcases h with (h | ⟨o, h⟩) | ⟨o, its, n, h, c, _⟩
  · exact .base (.lst h)
  · exact .base (.frz h)
  · exact .kList h c
theorem Dp.ty {v : V} {d : PyData} (h : Dp K H v d) : TyX K H v (.type (tyD d)) := by
  cases h with
  | non => exact .base .non
  | bl b => exact .base (.bl b)
  | int i => exact .base (.int i)
  | str x => exact .base (.str x)
  | lst h _ => exact TyX.of_lst h
  | tup h _ => exact TyX.of_tup h
def isIntD : PyData → Bool
  | .int _ => true
  | .bool _ => true
  | _ => false
theorem kit_int : ∀ d : PyData, d.hasDict = false → kitB (tyD d) "int" = some (isIntD d)
  | .none, _ => (by decide +kernel : kitB "NoneType" "int" = some false)
  | .bool _, _ => (by decide +kernel : kitB "bool" "int" = some true)
  | .int _, _ => (by decide +kernel : kitB "int" "int" = some true)
  | .str _, _ => (by decide +kernel : kitB "str" "int" = some false)
  | .list _, _ => (by decide +kernel : kitB "list" "int" = some false)
  | .tuple _, _ => (by decide +kernel : kitB "tuple" "int" = some false)
  | .dict _, h => by simp [PyData.hasDict] at h
def isBoolD : PyData → Bool
  | .bool _ => true
  | _ => false
theorem kit_bool : ∀ d : PyData, d.hasDict = false → kitB (tyD d) "bool" = some (isBoolD d)
  | .none, _ => (by decide +kernel : kitB "NoneType" "bool" = some false)
  | .bool _, _ => (by decide +kernel : kitB "bool" "bool" = some true)
  | .int _, _ => (by decide +kernel : kitB "int" "bool" = some false)
  | .str _, _ => (by decide +kernel : kitB "str" "bool" = some false)
  | .list _, _ => (by decide +kernel : kitB "list" "bool" = some false)
  | .tuple _, _ => (by decide +kernel : kitB "tuple" "bool" = some false)
  | .dict _, h => by simp [PyData.hasDict] at h
def isStrD : PyData → Bool
  | .str _ => true
  | _ => false
theorem kit_str : ∀ d : PyData, d.hasDict = false → kitB (tyD d) "str" = some (isStrD d)
  | .none, _ => (by decide +kernel : kitB "NoneType" "str" = some false)
  | .bool _, _ => (by decide +kernel : kitB "bool" "str" = some false)
  | .int _, _ => (by decide +kernel : kitB "int" "str" = some false)
  | .str _, _ => (by decide +kernel : kitB "str" "str" = some true)
  | .list _, _ => (by decide +kernel : kitB "list" "str" = some false)
  | .tuple _, _ => (by decide +kernel : kitB "tuple" "str" = some false)
  | .dict _, h => by simp [PyData.hasDict] at h
def isTupleD : PyData → Bool
  | .tuple _ => true
  | _ => false
theorem kit_tuple : ∀ d : PyData, d.hasDict = false → kitB (tyD d) "tuple" = some (isTupleD d)
  | .none, _ => (by decide +kernel : kitB "NoneType" "tuple" = some false)
  | .bool _, _ => (by decide +kernel : kitB "bool" "tuple" = some false)
  | .int _, _ => (by decide +kernel : kitB "int" "tuple" = some false)
  | .str _, _ => (by decide +kernel : kitB "str" "tuple" = some false)
  | .list _, _ => (by decide +kernel : kitB "list" "tuple" = some false)
  | .tuple _, _ => (by decide +kernel : kitB "tuple" "tuple" = some true)
  | .dict _, h => by simp [PyData.hasDict] at h
end
end L2
namespace CS
open PySem L2
section
variable {K : PySem.W.Frag} {H H' : Hp}
/-! class names -/
theorem cn_int {v : V} {i : Int} (h : Dp K H v (.int i)) : CN K H v "int" := by
  cases h
  exact .int i
theorem cn_bool {v : V} {b : Bool} (h : Dp K H v (.bool b)) : CN K H v "bool" := by
  cases h
  exact .bl b
theorem cn_str {v : V} {x : Str} (h : Dp K H v (.str x)) : CN K H v "str" := by
  cases h
  exact .str x
theorem cn_tup {v : V} {ds : List PyData} (h : Dp K H v (.tuple ds)) : CN K H v "tuple" := by
  cases h with
  | tup h a => exact .tup h
end
/-! slices and sums of tuples as data -/
def cutD {α : Type} (xs : List α) (lo hi : Option Int) : List α := (xs.drop (HT.sIx xs.length 0 lo)).take (HT.sIx xs.length xs.length hi - HT.sIx xs.length 0 lo)
def rCutD (K : PySem.W.Frag) : V → Option Int → Option Int → Hp → VK → Prop := fun x lo hi H Q => ∃ ds, Dp K H x (.tuple ds) ∧ ∀ H' v, Same H H' → Dp K H' v (.tuple (cutD ds lo hi)) → Q v H'
section
variable {X : Cx}
theorem sl_data : L2.SlR X (rCutD X.K) := by
  intro pins s σ H x v vl vu lo hi sl Q I rx hs pl pu ⟨ds, hd, q⟩
  obtain ⟨a, xs, rfl, hx, ha⟩ := hd.tup_inv
  have l := ha.len
  refine sl_tupA pins s σ H _ v vl vu lo hi sl Q I rx hs pl pu ⟨a, xs, rfl, hx, fun w => ?_, fun _ p np => ?_⟩
  · refine q H _ (Same.refl H) ?_
    have e : cutD ds lo hi = ds := by
      unfold cutD
      rw [← l, w.1, w.2, List.drop_zero, Nat.sub_zero, l, List.take_length]
    rw [e]
    exact hd
  · refine q _ _ (Same.new np) (.tup (SqT.of upd_same) ?_)
    unfold cutV cutD
    rw [l]
    exact (((ha.drop _).take _).same (Same.new np))
def rSumD (K : PySem.W.Frag) : R2 := fun x y H Q => ∃ ds es, Dp K H x (.tuple ds) ∧ Dp K H y (.tuple es) ∧ ds.length + es.length ≤ 1000 ∧ ∀ H' v, Same H H' → Dp K H' v (.tuple (ds ++ es)) → Q v H'
theorem op_sumD : OpR X (binaryOp .Add) (rSumD X.K) := by
  intro pins s σ H x y v u Q I rx ry ⟨ds, es, hd, he, sz, q⟩
  obtain ⟨a, xs, rfl, hx, ha⟩ := hd.tup_inv
  obtain ⟨b, ys, rfl, hy, hb⟩ := he.tup_inv
  have l1 := ha.len
  have l2 := hb.len
  refine op_catA pins s σ H _ _ v u Q I rx ry ⟨a, b, xs, ys, rfl, rfl, hx, hy, Nat.le_of_lt (small1000 (by omega)), fun e => ?_, fun _ e => ?_, fun _ _ p np => ?_⟩
  · subst e
    have : ds = [] := List.eq_nil_of_length_eq_zero (by rw [← l1]; rfl)
    subst this
    exact q H _ (Same.refl H) he
  · subst e
    have : es = [] := List.eq_nil_of_length_eq_zero (by rw [← l2]; rfl)
    subst this
    rw [List.append_nil] at q
    exact q H _ (Same.refl H) hd
  · exact q _ _ (Same.new np) (Dp.new_tup np (ha.app hb))
/-- x in t, x not in t -/
def rMemD (K : PySem.W.Frag) (neg : Bool) : R2 := fun x y H Q => ∃ d ds, Dp K H x d ∧ Dp K H y (.tuple ds) ∧ SeqAt.shaped d = true ∧ SeqAt.shaped (.tuple ds) = true ∧ Q (.bl (if neg then !ds.any fun z => PyData.eqv z d else ds.any fun z => PyData.eqv z d)) H
theorem op_memT (hu : X.A.units + 64 < cLine) : OpR X (compareOp .In) (rMemD X.K false) := by
  intro pins s σ H x y v u Q I rx ry ⟨d, ds, hd, he, sd, se, q⟩
  obtain ⟨as, r1⟩ := Dp.reads I d x v hd rx
  obtain ⟨bs, r2⟩ := Dp.reads I (.tuple ds) y u he ry
  refine SeqAt.in_tuple_reads r2 r1 (by simpa [PyData.canLay0] using SeqAt.canLay_of_shaped se) (SeqAt.canLay_of_shaped sd) ?_ ⟨.bl _, H, I, rfl, q⟩
  have z := SeqAt.depth_of_shaped se
  have : 1 + PyData.depthAll ds = (PyData.tuple ds).depth := by simp [PyData.depth]; omega
  have := Nat.min_le_left (PyData.depthAll ds) d.depth
  omega
theorem op_notT (hu : X.A.units + 64 < cLine) : OpR X (compareOp .NotIn) (rMemD X.K true) := by
  intro pins s σ H x y v u Q I rx ry ⟨d, ds, hd, he, sd, se, q⟩
  obtain ⟨as, r1⟩ := Dp.reads I d x v hd rx
  obtain ⟨bs, r2⟩ := Dp.reads I (.tuple ds) y u he ry
  refine SeqAt.notIn_tuple_reads r2 r1 (by simpa [PyData.canLay0] using SeqAt.canLay_of_shaped se) (SeqAt.canLay_of_shaped sd) ?_ ⟨.bl _, H, I, rfl, q⟩
  have z := SeqAt.depth_of_shaped se
  have : 1 + PyData.depthAll ds = (PyData.tuple ds).depth := by simp [PyData.depth]; omega
  have := Nat.min_le_left (PyData.depthAll ds) d.depth
  omega
def rMemL (K : PySem.W.Frag) : R2 := fun x y H Q => ∃ d ds, Dp K H x d ∧ Dp K H y (.list ds) ∧ SeqAt.shaped d = true ∧ SeqAt.shaped (.list ds) = true ∧ Q (.bl (ds.any fun z => PyData.eqv z d)) H
theorem op_memL (hu : X.A.units + 65 < cLine) : OpR X (compareOp .In) (rMemL X.K) := fun pins s σ H x y v u Q I rx ry h => op_inD hu pins s σ H x y v u Q I rx ry h
end
end CS
set_option Elab.async false
set_option maxRecDepth 100000
set_option maxHeartbeats 8000000
set_option linter.unusedVariables false
namespace CS
open PySem L2
/-- a def that tells whether a datum is so -/
def spD1 (K : PySem.W.Frag) (f : PyData → Bool) : Sp := fun vs H Q _ => ∃ v d, vs = [v] ∧ Dp K H v d ∧ Q (.bl (f d)) H
def wholeD : PyData → Bool
  | .int _ => true
  | _ => false
def wordD : PyData → Bool
  | .str _ => true
  | _ => false
def rowD : PyData → Bool
  | .tuple _ => true
  | _ => false
def rowOfD : PyData → Int → Bool
  | .tuple ds, n => decide ((ds.length : Int) = n)
  | _, _ => false
def spRowOfD (K : PySem.W.Frag) : Sp := fun vs H Q _ => ∃ v d n, vs = [v, .int n] ∧ Dp K H v d ∧ Q (.bl (rowOfD d n)) H
/-- a word and a number of things, of a tuple -/
def sortD (sorts : List PyData) : PyData → Bool
  | .tuple (.str x :: ds) => sorts.any fun z => PyData.eqv z (.tuple [.str x, .int ((ds.length + 1 : Nat) : Int)])
  | _ => false
def spSortD (K : PySem.W.Frag) : Sp := fun vs H Q _ => ∃ v d u sorts, vs = [v, u] ∧ Dp K H v d ∧ Dp K H u (.tuple sorts) ∧ SeqAt.shaped d = true ∧ SeqAt.shaped (.tuple sorts) = true ∧ ∀ H', Same H H' → Q (.bl (sortD sorts d)) H'
theorem shaped_head {x : Str} {ds : List PyData} {i : Int} (h : SeqAt.shaped (.tuple (.str x :: ds)) = true) : SeqAt.shaped (.tuple [.str x, .int i]) = true := by
  have h1 := SeqAt.canLay_of_shaped h
  simp [PyData.canLay0, PyData.canLayAll0] at h1
  simp [SeqAt.shaped, PyData.canLay0, PyData.canLayAll0, PyData.depth, PyData.depthAll, h1.1]
section
variable {P : Program} {w : World} {K : PySem.W.Frag} {mg : Str → Option Value} {base : Heap}
theorem ok_wholeD {f : Addr} {fd : FuncData} (F : Df K mg "is_whole" sIsWhole ["thing"] f fd) (T : Bt mg) : FnOk P w K mg base CX0 1 f fd ["thing"] (spD1 K wholeD) := by
  refine F.F.ok scIsWhole (fun vs H Q E h => ?_) (fun cdv A outer s H vs Q E hr h => ?_)
  · obtain ⟨v, d, rfl, _⟩ := h
    rfl
  · obtain ⟨v, d, rfl, hd, k⟩ := h
    refine ⟨_, pss_one (ps_ret (pe_and (pe_callB call_isi (by rfl) T.isinstance (by decide +kernel) (pa_cons (pv 0) (pa_cons (pe_bltn (v := .ty "int") (by rfl) T.int (by decide +kernel) rfl) pa_nil))) (pe_one (pe_cmpR op_eq (pe_cn (pv 0)) pe_str (nomark _))))), ?_⟩
    refine ⟨_, rfl, _, _, _, _, _, rfl, .ty _, hd.ty, kit_ty (kit_int d hd.noDict), _, rfl, ?_⟩
    cases d with
    | int i => exact iteT ⟨_, rfl, _, cn_int hd, rfl, k⟩
    | bool b => exact iteT ⟨_, rfl, _, cn_bool hd, rfl, k⟩
    | none => exact iteF k
    | str x => exact iteF k
    | list ds => exact iteF k
    | tuple ds => exact iteF k
    | dict ds => exact iteF k
theorem scIsWord : FnScope ["thing"] ["thing"] (defScope sIsWord) := ⟨rfl, rfl, rfl, by decide +kernel, rfl, by decide +kernel, by decide +kernel⟩
theorem ok_wordD {f : Addr} {fd : FuncData} (F : Df K mg "is_word" sIsWord ["thing"] f fd) (T : Bt mg) (mstr : mg "str" = none) : FnOk P w K mg base CX0 1 f fd ["thing"] (spD1 K wordD) := by
  refine F.F.ok scIsWord (fun vs H Q E h => ?_) (fun cdv A outer s H vs Q E hr h => ?_)
  · obtain ⟨v, d, rfl, _⟩ := h
    rfl
  · obtain ⟨v, d, rfl, hd, k⟩ := h
    refine ⟨_, pss_one (ps_ret (pe_and (pe_callB call_isi (by rfl) T.isinstance (by decide +kernel) (pa_cons (pv 0) (pa_cons (pe_bltn (v := .ty "str") (by rfl) mstr (by decide +kernel) rfl) pa_nil))) (pe_one (pe_cmpR op_eq (pe_cn (pv 0)) pe_str (nomark _))))), ?_⟩
    refine ⟨_, rfl, _, _, _, _, _, rfl, .ty _, hd.ty, kit_ty (kit_str d hd.noDict), _, rfl, ?_⟩
    cases d with
    | str x => exact iteT ⟨_, rfl, _, cn_str hd, rfl, k⟩
    | int i => exact iteF k
    | bool b => exact iteF k
    | none => exact iteF k
    | list ds => exact iteF k
    | tuple ds => exact iteF k
    | dict ds => exact iteF k
theorem ok_rowD {f : Addr} {fd : FuncData} (F : Df K mg "is_row" sIsRow ["thing"] f fd) (T : Bt mg) : FnOk P w K mg base CX0 1 f fd ["thing"] (spD1 K rowD) := by
  refine F.F.ok scIsRow (fun vs H Q E h => ?_) (fun cdv A outer s H vs Q E hr h => ?_)
  · obtain ⟨v, d, rfl, _⟩ := h
    rfl
  · obtain ⟨v, d, rfl, hd, k⟩ := h
    refine ⟨_, pss_one (ps_ret (pe_and (pe_callB call_isi (by rfl) T.isinstance (by decide +kernel) (pa_cons (pv 0) (pa_cons (pe_bltn (v := .ty "tuple") (by rfl) T.tuple (by decide +kernel) rfl) pa_nil))) (pe_one (pe_cmpR op_eq (pe_cn (pv 0)) pe_str (nomark _))))), ?_⟩
    refine ⟨_, rfl, _, _, _, _, _, rfl, .ty _, hd.ty, kit_ty (kit_tuple d hd.noDict), _, rfl, ?_⟩
    cases d with
    | tuple ds => exact iteT ⟨_, rfl, _, cn_tup hd, rfl, k⟩
    | str x => exact iteF k
    | int i => exact iteF k
    | bool b => exact iteF k
    | none => exact iteF k
    | list ds => exact iteF k
    | dict ds => exact iteF k
theorem ok_row_ofD {f f1 : Addr} {fd fd1 : FuncData} (F : Df K mg "is_row_of" sIsRowOf ["thing", "many"] f fd) (F1 : Df K mg "is_row" sIsRow ["thing"] f1 fd1) (G1 : FnOk P w K mg base CX0 1 f1 fd1 ["thing"] (spD1 K rowD)) (T : Bt mg) : FnOk P w K mg base CX0 2 f fd ["thing", "many"] (spRowOfD K) := by
  refine F.F.ok scIsRowOf (fun vs H Q E h => ?_) (fun cdv A outer s H vs Q E hr h => ?_)
  · obtain ⟨v, d, n, rfl, _⟩ := h
    rfl
  · obtain ⟨v, d, n, rfl, hd, k⟩ := h
    refine ⟨_, pss_one (ps_ret (pe_and (pe_call G1 hr (by rfl) F1.g F1.F.kp F1.b .nil pass0 (pa_cons (pv 0) pa_nil)) (pe_one (pe_cmpR op_eq (pe_callB call_len_seq (by rfl) T.len PySem.boot_len (pa_cons (pv 0) pa_nil)) (pv 1) (nomark _))))), ?_⟩
    refine ⟨_, rfl, v, d, rfl, hd, _, rfl, ?_⟩
    cases d with
    | tuple ds =>
      obtain ⟨a, xs, rfl, hs, ha⟩ := hd.tup_inv
      refine iteT ⟨_, rfl, a, xs, rfl, .inr hs, _, rfl, rfl, ?_⟩
      have e : decide (V.int (xs.length : Int) = V.int n) = decide ((ds.length : Int) = n) := by
        rw [decide_eq_decide, ha.len]
        exact ⟨V.int.inj, fun h => congrArg V.int h⟩
      rw [e]
      exact k
    | str x => exact iteF k
    | int i => exact iteF k
    | bool b => exact iteF k
    | none => exact iteF k
    | list ds => exact iteF k
    | dict ds => exact iteF k
theorem scHasSort : FnScope ["paper", "sorts"] ["paper", "sorts"] (defScope sHasSort) := ⟨rfl, rfl, rfl, by decide +kernel, rfl, by decide +kernel, by decide +kernel⟩
theorem ok_has_sort {f f1 f2 : Addr} {fd fd1 fd2 : FuncData} (F : Df K mg "has_sort" sHasSort ["paper", "sorts"] f fd) (D1 : Df K mg "is_row" sIsRow ["thing"] f1 fd1) (G1 : FnOk P w K mg base CX0 1 f1 fd1 ["thing"] (spD1 K rowD)) (D2 : Df K mg "is_word" sIsWord ["thing"] f2 fd2) (G2 : FnOk P w K mg base CX0 1 f2 fd2 ["thing"] (spD1 K wordD)) (T : Bt mg) : FnOk P w K mg base CX0 2 f fd ["paper", "sorts"] (spSortD K) := by
  refine F.F.ok scHasSort (fun vs H Q E h => ?_) (fun cdv A outer s H vs Q E hr h => ?_)
  · obtain ⟨v, d, u, so, rfl, _⟩ := h
    rfl
  · obtain ⟨v, d, u, so, rfl, hd, hu, sd, sh, k⟩ := h
    refine ⟨_, pss_cons (ps_if (PW.pt (pw_or (pt_not (pt_val (pe_call G1 hr (by rfl) D1.g D1.F.kp D1.b .nil pass0 (pa_cons (pv 0) pa_nil)))) (pw_or (pt_cmpR op_eq (pe_callB call_len_seq (by rfl) T.len PySem.boot_len (pa_cons (pv 0) pa_nil)) pe_int (nomark _)) (pw_or1 (pt_not (pt_val (pe_call G2 hr (by rfl) D2.g D2.F.kp D2.b .nil pass0 (pa_cons (pe_ix ix_tup (pv 0) pe_int (fun _ _ => rfl)) pa_nil)))))))) (pss_one (ps_ret pe_bl)) pss_nil)
      (pss_one (ps_ret (pe_cmpR (op_memT hr.units) (pe_tup (pa_cons (pe_ix ix_tup (pv 0) pe_int (fun _ _ => rfl)) (pa_cons (pe_callB call_len_seq (by rfl) T.len PySem.boot_len (pa_cons (pv 0) pa_nil)) pa_nil))) (pv 1) (by rfl)))), ?_⟩
    have k0 := k H (Same.refl H)
    refine ⟨_, rfl, v, d, rfl, hd, _, rfl, ?_⟩
    cases d with
    | tuple ds =>
      obtain ⟨a, xs, rfl, hs, ha⟩ := hd.tup_inv
      refine iteF ⟨_, rfl, a, xs, rfl, .inr hs, rfl, _, rfl, ?_⟩
      cases ds with
      | nil =>
        cases ha
        exact iteT k0
      | cons d0 ds =>
        obtain ⟨v0, hv0, hd0⟩ := ha.at (i := 0) rfl
        have hl := ha.len
        rw [decide_eq_false (show ¬ V.int (xs.length : Int) = V.int 0 from fun z => by
          have := V.int.inj z
          rw [hl] at this
          simp at this
          omega)]
        refine iteF ⟨_, rfl, a, xs, 0, v0, rfl, rfl, hs, atI_nat (j := 0) hv0, v0, d0, rfl, hd0, _, rfl, ?_⟩
        cases d0 with
        | str x =>
          refine iteF ⟨_, rfl, a, xs, 0, v0, rfl, rfl, hs, atI_nat (j := 0) hv0, _, rfl, a, xs, rfl, .inr hs, (by show 2 ≤ sizeLine; decide), fun t nt => ?_⟩
          have s1 := Same.new (o := .tup [v0, V.int (xs.length : Int)]) nt
          refine ⟨_, rfl, _, _, Dp.new_tup (ds := [.str x, .int (xs.length : Int)]) nt (.cons hd0 (.cons (.int _) .nil)), hu.same s1, shaped_head sd, sh, ?_⟩
          have := k _ s1
          rw [hl] at this ⊢
          exact this
        | int i => exact iteT k0
        | bool b => exact iteT k0
        | none => exact iteT k0
        | list ds => exact iteT k0
        | tuple ds => exact iteT k0
        | dict ds => exact iteT k0
    | str x => exact iteT k0
    | int i => exact iteT k0
    | bool b => exact iteT k0
    | none => exact iteT k0
    | list ds => exact iteT k0
    | dict ds => exact iteT k0
end
end CS
set_option Elab.async false
set_option maxRecDepth 100000
set_option maxHeartbeats 8000000
set_option linter.unusedVariables false
namespace L2
open PySem CS
theorem DpAll.of_bools {K : PySem.W.Frag} {H : Hp} : ∀ {bs : List Bool} {vs : List V}, DpAll K H vs (bs.map PyData.bool) → vs = bs.map V.bl
  | [], _, .nil => rfl
  | _ :: _, _, .cons (.bl _) b => by rw [DpAll.of_bools b]; rfl
theorem flatDs_app : ∀ {ds es : List PyData}, flatDs ds = true → flatDs es = true → flatDs (ds ++ es) = true
  | [], _, _, h => h
  | d :: ds, es, g, h => by
    have g2 : (flatD d && flatDs ds) = true := by simpa [flatDs] using g
    rw [Bool.and_eq_true] at g2
    show (flatD d && flatDs (ds ++ es)) = true
    rw [g2.1, flatDs_app g2.2 h]
    rfl
theorem flatDs_ints : ∀ ns : List Int, flatDs (ns.map PyData.int) = true
  | [] => rfl
  | n :: ns => by
    show (flatD (.int n) && flatDs (ns.map PyData.int)) = true
    rw [flatDs_ints ns]
    rfl
end L2
namespace CS
open PySem L2
theorem iteTe {b : Bool} {A B : Prop} {i : Decidable (b = true)} (e : b = true) (h : A) : @ite Prop (b = true) i A B := by
  rw [if_pos e]
  exact h
theorem iteFe {b : Bool} {A B : Prop} {i : Decidable (b = true)} (e : b = false) (h : B) : @ite Prop (b = true) i A B := by
  subst e
  rw [if_neg Bool.false_ne_true]
  exact h
/-- a list of data that a comprehension makes at D; H1 stood ahead -/
def LcD (K : PySem.W.Frag) (H1 : Hp) (D : Addr) (es : List PyData) (H : Hp) : Prop := ∃ ws, H D = some (.lst ws) ∧ Same H1 H ∧ DpAll K H ws es
section
variable {K : PySem.W.Frag} {H1 H H4 : Hp} {D : Addr}
theorem LcD.start (n : H1 D = none) : LcD K H1 D [] (upd H1 D (.lst [])) := ⟨[], upd_same, Same.new n, .nil⟩
theorem LcD.same {es : List PyData} (h : LcD K H1 D es H) : Same H1 H := by
  obtain ⟨ws, _, s, _⟩ := h
  exact s
theorem LcD.step {es : List PyData} {e : PyData} {y : V} (n : H1 D = none) (h : LcD K H1 D es H) (s : Same H H4) (hy : Dp K H4 y e) (f : flatDs es = true) (g : flatD e = true) (sz : es.length ≤ 1000) :
    ∃ acc, H4 D = some (.lst acc) ∧ acc.length < sizeLine ∧ LcD K H1 D (es ++ [e]) (upd H4 D (.lst (acc ++ [y]))) := by
  obtain ⟨ws, h1, s1, hd⟩ := h
  have h2 := s _ _ h1
  refine ⟨ws, h2, small1000 (by rw [hd.len]; exact sz), ws ++ [y], upd_same, same_upd n (s1.trans s), ?_⟩
  exact DpAll.tk (tk_lst h2) (flatDs_app f (by show (flatD e && flatDs []) = true; rw [g]; rfl)) ((hd.same s).app (.cons hy .nil))
theorem LcD.ints {ns : List Int} (h : LcD K H1 D (ns.map PyData.int) H) : H D = some (.lst (ns.map V.int)) := by
  obtain ⟨ws, h1, _, hd⟩ := h
  rw [hd.of_ints] at h1
  exact h1
theorem LcD.bools {bs : List Bool} (h : LcD K H1 D (bs.map PyData.bool) H) : H D = some (.lst (bs.map V.bl)) := by
  obtain ⟨ws, h1, _, hd⟩ := h
  rw [hd.of_bools] at h1
  exact h1
end
/-- t[lo:hi] of a tuple, whatever its items -/
def rCutV (K : PySem.W.Frag) : V → Option Int → Option Int → Hp → VK → Prop := fun x lo hi H Q => ∃ a xs, x = .ref a ∧ SqT K H a xs ∧ ∀ H' b, Same H H' → SqT K H' b (cutD xs lo hi) → Q (.ref b) H'
theorem sl_any {X : Cx} : L2.SlR X (rCutV X.K) := by
  intro pins s σ H x v vl vu lo hi sl Q I rx hs pl pu ⟨a, xs, ex, hx, q⟩
  subst ex
  refine sl_tupA pins s σ H _ v vl vu lo hi sl Q I rx hs pl pu ⟨a, xs, rfl, hx, fun w => ?_, fun _ p np => ?_⟩
  · refine q H _ (Same.refl H) ?_
    have e : cutD xs lo hi = xs := by
      unfold cutD
      rw [w.1, w.2, List.drop_zero, Nat.sub_zero, List.take_length]
    rw [e]
    exact hx
  · exact q _ _ (Same.new np) (SqT.of upd_same)
theorem cutD_nat {α : Type} {xs : List α} {i j : Nat} (h : j ≤ xs.length) (hij : i ≤ j) : cutD xs (some (i : Int)) (some (j : Int)) = (xs.drop i).take (j - i) := by
  unfold cutD
  rw [HT.sIx_nat, HT.sIx_nat, Nat.min_eq_left h, Nat.min_eq_left (Nat.le_trans hij h)]
/-! the mathematics of bends -/
def riseL (a b : List Int) : List Int := List.zipWith (fun lo hi => hi - lo) a b
def at0 (ns : List Int) (j : Nat) : Int := ns.getD j 0
def bowL (ms rs : List Int) (j : Nat) : Int := (at0 rs (j + 2) - at0 rs (j + 1)) * (at0 ms (j + 1) - at0 ms j) - (at0 rs (j + 1) - at0 rs j) * (at0 ms (j + 2) - at0 ms (j + 1))
def bendRow (ms rs : List Int) (way : Int) (i : Nat) : List (Nat × Nat) := ((List.range (ms.length - 2)).filter fun j => decide (0 < bowL ms rs j * way)).map fun j => (i, j)
def bendsL (ms : List Int) (rows : List (List Int)) (way : Int) : Nat → List (Nat × Nat)
  | 0 => []
  | n + 1 => bendsL ms rows way n ++ bendRow ms (riseL (rows.getD n []) (rows.getD (n + 1) [])) way n
def bendsT (ms : List Int) (rows : List (List Int)) (way : Int) : List (Nat × Nat) := bendsL ms rows way (rows.length - 1)
def plD (a : Nat × Nat) : PyData := .tuple [.int (a.1 : Int), .int (a.2 : Int)]
def costD (rows : List (List Int)) : PyData := .tuple (rows.map fun r => .tuple (r.map PyData.int))
/-- costs of n rows, m places each, not too great -/
structure CostOk (rows : List (List Int)) (n m : Nat) : Prop where
  len : rows.length = n
  wide : ∀ r ∈ rows, r.length = m
  small : ∀ r ∈ rows, ∀ c ∈ r, c.natAbs ≤ 1000
theorem riseL_len {a b : List Int} {m : Nat} (ha : a.length = m) (hb : b.length = m) : (riseL a b).length = m := by
  unfold riseL
  rw [List.length_zipWith, ha, hb, Nat.min_self]
theorem riseL_small {a b : List Int} (ha : ∀ c ∈ a, c.natAbs ≤ 1000) (hb : ∀ c ∈ b, c.natAbs ≤ 1000) : ∀ c ∈ riseL a b, c.natAbs ≤ 2000 := by
  intro c hc
  unfold riseL at hc
  rw [List.mem_iff_getElem?] at hc
  obtain ⟨i, hi⟩ := hc
  rw [List.getElem?_zipWith] at hi
  cases e1 : a[i]? with
  | none => rw [e1] at hi; cases hi
  | some x =>
    cases e2 : b[i]? with
    | none => rw [e1, e2] at hi; cases hi
    | some y =>
      rw [e1, e2] at hi
      cases hi
      have h1 := ha x (List.mem_of_getElem? e1)
      have h2 := hb y (List.mem_of_getElem? e2)
      omega
theorem at0_get {ns : List Int} {j : Nat} (h : j < ns.length) : ns[j]? = some (at0 ns j) := by
  unfold at0
  rw [List.getD_eq_getElem?_getD, List.getElem?_eq_getElem h]
  rfl
theorem at0_mem {ns : List Int} {j : Nat} (h : j < ns.length) : at0 ns j ∈ ns := List.mem_of_getElem? (at0_get h)
theorem bendRow_len (ms rs : List Int) (way : Int) (i : Nat) : (bendRow ms rs way i).length ≤ ms.length := by
  unfold bendRow
  rw [List.length_map]
  refine Nat.le_trans (List.length_filter_le _ _) ?_
  rw [List.length_range]
  omega
theorem bendsL_len (ms : List Int) (rows : List (List Int)) (way : Int) : ∀ n, (bendsL ms rows way n).length ≤ n * ms.length
  | 0 => by show 0 ≤ _; exact Nat.zero_le _
  | n + 1 => by
    have := bendsL_len ms rows way n
    have h2 := bendRow_len ms (riseL (rows.getD n []) (rows.getD (n + 1) [])) way n
    show (bendsL ms rows way n ++ _).length ≤ _
    rw [List.length_append, Nat.add_mul, Nat.one_mul]
    omega
theorem flat_pls : ∀ ps : List (Nat × Nat), flatDs (ps.map plD) = true
  | [] => rfl
  | p :: ps => by
    show (flatD (plD p) && flatDs (ps.map plD)) = true
    rw [flat_pls ps]
    rfl
section
variable {P : Program} {w : World} {K : PySem.W.Frag} {mg : Str → Option Value} {base : Heap}
def spCostRow (K : PySem.W.Frag) : Sp := fun vs H Q _ => ∃ (v : V) (row : List Int), vs = [v, .int ((row.length : Nat) : Int)] ∧ Dp K H v (.tuple (row.map PyData.int)) ∧ (∀ c ∈ row, c.natAbs ≤ 1000) ∧ row.length ≤ 900 ∧ ∀ H', Same H H' → Q (.bl true) H'
theorem scIsCostRow : FnScope ["thing", "many", "item"] ["thing", "many"] (defScope sIsCostRow) := ⟨rfl, rfl, rfl, by decide +kernel, rfl, by decide +kernel, by decide +kernel⟩
theorem ok_is_cost_row {f f1 f2 : Addr} {fd fd1 fd2 : FuncData} (F : Df K mg "is_cost_row" sIsCostRow ["thing", "many"] f fd) (D1 : Df K mg "is_row_of" sIsRowOf ["thing", "many"] f1 fd1) (G1 : FnOk P w K mg base CX0 2 f1 fd1 ["thing", "many"] (spRowOfD K)) (D2 : Df K mg "is_whole_within" sIsWholeWithin ["thing", "least", "most"] f2 fd2) (G2 : FnOk P w K mg base CX0 2 f2 fd2 ["thing", "least", "most"] spWW) (T : Bt mg) : FnOk P w K mg base CX0 3 f fd ["thing", "many"] (spCostRow K) := by
  refine F.F.ok scIsCostRow (fun vs H Q E h => ?_) (fun cdv A outer s H vs Q E hr h => ?_)
  · obtain ⟨v, row, rfl, _⟩ := h
    rfl
  · obtain ⟨v, row, rfl, hd, sm, l9, k⟩ := h
    refine ⟨_, pss_one (ps_ret (pe_and (pe_call G1 hr (by rfl) D1.g D1.F.kp D1.b .nil pass0 (pa_cons (pv 0) (pa_cons (pv 1) pa_nil))) (pe_one (pe_callB (cr_all rfl) (by rfl) T.all (by decide +kernel) (pa_cons (pe_lc (own := [("item", 2)]) (g := gName 2) (tt := tYes) rfl scIsCostRow.nd (pi_tup (pv 0)) (blkOk_by (N := ["thing", "many", "item"]) (sc := defScope sIsCostRow) (by decide +kernel)) (fun _ _ _ _ _ => pg_name (i := 2) scIsCostRow.nd rfl (Or.inl rfl)) (fun _ _ _ _ _ => pts_nil) (fun _ _ _ _ _ => pe_call G2 hr (by rfl) D2.g D2.F.kp D2.b .nil pass0 (pa_cons (pv 2) (pa_cons (pe_un un_neg pe_int) (pa_cons pe_int pa_nil))))) pa_nil))))), ?_⟩
    refine ⟨_, rfl, _, rfl, v, _, _, rfl, hd, _, rfl, ?_⟩
    refine iteTe (decide_eq_true (by rw [List.length_map])) ?_
    obtain ⟨a, xs, rfl, hs, ha⟩ := hd.tup_inv
    have ex := ha.of_ints
    subst ex
    refine ⟨_, rfl, a, rfl, ⟨_, hs⟩, fun D nD => lc_tup (K := K) (a := a) (xs := row.map V.int) (fun i H' => LcD K H D (((row.take i).map fun _ => true).map PyData.bool) H') (LcD.start nD) (fun i H' _ h => h.same.tup hs) ?_ ?_⟩
    · rintro i x H' hi h
      rw [List.getElem?_map] at hi
      cases e : row[i]? with
      | none => rw [e] at hi; cases hi
      | some c =>
        rw [e] at hi
        cases hi
        have hc := sm c (List.mem_of_getElem? e)
        have hi2 : i < row.length := (List.getElem?_eq_some_iff.mp e).1
        refine ⟨rfl, ?_⟩
        dsimp only [tYes]
        rw [if_pos rfl]
        refine ⟨_, rfl, _, rfl, c, _, _, rfl, ?_⟩
        rw [decide_eq_true (show -1000 ≤ c ∧ c ≤ 1000 by omega)]
        rw [take_snoc e, List.map_append, List.map_append]
        exact LcD.step nD h (Same.refl H') (.bl true) (by rw [List.map_map]; exact List.recOn (row.take i) rfl fun _ _ z => z) rfl (by rw [List.length_map, List.length_map, List.length_take]; omega)
    · intro H' h
      rw [List.length_map, List.take_length] at h
      refine ⟨D, _, rfl, SqL.of h.bools, ?_⟩
      rw [show ((row.map fun _ => true).all id) = true by simp]
      exact k _ h.same
def spNeedCosts (K : PySem.W.Frag) : Sp := fun vs H Q _ => ∃ (p q : Addr) (v : V) (xs ys : List (Int × Fx)) (rows : List (List Int)), vs = [.ref p, .ref q, v] ∧ ShAt K H p xs ∧ ShAt K H q ys ∧ Shr xs ∧ Shr ys ∧ Dp K H v (costD rows) ∧ CostOk rows xs.length ys.length ∧ ∀ H', Same H H' → Q v H'
theorem scNeedCosts : FnScope ["one", "other", "thing", "row"] ["one", "other", "thing"] (defScope sNeedCosts) := ⟨rfl, rfl, rfl, by decide +kernel, rfl, by decide +kernel, by decide +kernel⟩
theorem ok_need_costs {f f1 f2 f3 : Addr} {fd fd1 fd2 fd3 : FuncData} (F : Df K mg "need_costs" sNeedCosts ["one", "other", "thing"] f fd) (D1 : Df K mg "need_share" sNeedShare ["thing"] f1 fd1) (G1 : FnOk P w K mg base CX0 7 f1 fd1 ["thing"] (spNeedSh K)) (D2 : Df K mg "is_row_of" sIsRowOf ["thing", "many"] f2 fd2) (G2 : FnOk P w K mg base CX0 2 f2 fd2 ["thing", "many"] (spRowOfD K))
    (D3 : Df K mg "is_cost_row" sIsCostRow ["thing", "many"] f3 fd3) (G3 : FnOk P w K mg base CX0 3 f3 fd3 ["thing", "many"] (spCostRow K)) (T : Bt mg) : FnOk P w K mg base CX0 8 f fd ["one", "other", "thing"] (spNeedCosts K) := by
  refine F.F.ok scNeedCosts (fun vs H Q E h => ?_) (fun cdv A outer s H vs Q E hr h => ?_)
  · obtain ⟨p, q, v, xs, ys, rows, rfl, _⟩ := h
    rfl
  · obtain ⟨p, q, v, xs, ys, rows, rfl, hx, hy, sx, sy, hd, ok, k⟩ := h
    refine ⟨_, pss_cons (ps_expr (pe_call G1 hr (by rfl) D1.g D1.F.kp D1.b .nil pass0 (pa_cons (pv 0) pa_nil))) (pss_cons (ps_expr (pe_call G1 hr (by rfl) D1.g D1.F.kp D1.b .nil pass0 (pa_cons (pv 1) pa_nil)))
      (pss_cons (ps_if (PW.pt (pw_or (pt_not (pt_val (pe_call G2 (hr.mono (by decide)) (by rfl) D2.g D2.F.kp D2.b .nil pass0 (pa_cons (pv 2) (pa_cons (pe_callB call_len_seq (by rfl) T.len PySem.boot_len (pa_cons (pv 0) pa_nil)) pa_nil))))) (pw_or1 (pt_not (pt_val (pe_callB (cr_all rfl) (by rfl) T.all (by decide +kernel) (pa_cons (pe_lc (own := [("row", 3)]) (g := gName 3) (tt := tYes) rfl scNeedCosts.nd (pi_tup (pv 2)) (blkOk_by (N := ["one", "other", "thing", "row"]) (sc := defScope sNeedCosts) (by decide +kernel)) (fun _ _ _ _ _ => pg_name (i := 3) scNeedCosts.nd rfl (Or.inl rfl)) (fun _ _ _ _ _ => pts_nil) (fun _ _ _ _ _ => pe_call G3 (hr.mono (by decide)) (by rfl) D3.g D3.F.kp D3.b .nil pass0 (pa_cons (pv 3) (pa_cons (pe_callB (r := Evl.rLenS K) call_len_seq (by rfl) T.len PySem.boot_len (pa_cons (pv 1) pa_nil)) pa_nil)))) pa_nil))))))) (pss_one ps_never) pss_nil)
      (pss_one (ps_ret (pv 2))))), ?_⟩
    refine ⟨_, rfl, p, xs, rfl, hx, sx, fun H1 s1 => ⟨_, rfl, q, ys, rfl, hy.tk (tk_same s1), sy, fun H2 s2 => ?_⟩⟩
    have s12 := s1.trans s2
    obtain ⟨vx, hvx, hpx⟩ := hx.tk (tk_same s12)
    obtain ⟨vy, hvy, hpy⟩ := hy.tk (tk_same s12)
    have hd2 := hd.same s12
    refine ⟨_, rfl, _, rfl, p, vx, rfl, .inr hvx, v, _, _, rfl, hd2, _, rfl, ?_⟩
    rw [show rowOfD (costD rows) (vx.length : Int) = true from decide_eq_true (by rw [List.length_map, hpx.len, ok.len])]
    refine iteF ?_
    unfold costD at hd2
    obtain ⟨a, us, rfl, hs, ha⟩ := hd2.tup_inv
    refine ⟨_, rfl, a, rfl, ⟨_, hs⟩, fun D nD => lc_tup (K := K) (a := a) (xs := us) (fun i H' => LcD K H2 D (((rows.take i).map fun _ => true).map PyData.bool) H') (LcD.start nD) (fun i H' _ h => h.same.tup hs) ?_ ?_⟩
    · rintro i x H' hi h
      obtain ⟨d, e, hdx⟩ := ha.get hi
      rw [List.getElem?_map] at e
      cases er : rows[i]? with
      | none => rw [er] at e; cases e
      | some r =>
        rw [er] at e
        cases e
        have hm := List.mem_of_getElem? er
        have hi2 : i < rows.length := (List.getElem?_eq_some_iff.mp er).1
        have hw := ok.wide r hm
        have l8 := sy.1
        have l9 := sx.1
        have l10 := ok.len
        refine ⟨rfl, ?_⟩
        dsimp only [tYes]
        rw [if_pos rfl]
        refine ⟨_, rfl, _, rfl, q, vy, rfl, .inr (h.same.tup hvy), x, r, by rw [hpy.len, hw]; rfl, hdx.same h.same, ok.small r hm, by omega, fun H3 s3 => ?_⟩
        rw [take_snoc er, List.map_append, List.map_append]
        exact LcD.step nD h s3 (.bl true) (by rw [List.map_map]; exact List.recOn (rows.take i) rfl fun _ _ z => z) rfl (by rw [List.length_map, List.length_map, List.length_take]; omega)
    · intro H' h
      rw [ha.len, List.length_map, List.take_length] at h
      refine ⟨D, _, rfl, SqL.of h.bools, _, rfl, ?_⟩
      rw [show ((rows.map fun _ => true).all id) = true by simp]
      exact iteF ⟨_, rfl, k _ (s12.trans h.same)⟩
end
end CS
set_option Elab.async false
set_option maxRecDepth 100000
set_option maxHeartbeats 8000000
set_option linter.unusedVariables false
namespace CS
open PySem L2
section
variable {K : PySem.W.Frag} {H : Hp}
theorem PrsAt.dropC : ∀ {vs : List V} {xs : List (Int × Fx)} (n : Nat), PrsAt K H vs xs → PrsAt K H (vs.drop n) (xs.drop n)
  | _, _, 0, h => h
  | _, _, _ + 1, .nil => .nil
  | _, _, n + 1, .cons _ _ c => PrsAt.dropC n c
theorem PrsAt.takeC : ∀ {vs : List V} {xs : List (Int × Fx)} (n : Nat), PrsAt K H vs xs → PrsAt K H (vs.take n) (xs.take n)
  | _, _, 0, _ => .nil
  | _, _, _ + 1, .nil => .nil
  | _, _, n + 1, .cons a b c => .cons a b (PrsAt.takeC n c)
end
theorem three {α : Type} {xs : List α} {j : Nat} (h : j + 3 ≤ xs.length) : ∃ a b c, (xs.drop j).take 3 = [a, b, c] ∧ xs[j]? = some a ∧ xs[j + 1]? = some b ∧ xs[j + 2]? = some c := by
  refine ⟨xs[j], xs[j + 1], xs[j + 2], ?_, by simp, by simp, by simp⟩
  rw [List.drop_eq_getElem_cons (by omega), List.drop_eq_getElem_cons (by omega), List.drop_eq_getElem_cons (by omega)]
  rfl
section
variable {P : Program} {w : World} {K : PySem.W.Frag} {mg : Str → Option Value} {base : Heap}
def spBow (K : PySem.W.Frag) : Sp := fun vs H Q _ => ∃ (p q : Addr) (xs : List (Int × Fx)) (rs : List Int) (j : Nat), vs = [.ref p, .ref q, .int (j : Int)] ∧ ShAt K H p xs ∧ SqL K H q (rs.map V.int) ∧ j + 3 ≤ xs.length ∧ j + 3 ≤ rs.length ∧ (∀ a ∈ xs, a.1.natAbs ≤ 200) ∧ (∀ c ∈ rs, c.natAbs ≤ 2000) ∧
  ∀ H', Same H H' → Q (.int (bowL (xs.map (·.1)) rs j)) H'
theorem scBow : FnScope ["other", "rises", "column", "first", "second", "third", "number", "_", "ahead", "behind"] ["other", "rises", "column"] (defScope sBow) := ⟨rfl, rfl, rfl, by decide +kernel, rfl, by decide +kernel, by decide +kernel⟩
theorem ok_bow {f : Addr} {fd : FuncData} (F : Df K mg "bow" sBow ["other", "rises", "column"] f fd) (T : Bt mg) : FnOk P w K mg base CX0 1 f fd ["other", "rises", "column"] (spBow K) := by
  refine F.F.ok scBow (fun vs H Q E h => ?_) (fun cdv A outer s H vs Q E hr h => ?_)
  · obtain ⟨p, q, xs, rs, j, rfl, _⟩ := h
    rfl
  · obtain ⟨p, q, xs, rs, j, rfl, ⟨vx, hv, hP⟩, hq, l1, l2, sx, sr, k⟩ := h
    refine ⟨_, pss_cons (ps_asg (pe_lc (own := [("number", 6), ("_", 7)]) (g := gTup K 2 (gCons (gName 6) (gCons (gName 7) gNil))) (tt := tYes) rfl scBow.nd (pi_tup (pe_slice sl_any (pv 0) (po_some (pv 2)) (po_some (pe_op op_add (pv 2) pe_int)))) (blkOk_by (N := ["other", "rises", "column", "first", "second", "third", "number", "_", "ahead", "behind"]) (sc := defScope sBow) (by decide +kernel)) (fun _ _ _ _ _ => pg_tup rfl (pgs_cons (pg_name (i := 6) scBow.nd rfl (Or.inl rfl)) (pgs_cons (pg_name (i := 7) scBow.nd rfl (Or.inl rfl)) pgs_nil))) (fun _ _ _ _ _ => pts_nil) (fun _ _ _ _ _ => pv 6))
        (pg_lst rfl (pgs_cons (pg_name (i := 3) scBow.nd rfl (Or.inl rfl)) (pgs_cons (pg_name (i := 4) scBow.nd rfl (Or.inl rfl)) (pgs_cons (pg_name (i := 5) scBow.nd rfl (Or.inl rfl)) pgs_nil)))))
      (pss_cons (ps_set (i := 8) scBow.nd rfl (Or.inl rfl) (pe_op op_mul (pe_op op_sub (pe_ix ix_list (pv 1) (pe_op op_add (pv 2) pe_int) (fun _ _ => rfl)) (pe_ix ix_list (pv 1) (pv 2) (fun _ _ => rfl))) (pe_op op_sub (pv 5) (pv 4))))
      (pss_cons (ps_set (i := 9) scBow.nd rfl (Or.inl rfl) (pe_op op_mul (pe_op op_sub (pe_ix ix_list (pv 1) (pe_op op_add (pv 2) pe_int) (fun _ _ => rfl)) (pe_ix ix_list (pv 1) (pe_op op_add (pv 2) pe_int) (fun _ _ => rfl))) (pe_op op_sub (pv 4) (pv 3))))
      (pss_one (ps_ret (pe_op op_sub (pv 9) (pv 8)))))), ?_⟩
    have lv := hP.len
    obtain ⟨a0, a1, a2, e3, ea, eb, ec⟩ := three l1
    refine ⟨_, rfl, _, rfl, _, rfl, _, rfl, _, _, rfl, rfl, _, rfl, p, vx, rfl, hv, fun H1 b s1 hb => ?_⟩
    rw [show ((j : Int) + 3) = ((j + 3 : Nat) : Int) from rfl, cutD_nat (by rw [lv]; exact l1) (Nat.le_add_right j 3)] at hb
    have hP2 := ((hP.dropC j).takeC 3).tk (tk_same s1)
    rw [show j + 3 - j = 3 from by omega] at hb
    rw [e3] at hP2
    obtain ⟨us, eu⟩ : ∃ us, us = (vx.drop j).take 3 := ⟨_, rfl⟩
    rw [← eu] at hb hP2
    refine ⟨b, rfl, ⟨_, hb⟩, fun D nD => lc_tup (K := K) (a := b) (xs := us) (fun i H' => LcD K H1 D (([a0.1, a1.1, a2.1].take i).map PyData.int) H') (LcD.start nD) (fun i H' _ h => h.same.tup hb) ?_ ?_⟩
    · rintro i x H' hi h
      obtain ⟨q0, r0, m, y, rfl, hxi, hq0, hr0⟩ := hP2.get hi
      refine ⟨q0, _, rfl, h.same.tup hq0, rfl, _, _, rfl, _, _, rfl, rfl, rfl, ?_⟩
      dsimp only [tYes]
      rw [if_pos rfl]
      have hm : [a0.1, a1.1, a2.1][i]? = some m := by
        have : ([a0, a1, a2].map (·.1))[i]? = some m := by rw [List.getElem?_map, hxi]; rfl
        exact this
      refine ⟨_, rfl, ?_⟩
      rw [take_snoc hm, List.map_append]
      exact LcD.step nD h (Same.refl H') (.int m) (flatDs_ints _) rfl (by rw [List.length_map, List.length_take]; simp; omega)
    · intro H' h
      have l3 : us.length = 3 := hP2.len
      rw [l3] at h
      have hD := h.ints
      have s2 := s1.trans h.same
      refine ⟨D, _, rfl, SqL.of hD, rfl, _, _, rfl, _, _, rfl, _, _, rfl, rfl, ?_⟩
      have hq2 := s2.seq hq
      have g0 := at0_get (show j < rs.length by omega)
      have g1 := at0_get (show j + 1 < rs.length by omega)
      have g2 := at0_get (show j + 2 < rs.length by omega)
      have m0 := at0_get (ns := xs.map (·.1)) (j := j) (by rw [List.length_map]; omega)
      have m1 := at0_get (ns := xs.map (·.1)) (j := j + 1) (by rw [List.length_map]; omega)
      have m2 := at0_get (ns := xs.map (·.1)) (j := j + 2) (by rw [List.length_map]; omega)
      rw [List.getElem?_map, ea] at m0
      rw [List.getElem?_map, eb] at m1
      rw [List.getElem?_map, ec] at m2
      have n0 : a0.1 = at0 (xs.map (·.1)) j := Option.some.inj m0
      have n1 : a1.1 = at0 (xs.map (·.1)) (j + 1) := Option.some.inj m1
      have n2 : a2.1 = at0 (xs.map (·.1)) (j + 2) := Option.some.inj m2
      have b0 := sx _ (List.mem_of_getElem? ea)
      have b1 := sx _ (List.mem_of_getElem? eb)
      have b2 := sx _ (List.mem_of_getElem? ec)
      have v0 : atI (rs.map V.int) ((j : Nat) : Int) = some (.int (at0 rs j)) := atI_nat (by rw [List.getElem?_map, g0]; rfl)
      have v1 : atI (rs.map V.int) ((j : Int) + 1) = some (.int (at0 rs (j + 1))) := atI_nat (j := j + 1) (by rw [List.getElem?_map, g1]; rfl)
      have v2 : atI (rs.map V.int) ((j : Int) + 2) = some (.int (at0 rs (j + 2))) := atI_nat (j := j + 2) (by rw [List.getElem?_map, g2]; rfl)
      refine ⟨_, rfl, _, rfl, _, _, rfl, rfl, q, _, _, _, rfl, rfl, hq2, v1, _, rfl, _, rfl, q, _, _, _, rfl, rfl, hq2, v0, _, _, rfl, rfl, _, rfl, _, rfl, _, _, rfl, rfl, _, _, rfl, rfl, .inr (by omega), ?_⟩
      refine ⟨_, rfl, _, rfl, _, _, rfl, rfl, q, _, _, _, rfl, rfl, hq2, v2, _, rfl, _, rfl, _, _, rfl, rfl, q, _, _, _, rfl, rfl, hq2, v1, _, _, rfl, rfl, _, rfl, _, rfl, _, _, rfl, rfl, _, _, rfl, rfl, .inr (by omega), ?_⟩
      refine ⟨_, rfl, _, rfl, _, _, rfl, rfl, ?_⟩
      have kk := k _ s2
      unfold bowL at kk
      rw [← n0, ← n1, ← n2] at kk
      exact kk
end
end CS
set_option Elab.async false
set_option maxRecDepth 100000
set_option maxHeartbeats 8000000
set_option linter.unusedVariables false
namespace CS
open PySem L2 RZ
/-- a walk over two tuples side by side -/
theorem walk_two {K : PySem.W.Frag} {a b : Addr} {xs ys : List V} {n : Nat} (h1 : xs.length = n) (h2 : ys.length = n) : Walk (ItzT K a b) n (fun H => SqT K H a xs ∧ SqT K H b ys) (YPair (fun i => xs[i]?) (fun i => ys[i]?)) where
  goes := fun i H hi q => ⟨xs, ys, xs[i]'(h1 ▸ hi), ys[i]'(h2 ▸ hi), q.1, q.2, List.getElem?_eq_getElem _, List.getElem?_eq_getElem _⟩
  stops := fun H q => ⟨xs, ys, q.1, q.2, .inl (Nat.le_of_eq h1)⟩
  yields := by
    rintro i H v H' _ ⟨q1, q2⟩ ⟨t, x, y, ev, nt, eH, ex, ey⟩
    exact ⟨t, x, y, ev, nt, eH, ex xs q1, ey ys q2⟩
theorem bendsL_succ (ms : List Int) (rows : List (List Int)) (way : Int) (n : Nat) : bendsL ms rows way (n + 1) = bendsL ms rows way n ++ bendRow ms (riseL (rows.getD n []) (rows.getD (n + 1) [])) way n := rfl
theorem bowL_small {ms rs : List Int} {j : Nat} (h1 : ∀ a ∈ ms, a.natAbs ≤ 200) (h2 : ∀ c ∈ rs, c.natAbs ≤ 2000) (l1 : j + 3 ≤ ms.length) (l2 : j + 3 ≤ rs.length) : (bowL ms rs j).natAbs ≤ 4000000 := by
  have a0 := h1 _ (at0_mem (ns := ms) (j := j) (by omega))
  have a1 := h1 _ (at0_mem (ns := ms) (j := j + 1) (by omega))
  have a2 := h1 _ (at0_mem (ns := ms) (j := j + 2) (by omega))
  have c0 := h2 _ (at0_mem (ns := rs) (j := j) (by omega))
  have c1 := h2 _ (at0_mem (ns := rs) (j := j + 1) (by omega))
  have c2 := h2 _ (at0_mem (ns := rs) (j := j + 2) (by omega))
  unfold bowL
  have m : ∀ x y : Int, x.natAbs ≤ 4000 → y.natAbs ≤ 400 → (x * y).natAbs ≤ 1600000 := fun x y hx hy => by
    rw [Int.natAbs_mul]
    exact Nat.mul_le_mul hx hy
  have e1 := m (at0 rs (j + 2) - at0 rs (j + 1)) (at0 ms (j + 1) - at0 ms j) (by omega) (by omega)
  have e2 := m (at0 rs (j + 1) - at0 rs j) (at0 ms (j + 2) - at0 ms (j + 1)) (by omega) (by omega)
  omega
section
variable {P : Program} {w : World} {K : PySem.W.Frag} {mg : Str → Option Value} {base : Heap}
def spBends (K : PySem.W.Frag) : Sp := fun vs H Q _ => ∃ (q : Addr) (v : V) (ys : List (Int × Fx)) (rows : List (List Int)) (way : Int), vs = [.ref q, v, .int way] ∧ ShAt K H q ys ∧ Dp K H v (costD rows) ∧ CostOk rows rows.length ys.length ∧ rows.length ≤ 8 ∧ ys.length ≤ 8 ∧ (∀ a ∈ ys, a.1.natAbs ≤ 200) ∧ way.natAbs ≤ 1 ∧
  ∀ H' r, Same H H' → Dp K H' r (.tuple ((bendsT (ys.map (·.1)) rows way).map plD)) → Q r H'
theorem scBends : FnScope ["other", "costs", "way", "found", "row", "rises", "low", "high", "column"] ["other", "costs", "way"] (defScope sBends) := ⟨rfl, rfl, rfl, by decide +kernel, rfl, by decide +kernel, by decide +kernel⟩
theorem ok_bends {f f1 : Addr} {fd fd1 : FuncData} (F : Df K mg "bends" sBends ["other", "costs", "way"] f fd) (D1 : Df K mg "bow" sBow ["other", "rises", "column"] f1 fd1) (G1 : FnOk P w K mg base CX0 1 f1 fd1 ["other", "rises", "column"] (spBow K)) (T : Bt mg) : FnOk P w K mg base CX0 2 f fd ["other", "costs", "way"] (spBends K) := by
  refine F.F.ok scBends (fun vs H Q E h => ?_) (fun cdv A outer s H vs Q E hr h => ?_)
  · obtain ⟨q, v, ys, rows, way, rfl, _⟩ := h
    rfl
  · obtain ⟨q, v, ys, rows, way, rfl, ⟨vy, hvy, hP⟩, hd, ok, l8, y8, sy, wy, k⟩ := h
    refine ⟨_, pss_cons (ps_set (i := 3) scBends.nd rfl (Or.inl rfl) (pe_lst pa_nil))
      (pss_cons (ps_for PassesOwn.never rfl (pi_range1 rfl T.range (pa_cons (pe_op op_sub (pe_callB (r := Evl.rLenS K) call_len_seq (by rfl) T.len PySem.boot_len (pa_cons (pv 1) pa_nil)) pe_int) pa_nil)) (pg_name (i := 4) scBends.nd rfl (Or.inr rfl))
        (pss_cons (ps_set (i := 5) scBends.nd rfl (Or.inr rfl) (pe_lc (own := [("low", 6), ("high", 7)]) (g := gTup K 2 (gCons (gName 6) (gCons (gName 7) gNil))) (tt := tYes) rfl scBends.nd (pi_zipA (by rfl) T.zip (pa_cons (pe_ix ix_tup (pv 1) (pv 4) (fun _ _ => rfl)) (pa_cons (pe_ix ix_tup (pv 1) (pe_op op_add (pv 4) pe_int) (fun _ _ => rfl)) pa_nil))) (blkOk_by (N := ["other", "costs", "way", "found", "row", "rises", "low", "high", "column"]) (sc := defScope sBends) (by decide +kernel)) (fun _ _ _ _ _ => pg_tup rfl (pgs_cons (pg_name (i := 6) scBends.nd rfl (Or.inl rfl)) (pgs_cons (pg_name (i := 7) scBends.nd rfl (Or.inl rfl)) pgs_nil))) (fun _ _ _ _ _ => pts_nil) (fun _ _ _ _ _ => pe_op op_sub (pv 7) (pv 6))))
        (pss_one (ps_expr (pe_bm PySem.F.plainAttrs_list PySem.F.slot_list_extend PySem.F.type_list_extend mt_extend (pv 3) (pa_cons (pe_lc (own := [("column", 8)]) (g := gName 8) (tt := _) rfl scBends.nd (pi_range1 rfl T.range (pa_cons (pe_op op_sub (pe_callB (r := Evl.rLenS K) call_len_seq (by rfl) T.len PySem.boot_len (pa_cons (pv 0) pa_nil)) pe_int) pa_nil)) (blkOk_by (N := ["other", "costs", "way", "found", "row", "rises", "low", "high", "column"]) (sc := defScope sBends) (by decide +kernel)) (fun _ _ _ _ _ => pg_name (i := 8) scBends.nd rfl (Or.inl rfl)) (fun _ _ _ _ _ => pts_one (pt_cmpR op_gt (pe_op op_mul (pe_call G1 hr (by rfl) D1.g D1.F.kp D1.b .nil pass0 (pa_cons (pv 0) (pa_cons (pv 5) (pa_cons (pv 8) pa_nil)))) (pv 2)) pe_int (nomark _))) (fun _ _ _ _ _ => pe_tup (pa_cons (pv 4) (pa_cons (pv 8) pa_nil)))) pa_nil))))))
      (pss_one (ps_ret (pe_callTy call_tuple_of (by rfl) T.tuple (by decide +kernel) (pa_cons (pv 3) pa_nil))))), ?_⟩
    obtain ⟨ms, ems⟩ : ∃ ms, ms = ys.map (·.1) := ⟨_, rfl⟩
    have lms : ms.length = ys.length := by rw [ems, List.length_map]
    have sms : ∀ a ∈ ms, a.natAbs ≤ 200 := fun a ha => by
      rw [ems] at ha
      obtain ⟨z, hz, rfl⟩ := List.mem_map.mp ha
      exact sy z hz
    have lv := hP.len
    unfold costD at hd
    obtain ⟨a, us, rfl, hs, ha⟩ := hd.tup_inv
    have lus : us.length = rows.length := by rw [ha.len, List.length_map]
    refine ⟨(by show 0 ≤ sizeLine; decide), fun F0 nF => ?_⟩
    have s0 := Same.new (o := .lst []) nF
    refine ⟨_, rfl, a, us, rfl, .inr (s0.tup hs), _, _, rfl, rfl, _, rfl, by omega, by omega, ?_⟩
    refine for_range (lo := 0) (n := ((us.length : Int) - 1).toNat) (fun i σ H' => ∃ v4 v5 ws, σ = [some (.ref q), some (.ref a), some (.int way), some (.ref F0), v4, v5, none, none, none] ∧ H' F0 = some (.lst ws) ∧ Same H H' ∧ DpAll K H' ws ((bendsL ms rows way i).map plD)) ⟨none, none, [], rfl, upd_same, s0, .nil⟩ ?_ ?_
    · rintro i σ H1 hi ⟨v4, v5, ws, rfl, hF, s1, hw⟩
      have hi2 : i + 1 < rows.length := by omega
      obtain ⟨R0, r0⟩ : ∃ R, rows[i]? = some R := ⟨_, List.getElem?_eq_getElem (show i < rows.length by omega)⟩
      obtain ⟨R1, r1⟩ : ∃ R, rows[i + 1]? = some R := ⟨_, List.getElem?_eq_getElem hi2⟩
      have m0 : R0 ∈ rows := List.mem_of_getElem? r0
      have m1 : R1 ∈ rows := List.mem_of_getElem? r1
      obtain ⟨u0, hu0, hd0⟩ := ha.at (i := i) (by rw [List.getElem?_map, r0]; rfl)
      obtain ⟨u1, hu1, hd1⟩ := ha.at (i := i + 1) (by rw [List.getElem?_map, r1]; rfl)
      obtain ⟨a0, x0, rfl, hs0, ha0⟩ := hd0.tup_inv
      obtain ⟨a1, x1, rfl, hs1, ha1⟩ := hd1.tup_inv
      have e0 := ha0.of_ints
      have e1 := ha1.of_ints
      subst e0 e1
      have w0 := ok.wide _ m0
      have w1 := ok.wide _ m1
      obtain ⟨rs, ers⟩ : ∃ rs, rs = riseL R0 R1 := ⟨_, rfl⟩
      have lrs : rs.length = ys.length := by rw [ers]; exact riseL_len w0 w1
      have srs : ∀ c ∈ rs, c.natAbs ≤ 2000 := by rw [ers]; exact riseL_small (ok.small _ m0) (ok.small _ m1)
      refine ⟨_, rfl, _, rfl, a, us, _, .ref a0, rfl, rfl, s1.tup hs, (by rw [Int.zero_add]; exact atI_nat hu0), _, rfl, _, rfl, _, _, rfl, rfl, a, us, _, .ref a1, rfl, rfl, s1.tup hs, (by rw [Int.zero_add]; exact atI_nat (j := i + 1) hu1), a0, a1, _, _, rfl, .inr ⟨s1.tup hs0, s1.tup hs1, fun D nD => lc_it (walk_two (n := ys.length) (by rw [List.length_map, w0]) (by rw [List.length_map, w1])) (fun j H' => LcD K H1 D ((rs.take j).map PyData.int) H') (LcD.start nD) (fun j H' _ h => ⟨h.same.tup (s1.tup hs0), h.same.tup (s1.tup hs1)⟩) ?_ ?_⟩⟩
      · rintro j x H2 H3 hj h ⟨t, x, y, rfl, nt, rfl, ex, ey⟩
        obtain ⟨z0, c0⟩ : ∃ z, R0[j]? = some z := ⟨_, List.getElem?_eq_getElem (show j < R0.length by omega)⟩
        obtain ⟨z1, c1⟩ : ∃ z, R1[j]? = some z := ⟨_, List.getElem?_eq_getElem (show j < R1.length by omega)⟩
        dsimp only at ex ey
        rw [List.getElem?_map, c0] at ex
        rw [List.getElem?_map, c1] at ey
        obtain rfl := Option.some.inj ex
        obtain rfl := Option.some.inj ey
        have k1 := Same.new (o := .tup [V.int z0, V.int z1]) nt
        refine ⟨t, _, rfl, SqT.of upd_same, rfl, _, _, rfl, _, _, rfl, rfl, rfl, ?_⟩
        dsimp only [tYes]
        rw [if_pos rfl]
        refine ⟨_, rfl, _, rfl, _, _, rfl, rfl, ?_⟩
        have er : rs[j]? = some (z1 - z0) := by
          rw [ers]
          unfold riseL
          rw [List.getElem?_zipWith, c0, c1]
        rw [take_snoc er, List.map_append]
        exact LcD.step nD h k1 (.int _) (flatDs_ints _) rfl (by rw [List.length_map, List.length_take]; omega)
      · intro H2 h
        rw [show rs.take ys.length = rs from by rw [← lrs, List.take_length]] at h
        have hR := h.ints
        have s2 := s1.trans h.same
        have hF2 := h.same _ _ hF
        have hw2 := hw.same h.same
        refine ⟨_, rfl, .inl ⟨rfl, _, SqL.of hF2⟩, _, rfl, q, vy, rfl, .inr (s2.tup hvy), _, _, rfl, rfl, _, rfl, by omega, by omega, fun E0 nE => lc_it (walk_range (lo := 0) (n := ((vy.length : Int) - 2).toNat)) (fun j H' => LcD K H2 E0 ((((List.range j).filter fun j => decide (0 < bowL ms rs j * way)).map fun j => (i, j)).map plD) H') (LcD.start nE) (fun _ _ _ _ => trivial) ?_ ?_⟩
        · rintro j x H3 H4 hj h3 ⟨rfl, rfl⟩
          have hj3 : j + 3 ≤ ys.length := by omega
          refine ⟨rfl, ?_⟩
          refine ⟨_, rfl, _, rfl, _, rfl, q, D, ys, rs, j, by (show [V.ref q, V.ref D, V.int (0 + (j : Int))] = _; rw [Int.zero_add]), ⟨vy, (s2.trans h3.same).tup hvy, hP.tk (tk_same (s2.trans h3.same))⟩, SqL.of (h3.same _ _ hR), hj3, by omega, sy, srs, fun H5 s5 => ?_⟩
          have sm := bowL_small sms srs (j := j) (by omega) (by omega)
          rw [← ems]
          refine ⟨_, rfl, _, _, rfl, rfl, .inr (by omega), _, _, rfl, rfl, _, rfl, ?_⟩
          have len : ((((List.range j).filter fun j => decide (0 < bowL ms rs j * way)).map fun j => (i, j)).map plD).length ≤ 1000 := by
            rw [List.length_map, List.length_map]
            have := List.length_filter_le (fun j => decide (0 < bowL ms rs j * way)) (List.range j)
            rw [List.length_range] at this
            omega
          rw [List.range_succ, List.filter_append]
          by_cases hc : 0 < bowL ms rs j * way
          · rw [decide_eq_true hc, List.filter_cons_of_pos (by simp [hc])]
            dsimp only
            rw [if_pos rfl]
            refine ⟨_, rfl, _, rfl, (by show 2 ≤ sizeLine; decide), fun t nt => ?_⟩
            rw [List.filter_nil, List.map_append, List.map_append]
            refine LcD.step nE h3 (s5.trans (Same.new nt)) ?_ (flat_pls _) rfl len
            refine .tup (SqT.of upd_same) ?_
            rw [Int.zero_add, Int.zero_add]
            exact .cons (.int _) (.cons (.int _) .nil)
          · rw [decide_eq_false hc, List.filter_cons_of_neg (by simp [hc]), List.filter_nil, List.append_nil]
            dsimp only
            rw [if_neg Bool.false_ne_true]
            obtain ⟨ws3, g1, g2, g3⟩ := h3
            exact ⟨ws3, s5 _ _ g1, g2.trans s5, g3.same s5⟩
        · intro H3 h3
          obtain ⟨ws3, g1, g2, g3⟩ := h3
          have hF3 := g2 _ _ hF2
          refine ⟨F0, E0, ws, ws3, rfl, rfl, hF3, g1, ?_, ?_⟩
          · have l1 := hw.len
            have l2 := g3.len
            rw [List.length_map] at l1 l2
            have l3 := bendsL_len ms rows way i
            have l4 := List.length_filter_le (fun j => decide (0 < bowL ms rs j * way)) (List.range ((vy.length : Int) - 2).toNat)
            rw [List.length_range] at l4
            rw [List.length_map] at l2
            have : i * ms.length ≤ 8 * 8 := Nat.mul_le_mul (by omega) (by omega)
            exact Nat.le_of_lt (small1000 (by omega))
          · have s3 := s2.trans g2
            refine ⟨_, _, _, rfl, upd_same, same_upd nF s3, ?_⟩
            have e : bendsL ms rows way (i + 1) = bendsL ms rows way i ++ (((List.range ((vy.length : Int) - 2).toNat).filter fun j => decide (0 < bowL ms rs j * way)).map fun j => (i, j)) := by
              rw [bendsL_succ]
              unfold bendRow
              rw [show rows.getD i [] = R0 from by rw [List.getD_eq_getElem?_getD, r0]; rfl, show rows.getD (i + 1) [] = R1 from by rw [List.getD_eq_getElem?_getD, r1]; rfl, ← ers, lms, show ((vy.length : Int) - 2).toNat = ys.length - 2 from by omega]
            rw [e, List.map_append]
            exact DpAll.tk (tk_lst hF3) (flatDs_app (flat_pls _) (flat_pls _)) ((hw2.same g2).app g3)
    · rintro σ H1 ⟨v4, v5, ws, rfl, hF, s1, hw⟩
      refine ⟨_, rfl, F0, ws, rfl, .inl ⟨SqL.of hF, fun l nl => ?_⟩⟩
      have k1 := Same.new (o := .tup ws) nl
      refine k _ _ (s1.trans k1) ?_
      rw [← ems]
      unfold bendsT
      rw [show rows.length - 1 = ((us.length : Int) - 1).toNat from by omega]
      exact Dp.new_tup nl hw
end
end CS
set_option Elab.async false
set_option maxRecDepth 100000
set_option maxHeartbeats 8000000
set_option linter.unusedVariables false
namespace CS
open PySem L2 StX
def kindD (ups downs : List (Nat × Nat)) : PyData := match ups, downs with
  | u :: _, d :: _ => .tuple [.str "mixed", .int (u.1 : Int), .int (u.2 : Int), .int (d.1 : Int), .int (d.2 : Int)]
  | _ :: _, [] => .tuple [.str "up"]
  | [], _ :: _ => .tuple [.str "down"]
  | [], [] => .tuple [.str "straight"]
def kindSorts : List PyData := [.tuple [.str "down", .int 1], .tuple [.str "up", .int 1], .tuple [.str "straight", .int 1], .tuple [.str "mixed", .int 5]]
def hasPl (ps : List (Nat × Nat)) (d : PyData) : Bool := (ps.map plD).any fun z => PyData.eqv z d
def toldD (ups downs : List (Nat × Nat)) : PyData → Bool
  | .tuple (.str x :: ds) => if x = ("mixed" : Str) then ds.all wholeD && (hasPl ups (.tuple (ds.take 2)) && hasPl downs (.tuple (ds.drop 2))) else
    if x = ("down" : Str) then ups.isEmpty else if x = ("up" : Str) then downs.isEmpty else ups.isEmpty && downs.isEmpty
  | _ => false
/-- the word of a paper -/
def headD : PyData → Str
  | .tuple (.str x :: _) => x
  | _ => ""
theorem shaped_pls : ∀ ps : List (Nat × Nat), SeqAt.shaped (.tuple (ps.map plD)) = true := fun ps => by
  have h : ∀ ps : List (Nat × Nat), PyData.canLayAll0 (ps.map plD) = true ∧ PyData.depthAll (ps.map plD) ≤ 1 := fun ps => by
    induction ps with
    | nil => exact ⟨rfl, by decide⟩
    | cons p ps ih =>
      refine ⟨?_, ?_⟩
      · simp only [List.map_cons, PyData.canLayAll0, plD, PyData.canLay0, Bool.and_eq_true, Bool.true_and]
        exact ih.1
      · simp only [List.map_cons, PyData.depthAll, plD, PyData.depth]
        have := ih.2
        omega
  have h2 := (h ps).2
  refine Bool.and_eq_true_iff.mpr ⟨?_, decide_eq_true ?_⟩
  · simp only [PyData.canLay0, (h ps).1]
  · simp only [PyData.depth]
    omega
section
variable {P : Program} {w : World} {K : PySem.W.Frag} {mg : Str → Option Value} {base : Heap}
theorem DpPl {H : Hp} {v : V} {a : Nat × Nat} (h : Dp K H v (plD a)) : ∃ p, v = .ref p ∧ SqT K H p [.int (a.1 : Int), .int (a.2 : Int)] := by
  obtain ⟨p, xs, rfl, hs, ha⟩ := h.tup_inv
  cases ha with
  | cons h1 h2 =>
    cases h1
    cases h2 with
    | cons h3 h4 =>
      cases h3
      cases h4
      exact ⟨p, rfl, hs⟩
/-- two shares and costs -/
def CArg (K : PySem.W.Frag) (H : Hp) (p q : Addr) (v : V) (xs ys : List (Int × Fx)) (rows : List (List Int)) : Prop := ShAt K H p xs ∧ ShAt K H q ys ∧ Shr xs ∧ Shr ys ∧ Dp K H v (costD rows) ∧ CostOk rows xs.length ys.length
theorem flat_cost (rows : List (List Int)) : flatD (costD rows) = true := by
  show flatDs (rows.map fun r => .tuple (r.map PyData.int)) = true
  induction rows with
  | nil => rfl
  | cons r rs ih =>
    show (flatD (.tuple (r.map PyData.int)) && flatDs (rs.map fun r => .tuple (r.map PyData.int))) = true
    rw [ih]
    have := flatDs_ints r
    simp only [flatD, this, Bool.and_true]
theorem CArg.same {H H' : Hp} {p q : Addr} {v : V} {xs ys : List (Int × Fx)} {rows : List (List Int)} (h : CArg K H p q v xs ys rows) (e : Same H H') : CArg K H' p q v xs ys rows :=
  ⟨h.1.tk (tk_same e), h.2.1.tk (tk_same e), h.2.2.1, h.2.2.2.1, h.2.2.2.2.1.same e, h.2.2.2.2.2⟩
theorem CArg.tk {H H' : Hp} {p q : Addr} {v : V} {xs ys : List (Int × Fx)} {rows : List (List Int)} (h : CArg K H p q v xs ys rows) (e : TK K H H') : CArg K H' p q v xs ys rows :=
  ⟨h.1.tk e, h.2.1.tk e, h.2.2.1, h.2.2.2.1, h.2.2.2.2.1.tk e (flat_cost rows), h.2.2.2.2.2⟩
abbrev upsO (ys : List (Int × Fx)) (rows : List (List Int)) : List (Nat × Nat) := bendsT (ys.map (·.1)) rows 1
abbrev downsO (ys : List (Int × Fx)) (rows : List (List Int)) : List (Nat × Nat) := bendsT (ys.map (·.1)) rows (-1)
theorem CArg.bends {H : Hp} {p q : Addr} {v : V} {xs ys : List (Int × Fx)} {rows : List (List Int)} (h : CArg K H p q v xs ys rows) : CostOk rows rows.length ys.length ∧ rows.length ≤ 8 ∧ ys.length ≤ 8 ∧ ∀ a ∈ ys, a.1.natAbs ≤ 200 := by
  obtain ⟨_, _, sx, sy, _, ok⟩ := h
  exact ⟨⟨rfl, ok.wide, ok.small⟩, by rw [ok.len]; exact sx.1, sy.1, sy.abs⟩
def spUps (K : PySem.W.Frag) : Sp := fun vs H Q _ => ∃ p q v xs ys rows, vs = [.ref p, .ref q, v] ∧ CArg K H p q v xs ys rows ∧ ∀ H' r, Same H H' → Dp K H' r (.tuple ((upsO ys rows).map plD)) → Q r H'
theorem scBendsUp : FnScope ["one", "other", "costs"] ["one", "other", "costs"] (defScope sBendsUp) := ⟨rfl, rfl, rfl, by decide +kernel, rfl, by decide +kernel, by decide +kernel⟩
theorem ok_bends_up {f f1 f2 : Addr} {fd fd1 fd2 : FuncData} {t1 : Tok} (F : Df K mg "bends_up" sBendsUp ["one", "other", "costs"] f fd) (D1 : Df K mg "bends" sBends ["other", "costs", "way"] f1 fd1) (G1 : FnOk P w K mg base CX0 2 f1 fd1 ["other", "costs", "way"] (spBends K)) (D2 : Df K mg "need_costs" sNeedCosts ["one", "other", "thing"] f2 fd2) (G2 : FnOk P w K mg base CX0 8 f2 fd2 ["one", "other", "thing"] (spNeedCosts K)) (gU : mg "UP" = some (.int 1 t1)) : FnOk P w K mg base CX0 9 f fd ["one", "other", "costs"] (spUps K) := by
  refine F.F.ok scBendsUp (fun vs H Q E h => ?_) (fun cdv A outer s H vs Q E hr h => ?_)
  · obtain ⟨p, q, v, xs, ys, rows, rfl, _⟩ := h
    rfl
  · obtain ⟨p, q, v, xs, ys, rows, rfl, Z, k⟩ := h
    refine ⟨_, pss_one (ps_ret (pe_call G1 (hr.mono (by decide)) (by rfl) D1.g D1.F.kp D1.b .nil pass0 (pa_cons (pv 1) (pa_cons (pe_call G2 hr (by rfl) D2.g D2.F.kp D2.b .nil pass0 (pa_cons (pv 0) (pa_cons (pv 1) (pa_cons (pv 2) pa_nil)))) (pa_cons (pe_glob (v := .int 1) (by rfl) gU ⟨_, rfl⟩) pa_nil))))), ?_⟩
    obtain ⟨hx, hy, sx, sy, hd, ok⟩ := id Z
    refine ⟨_, rfl, _, rfl, _, rfl, _, rfl, p, q, v, xs, ys, rows, rfl, hx, hy, sx, sy, hd, ok, fun H1 s1 => ?_⟩
    obtain ⟨o1, o2, o3, o4⟩ := (Z.same s1).bends
    exact ⟨q, v, ys, rows, 1, rfl, hy.tk (tk_same s1), hd.same s1, o1, o2, o3, o4, by decide, fun H' r s2 h2 => k H' r (s1.trans s2) h2⟩
def spKind (K : PySem.W.Frag) : Sp := fun vs H Q _ => ∃ p q v xs ys rows, vs = [.ref p, .ref q, v] ∧ CArg K H p q v xs ys rows ∧ ∀ H' r, Same H H' → Dp K H' r (kindD (upsO ys rows) (downsO ys rows)) → Q r H'
theorem scKindPaper : FnScope ["one", "other", "costs", "ups", "downs"] ["one", "other", "costs"] (defScope sKindPaper) := ⟨rfl, rfl, rfl, by decide +kernel, rfl, by decide +kernel, by decide +kernel⟩
theorem ok_kind_paper {f f1 f2 : Addr} {fd fd1 fd2 : FuncData} {t1 : Tok} (F : Df K mg "kind_paper" sKindPaper ["one", "other", "costs"] f fd) (D1 : Df K mg "bends" sBends ["other", "costs", "way"] f1 fd1) (G1 : FnOk P w K mg base CX0 2 f1 fd1 ["other", "costs", "way"] (spBends K)) (D2 : Df K mg "bends_up" sBendsUp ["one", "other", "costs"] f2 fd2) (G2 : FnOk P w K mg base CX0 9 f2 fd2 ["one", "other", "costs"] (spUps K)) (gD : mg "DOWN" = some (.int (-1) t1)) : FnOk P w K mg base CX0 10 f fd ["one", "other", "costs"] (spKind K) := by
  refine F.F.ok scKindPaper (fun vs H Q E h => ?_) (fun cdv A outer s H vs Q E hr h => ?_)
  · obtain ⟨p, q, v, xs, ys, rows, rfl, _⟩ := h
    rfl
  · obtain ⟨p, q, v, xs, ys, rows, rfl, Z, k⟩ := h
    refine ⟨_, pss_cons (ps_set (i := 3) scKindPaper.nd rfl (Or.inl rfl) (pe_call G2 hr (by rfl) D2.g D2.F.kp D2.b .nil pass0 (pa_cons (pv 0) (pa_cons (pv 1) (pa_cons (pv 2) pa_nil)))))
      (pss_cons (ps_set (i := 4) scKindPaper.nd rfl (Or.inl rfl) (pe_call G1 (hr.mono (by decide)) (by rfl) D1.g D1.F.kp D1.b .nil pass0 (pa_cons (pv 1) (pa_cons (pv 2) (pa_cons (pe_glob (v := .int (-1)) (by rfl) gD ⟨_, rfl⟩) pa_nil)))))
      (pss_cons (ps_if (PW.pt (pw_and (pt_truth (pv 3) (fun _ => rfl)) (pw_and1 (pt_truth (pv 4) (fun _ => rfl))))) (pss_one (ps_ret (pe_tup (pa_cons pe_str (pa_star (pe_ix ix_tup (pv 3) pe_int (fun _ _ => rfl)) (pa_star (pe_ix ix_tup (pv 4) pe_int (fun _ _ => rfl)) pa_nil)))))) pss_nil)
      (pss_cons (ps_if (pt_truth (pv 3) (fun _ => rfl)) (pss_one (ps_ret (pe_tup (pa_cons pe_str pa_nil)))) pss_nil)
      (pss_one (ps_ret (pe_ifExp (pt_truth (pv 4) (fun _ => rfl)) (pe_tup (pa_cons pe_str pa_nil)) (pe_tup (pa_cons pe_str pa_nil)))))))), ?_⟩
    refine ⟨_, rfl, _, rfl, _, rfl, p, q, v, xs, ys, rows, rfl, Z, fun H1 r1 s1 h1 => ?_⟩
    obtain ⟨hx, hy, sx, sy, hd, ok⟩ := Z.same s1
    obtain ⟨o1, o2, o3, o4⟩ := Z.bends
    refine ⟨_, rfl, _, rfl, q, v, ys, rows, -1, rfl, hy, hd, o1, o2, o3, o4, by decide, fun H2 r2 s2 h2 => ?_⟩
    have kk := fun H' r s' => k H' r ((s1.trans s2).trans s')
    obtain ⟨a1, u1, rfl, g1, d1⟩ := (show Dp K H2 r1 (.tuple ((upsO ys rows).map plD)) from h1.same s2).tup_inv
    obtain ⟨a2, u2, rfl, g2, d2⟩ := (show Dp K H2 r2 (.tuple ((downsO ys rows).map plD)) from h2).tup_inv
    clear h1 h2
    generalize upsO ys rows = ups at *
    generalize downsO ys rows = downs at *
    refine ⟨_, rfl, _, .inr (.inl ⟨_, g1, rfl⟩), ?_⟩
    cases ups with
    | nil =>
      cases d1
      refine iteF (iteF ⟨_, rfl, _, .inr (.inl ⟨_, g1, rfl⟩), iteF ⟨_, rfl, _, .inr (.inl ⟨_, g2, rfl⟩), ?_⟩⟩)
      cases downs with
      | nil =>
        cases d2
        exact iteF ⟨(by show 1 ≤ sizeLine; decide), fun t nt => kk _ _ (Same.new nt) (Dp.new_tup nt (.cons (.str _) .nil))⟩
      | cons d ds =>
        cases d2
        exact iteT ⟨(by show 1 ≤ sizeLine; decide), fun t nt => kk _ _ (Same.new nt) (Dp.new_tup nt (.cons (.str _) .nil))⟩
    | cons u us =>
      cases d1 with
      | cons e1 e2 =>
      refine iteT ⟨_, rfl, _, .inr (.inl ⟨_, g2, rfl⟩), ?_⟩
      cases downs with
      | nil =>
        cases d2
        exact iteF ⟨_, rfl, _, .inr (.inl ⟨_, g1, rfl⟩), iteT ⟨(by show 1 ≤ sizeLine; decide), fun t nt => kk _ _ (Same.new nt) (Dp.new_tup nt (.cons (.str _) .nil))⟩⟩
      | cons d ds =>
        cases d2 with
        | cons e3 e4 =>
        obtain ⟨b1, rfl, f1⟩ := DpPl e1
        obtain ⟨b2, rfl, f2⟩ := DpPl e3
        refine iteT ⟨_, rfl, a1, _, 0, .ref b1, rfl, rfl, g1, atI_nat (j := 0) rfl, b1, _, rfl, .inl f1, _, rfl, a2, _, 0, .ref b2, rfl, rfl, g2, atI_nat (j := 0) rfl, b2, _, rfl, .inl f2, (by show 5 ≤ sizeLine; decide), fun t nt => kk _ _ (Same.new nt) (Dp.new_tup nt (.cons (.str _) (.cons (.int _) (.cons (.int _) (.cons (.int _) (.cons (.int _) .nil))))))⟩
end
end CS
set_option Elab.async false
set_option maxRecDepth 100000
set_option maxHeartbeats 8000000
set_option linter.unusedVariables false
namespace CS
open PySem L2 StX
theorem sort_inv {d : PyData} (h : sortD kindSorts d = true) : ∃ x ds, d = .tuple (.str x :: ds) ∧ ((x = ("mixed" : Str) ∧ ∃ a b c e, ds = [a, b, c, e]) ∨ ((x = ("down" : Str) ∨ x = ("up" : Str) ∨ x = ("straight" : Str)) ∧ ds = [])) := by
  cases d with
  | tuple ds =>
    cases ds with
    | nil => cases h
    | cons d0 ds =>
      cases d0 with
      | str x =>
        refine ⟨x, ds, rfl, ?_⟩
        have h2 : ∃ z ∈ kindSorts, PyData.eqv z (.tuple [.str x, .int ((ds.length + 1 : Nat) : Int)]) = true := List.any_eq_true.mp h
        obtain ⟨z, hz, e⟩ := h2
        have e4 : ∀ (y : Str) (n : Int), PyData.eqv (.tuple [.str y, .int n]) (.tuple [.str x, .int ((ds.length + 1 : Nat) : Int)]) = true → y = x ∧ n = ((ds.length + 1 : Nat) : Int) := fun y n q => by
          simpa [PyData.eqv, PyData.eqvAll] using q
        simp only [kindSorts, List.mem_cons, List.not_mem_nil, or_false] at hz
        rcases hz with rfl | rfl | rfl | rfl
        · obtain ⟨e1, e2⟩ := e4 _ _ e
          exact .inr ⟨.inl e1.symm, List.eq_nil_of_length_eq_zero (by omega)⟩
        · obtain ⟨e1, e2⟩ := e4 _ _ e
          exact .inr ⟨.inr (.inl e1.symm), List.eq_nil_of_length_eq_zero (by omega)⟩
        · obtain ⟨e1, e2⟩ := e4 _ _ e
          exact .inr ⟨.inr (.inr e1.symm), List.eq_nil_of_length_eq_zero (by omega)⟩
        · obtain ⟨e1, e2⟩ := e4 _ _ e
          refine .inl ⟨e1.symm, ?_⟩
          match ds, e2 with
          | [a, b, c, f], _ => exact ⟨a, b, c, f, rfl⟩
          | [], q => simp only [List.length_cons, List.length_nil] at q; omega
          | [_], q => simp only [List.length_cons, List.length_nil] at q; omega
          | [_, _], q => simp only [List.length_cons, List.length_nil] at q; omega
          | [_, _, _], q => simp only [List.length_cons, List.length_nil] at q; omega
          | _ :: _ :: _ :: _ :: _ :: r, q => simp only [List.length_cons] at q; omega
      | none => cases h
      | bool b => cases h
      | int i => cases h
      | list l => cases h
      | tuple l => cases h
      | dict l => cases h
  | none => cases h
  | bool b => cases h
  | int i => cases h
  | str x => cases h
  | list l => cases h
  | dict l => cases h
theorem eqv_pls_nil (ps : List (Nat × Nat)) : PyData.eqv (.tuple (ps.map plD)) (.tuple []) = ps.isEmpty := by
  cases ps <;> simp [PyData.eqv, PyData.eqvAll]
theorem shaped_sub {x : Str} {a b c e : PyData} (h : SeqAt.shaped (.tuple [.str x, a, b, c, e]) = true) : SeqAt.shaped (.tuple [a, b]) = true ∧ SeqAt.shaped (.tuple [c, e]) = true := by
  have h1 := SeqAt.canLay_of_shaped h
  have h2 := SeqAt.depth_of_shaped h
  simp only [PyData.canLay0, PyData.canLayAll0, Bool.and_eq_true] at h1
  simp only [PyData.depth, PyData.depthAll] at h2
  obtain ⟨_, ha, hb, hc, he, _⟩ := h1
  constructor
  · refine Bool.and_eq_true_iff.mpr ⟨?_, decide_eq_true ?_⟩
    · simp only [PyData.canLay0, PyData.canLayAll0, ha, hb, Bool.and_true]
    · simp only [PyData.depth, PyData.depthAll]
      omega
  · refine Bool.and_eq_true_iff.mpr ⟨?_, decide_eq_true ?_⟩
    · simp only [PyData.canLay0, PyData.canLayAll0, hc, he, Bool.and_true]
    · simp only [PyData.depth, PyData.depthAll]
      omega
section
variable {P : Program} {w : World} {K : PySem.W.Frag} {mg : Str → Option Value} {base : Heap}
def spTold (K : PySem.W.Frag) : Sp := fun vs H Q _ => ∃ p q v u xs ys rows d, vs = [.ref q, v, u] ∧ CArg K H p q v xs ys rows ∧ Dp K H u d ∧ SeqAt.shaped d = true ∧ sortD kindSorts d = true ∧ ∀ H', Same H H' → Q (.bl (toldD (upsO ys rows) (downsO ys rows) d)) H'
theorem scIsAsTold : FnScope ["other", "costs", "paper", "ups", "downs", "item"] ["other", "costs", "paper"] (defScope sIsAsTold) := ⟨rfl, rfl, rfl, by decide +kernel, rfl, by decide +kernel, by decide +kernel⟩
theorem strNe {x y : Str} (h : x ≠ y) : decide (V.str x = V.str y) = false := decide_eq_false fun z => h (V.str.inj z)
theorem ok_is_as_told {f f1 f2 : Addr} {fd fd1 fd2 : FuncData} {t1 t2 : Tok} (F : Df K mg "is_as_told" sIsAsTold ["other", "costs", "paper"] f fd) (D1 : Df K mg "bends" sBends ["other", "costs", "way"] f1 fd1) (G1 : FnOk P w K mg base CX0 2 f1 fd1 ["other", "costs", "way"] (spBends K)) (D2 : Df K mg "is_whole" sIsWhole ["thing"] f2 fd2) (G2 : FnOk P w K mg base CX0 1 f2 fd2 ["thing"] (spD1 K wholeD))
    (gU : mg "UP" = some (.int 1 t1)) (gD : mg "DOWN" = some (.int (-1) t2)) (T : Bt mg) : FnOk P w K mg base CX0 3 f fd ["other", "costs", "paper"] (spTold K) := by
  refine F.F.ok scIsAsTold (fun vs H Q E h => ?_) (fun cdv A outer s H vs Q E hr h => ?_)
  · obtain ⟨p, q, v, u, xs, ys, rows, d, rfl, _⟩ := h
    rfl
  · obtain ⟨p, q, v, u, xs, ys, rows, d, rfl, Z, hd, sd, so, k⟩ := h
    refine ⟨_, pss_cons (ps_set (i := 3) scIsAsTold.nd rfl (Or.inl rfl) (pe_call G1 hr (by rfl) D1.g D1.F.kp D1.b .nil pass0 (pa_cons (pv 0) (pa_cons (pv 1) (pa_cons (pe_glob (v := .int 1) (by rfl) gU ⟨_, rfl⟩) pa_nil)))))
      (pss_cons (ps_set (i := 4) scIsAsTold.nd rfl (Or.inl rfl) (pe_call G1 hr (by rfl) D1.g D1.F.kp D1.b .nil pass0 (pa_cons (pv 0) (pa_cons (pv 1) (pa_cons (pe_glob (v := .int (-1)) (by rfl) gD ⟨_, rfl⟩) pa_nil)))))
      (pss_cons (ps_if (pt_cmpR op_eq (pe_ix ix_tup (pv 2) pe_int (fun _ _ => rfl)) pe_str (nomark _)) (pss_one (ps_ret (pe_and (pe_callB (cr_all rfl) (by rfl) T.all (by decide +kernel) (pa_cons (pe_lc (own := [("item", 5)]) (g := gName 5) (tt := tYes) rfl scIsAsTold.nd (pi_tup (pe_slice sl_data (pv 2) (po_some pe_int) po_none)) (blkOk_by (N := ["other", "costs", "paper", "ups", "downs", "item"]) (sc := defScope sIsAsTold) (by decide +kernel)) (fun _ _ _ _ _ => pg_name (i := 5) scIsAsTold.nd rfl (Or.inl rfl)) (fun _ _ _ _ _ => pts_nil) (fun _ _ _ _ _ => pe_call G2 (hr.mono (by decide)) (by rfl) D2.g D2.F.kp D2.b .nil pass0 (pa_cons (pv 5) pa_nil))) pa_nil))
          (pe_and (pe_cmpR (op_memT hr.units) (pe_slice sl_data (pv 2) (po_some pe_int) (po_some pe_int)) (pv 3) (by rfl)) (pe_one (pe_cmpR (op_memT hr.units) (pe_slice sl_data (pv 2) (po_some pe_int) po_none) (pv 4) (by rfl))))))) pss_nil)
      (pss_cons (ps_if (pt_cmpR op_eq (pe_ix ix_tup (pv 2) pe_int (fun _ _ => rfl)) pe_str (nomark _)) (pss_one (ps_ret (pe_cmpR (op_eqD hr.units) (pv 3) (pe_tup pa_nil) (nomark _)))) pss_nil)
      (pss_cons (ps_if (pt_cmpR op_eq (pe_ix ix_tup (pv 2) pe_int (fun _ _ => rfl)) pe_str (nomark _)) (pss_one (ps_ret (pe_cmpR (op_eqD hr.units) (pv 4) (pe_tup pa_nil) (nomark _)))) pss_nil)
      (pss_one (ps_ret (pe_and (pe_cmpR (op_eqD hr.units) (pv 3) (pe_tup pa_nil) (nomark _)) (pe_one (pe_cmpR (op_eqD hr.units) (pv 4) (pe_tup pa_nil) (nomark _)))))))))), ?_⟩
    obtain ⟨o1, o2, o3, o4⟩ := Z.bends
    obtain ⟨hx, hy, sx, sy, hc, ok⟩ := id Z
    refine ⟨_, rfl, _, rfl, q, v, ys, rows, 1, rfl, hy, hc, o1, o2, o3, o4, by decide, fun H1 r1 s1 h1 => ?_⟩
    refine ⟨_, rfl, _, rfl, q, v, ys, rows, -1, rfl, hy.tk (tk_same s1), hc.same s1, o1, o2, o3, o4, by decide, fun H2 r2 s2 h2 => ?_⟩
    have s12 := s1.trans s2
    have h1' : Dp K H2 r1 (.tuple ((upsO ys rows).map plD)) := h1.same s2
    have h2' : Dp K H2 r2 (.tuple ((downsO ys rows).map plD)) := h2
    have kk := fun H' s' => k H' (s12.trans s')
    have hdS := hd.same s12
    clear h1 h2 k
    generalize upsO ys rows = ups at *
    generalize downsO ys rows = downs at *
    have eT : ∀ {H' : Hp} {t : Addr}, Dp K (upd H' t (.tup [])) (.ref t) (.tuple []) := .tup (SqT.of upd_same) .nil
    have sN : SeqAt.shaped (.tuple []) = true := by decide
    obtain ⟨x, ds, rfl, hh⟩ := sort_inv so
    obtain ⟨a, us, rfl, hs, ha⟩ := hdS.tup_inv
    cases ha with
    | cons hx0 hds =>
    cases hx0
    have i0 : ∀ vs : List V, atI (V.str x :: vs) 0 = some (V.str x) := fun vs => atI_nat (j := 0) rfl
    refine ⟨_, rfl, a, _, 0, .str x, rfl, rfl, hs, i0 _, rfl, _, rfl, ?_⟩
    rcases hh with ⟨rfl, b1, b2, b3, b4, rfl⟩ | ⟨hw, rfl⟩
    · rw [decide_eq_true rfl]
      obtain ⟨sh1, sh2⟩ := shaped_sub sd
      have eto : toldD ups downs (.tuple [.str "mixed", b1, b2, b3, b4]) = ([b1, b2, b3, b4].all wholeD && (hasPl ups (.tuple [b1, b2]) && hasPl downs (.tuple [b3, b4]))) := by
        rw [toldD, if_pos rfl]
        rfl
      rw [eto] at kk
      refine iteT ⟨_, rfl, 1, rfl, _, hdS, fun H3 w3 s3 h3 => ?_⟩
      have h3' : Dp K H3 w3 (.tuple [b1, b2, b3, b4]) := h3
      obtain ⟨c, cs, rfl, hcs, hca⟩ := h3'.tup_inv
      refine ⟨c, rfl, ⟨_, hcs⟩, fun D nD => lc_tup (K := K) (a := c) (xs := cs) (fun i H' => LcD K H3 D ((([b1, b2, b3, b4].take i).map wholeD).map PyData.bool) H') (LcD.start nD) (fun i H' _ h => h.same.tup hcs) ?_ ?_⟩
      · rintro i z H' hi h
        obtain ⟨dz, ez, hz⟩ := hca.get hi
        refine ⟨rfl, ?_⟩
        dsimp only [tYes]
        rw [if_pos rfl]
        refine ⟨_, rfl, z, dz, rfl, hz.same h.same, ?_⟩
        rw [take_snoc ez, List.map_append, List.map_append]
        refine LcD.step nD h (Same.refl H') (.bl (wholeD dz)) ?_ rfl (by rw [List.length_map, List.length_map, List.length_take]; simp; omega)
        exact List.recOn (([b1, b2, b3, b4].take i).map wholeD) rfl fun _ _ z => z
      · intro H4 h
        rw [hca.len] at h
        have hb : H4 D = some (.lst (([b1, b2, b3, b4].map wholeD).map V.bl)) := h.bools
        have s4 := h.same
        refine ⟨D, _, rfl, SqL.of hb, _, rfl, ?_⟩
        rw [show (([b1, b2, b3, b4].map wholeD).all id) = [b1, b2, b3, b4].all wholeD by rw [List.all_map]; rfl]
        cases hall : [b1, b2, b3, b4].all wholeD with
        | false =>
          rw [hall] at kk
          exact iteF (kk _ (s3.trans s4))
        | true =>
          rw [hall, Bool.true_and] at kk
          have s34 := s3.trans s4
          refine iteT ⟨_, rfl, 1, rfl, 3, rfl, _, hdS.same s34, fun H5 w5 s5 h5 => ⟨_, rfl, .tuple [b1, b2], ups.map plD, h5, (h1'.same s34).same s5, sh1, shaped_pls _, _, rfl, ?_⟩⟩
          rw [if_neg Bool.false_ne_true]
          show if hasPl ups (.tuple [b1, b2]) = true then _ else _
          cases hu : hasPl ups (.tuple [b1, b2]) with
          | false =>
            rw [hu] at kk
            exact iteF (kk _ (s34.trans s5))
          | true =>
            rw [hu, Bool.true_and] at kk
            refine iteT ⟨_, rfl, 3, rfl, _, (hdS.same s34).same s5, fun H6 w6 s6 h6 => ⟨_, rfl, .tuple [b3, b4], downs.map plD, h6, ((h2'.same s34).same s5).same s6, sh2, shaped_pls _, ?_⟩⟩
            exact kk _ ((s34.trans s5).trans s6)
    · have nm : x ≠ ("mixed" : Str) := by
        rcases hw with rfl | rfl | rfl <;> decide +kernel
      rw [strNe nm]
      refine iteF ⟨_, rfl, a, _, 0, .str x, rfl, rfl, hs, i0 _, rfl, _, rfl, ?_⟩
      have eto : toldD ups downs (.tuple [.str x]) = if x = ("down" : Str) then ups.isEmpty else if x = ("up" : Str) then downs.isEmpty else ups.isEmpty && downs.isEmpty := if_neg nm
      rw [eto] at kk
      by_cases hdn : x = ("down" : Str)
      · rw [if_pos hdn] at kk
        subst hdn
        rw [decide_eq_true rfl]
        refine iteT ⟨_, rfl, (by show 0 ≤ sizeLine; decide), fun t nt => ⟨_, _, h1'.same (Same.new nt), eT, shaped_pls _, sN, ?_⟩⟩
        rw [eqv_pls_nil]
        exact kk _ (Same.new nt)
      · rw [if_neg hdn] at kk
        rw [strNe hdn]
        refine iteF ⟨_, rfl, a, _, 0, .str x, rfl, rfl, hs, i0 _, rfl, _, rfl, ?_⟩
        by_cases hup : x = ("up" : Str)
        · rw [if_pos hup] at kk
          subst hup
          rw [decide_eq_true rfl]
          refine iteT ⟨_, rfl, (by show 0 ≤ sizeLine; decide), fun t nt => ⟨_, _, h2'.same (Same.new nt), eT, shaped_pls _, sN, ?_⟩⟩
          rw [eqv_pls_nil]
          exact kk _ (Same.new nt)
        · rw [if_neg hup] at kk
          rw [strNe hup]
          refine iteF ⟨_, rfl, (by show 0 ≤ sizeLine; decide), fun t nt => ⟨_, _, h1'.same (Same.new nt), eT, shaped_pls _, sN, _, rfl, ?_⟩⟩
          rw [eqv_pls_nil]
          have st := Same.new (o := .tup []) nt
          cases he : ups.isEmpty with
          | false =>
            rw [he] at kk
            exact iteF (kk _ st)
          | true =>
            rw [he, Bool.true_and] at kk
            refine iteT ⟨_, rfl, (by show 0 ≤ sizeLine; decide), fun t2 nt2 => ⟨_, _, (h2'.same st).same (Same.new nt2), eT, shaped_pls _, sN, ?_⟩⟩
            rw [eqv_pls_nil]
            exact kk _ (st.trans (Same.new nt2))
end
end CS
set_option Elab.async false
set_option maxRecDepth 100000
set_option maxHeartbeats 8000000
set_option linter.unusedVariables false
namespace CS
open PySem L2 StX
/-- what check_kind makes of a paper, as the law hears it -/
def heardD (ups downs : List (Nat × Nat)) (d : PyData) : PyData := if sortD kindSorts d = true then (if toldD ups downs d = true then .list [.str (headD d)] else .str (headD d)) else .str "form"
/-- no object that stood -/
def NewV (H : Hp) (r : V) : Prop := ∀ a, r = .ref a → H a = none
theorem new_back {H H' : Hp} {a : Addr} (s : Same H H') (n : H' a = none) : H a = none := by
  cases e : H a with
  | none => rfl
  | some o =>
    rw [s _ _ e] at n
    cases n
theorem NewV.of {H H' : Hp} {a : Addr} (s : Same H H') (n : H' a = none) : NewV H (.ref a) := fun b e => by
  cases e
  exact new_back s n
theorem NewV.str {H : Hp} {x : Str} : NewV H (.str x) := fun b e => nomatch e
section
variable {P : Program} {w : World} {K : PySem.W.Frag} {mg : Str → Option Value} {base : Heap}
def spCheck (K : PySem.W.Frag) (CP : Addr) : Sp := fun vs H Q E => ∃ p q v u xs ys rows d, vs = [.ref p, .ref q, v, u] ∧ CArg K H p q v xs ys rows ∧ Dp K H u d ∧ SeqAt.shaped d = true ∧ ∀ H', Same H H' →
  (sortD kindSorts d = true → toldD (upsO ys rows) (downsO ys rows) d = true → Q (.str (headD d)) H') ∧ (sortD kindSorts d = true → toldD (upsO ys rows) (downsO ys rows) d = false → ∀ dd, H' dd = none → E (.ref CP) (some dd) (upd H' dd (.xd [("part", .str (headD d))]))) ∧
  (sortD kindSorts d = false → ∀ dd, H' dd = none → E (.ref CP) (some dd) (upd H' dd (.xd [("part", .str "form")])))
theorem scBpI : FnScope ["self", "part"] ["self", "part"] (defScope (inClass sBadPaper 0)) := ⟨rfl, rfl, rfl, by decide +kernel, rfl, by decide +kernel, by decide +kernel⟩
theorem ok_bp_init {CP fI : Addr} {fd : FuncData} (Z : Xc K mg "BadPaper" "part" CP fI bmV "ValueError.__new__" (inClass sBadPaper 0) "BadPaper.__init__" fd) : FnOk P w K mg base CX0 1 fI fd ["self", "part"] (spPut CP "part") :=
  ok_put PySem.F.store_ValueError Z.T Z.F scBpI rfl rfl rfl (by decide +kernel) (by decide +kernel) (fun _ => rfl)
theorem scCheckKind : FnScope ["one", "other", "costs", "paper"] ["one", "other", "costs", "paper"] (defScope sCheckKind) := ⟨rfl, rfl, rfl, by decide +kernel, rfl, by decide +kernel, by decide +kernel⟩
theorem ok_check_kind {f f1 f2 f3 CP fI aS : Addr} {fd fd1 fd2 fd3 fdI : FuncData} (F : Df K mg "check_kind" sCheckKind ["one", "other", "costs", "paper"] f fd) (D1 : Df K mg "need_costs" sNeedCosts ["one", "other", "thing"] f1 fd1) (G1 : FnOk P w K mg base CX0 8 f1 fd1 ["one", "other", "thing"] (spNeedCosts K)) (D2 : Df K mg "has_sort" sHasSort ["paper", "sorts"] f2 fd2) (G2 : FnOk P w K mg base CX0 2 f2 fd2 ["paper", "sorts"] (spSortD K))
    (D3 : Df K mg "is_as_told" sIsAsTold ["other", "costs", "paper"] f3 fd3) (G3 : FnOk P w K mg base CX0 3 f3 fd3 ["other", "costs", "paper"] (spTold K)) (gS : mg "SORTS" = some (.ref aS)) (hS : ∀ H, Dp K H (.ref aS) (.tuple kindSorts))
    (Z : Xc K mg "BadPaper" "part" CP fI bmV "ValueError.__new__" (inClass sBadPaper 0) "BadPaper.__init__" fdI) : FnOk P w K mg base (L2.CX P w) 9 f fd ["one", "other", "costs", "paper"] (spCheck K CP) := by
  have GI := ok_bp_init (P := P) (w := w) (base := base) Z
  refine F.F.okX scCheckKind (fun vs H Q E h => ?_) (fun cdv A outer s H vs Q E hr h => ?_)
  · obtain ⟨p, q, v, u, xs, ys, rows, d, rfl, _⟩ := h
    rfl
  · obtain ⟨p, q, v, u, xs, ys, rows, d, rfl, C, hd, sd, k⟩ := h
    refine ⟨_, pss_cons (ps_expr (pe_call G1 hr (by rfl) D1.g D1.F.kp D1.b .nil pass0 (pa_cons (pv 0) (pa_cons (pv 1) (pa_cons (pv 2) pa_nil)))))
      (pss_cons (ps_if (pt_not (pt_val (pe_call G2 (hr.mono (by decide)) (by rfl) D2.g D2.F.kp D2.b .nil pass0 (pa_cons (pv 3) (pa_cons (pe_glob (v := .ref aS) (by rfl) gS rfl) pa_nil))))) (pss_one (ps_raise rfl (takes_of rfl rfl rfl rfl) (pmk_own1 PySem.F.excBase_ValueError Z.T GI Z.b (hr.mono (by decide)) (by rfl) (pa_cons pe_str pa_nil)))) pss_nil)
      (pss_cons (ps_if (pt_not (pt_val (pe_call G3 (hr.mono (by decide)) (by rfl) D3.g D3.F.kp D3.b .nil pass0 (pa_cons (pv 1) (pa_cons (pv 2) (pa_cons (pv 3) pa_nil)))))) (pss_one (ps_raise rfl (takes_of rfl rfl rfl rfl) (pmk_own1 PySem.F.excBase_ValueError Z.T GI Z.b (hr.mono (by decide)) (by rfl) (pa_cons (pe_ix ix_tup (pv 3) pe_int (fun _ _ => rfl)) pa_nil)))) pss_nil)
      (pss_one (ps_ret (pe_ix ix_tup (pv 3) pe_int (fun _ _ => rfl)))))), ?_⟩
    obtain ⟨hx, hy, sx, sy, hc, ok⟩ := id C
    refine ⟨_, rfl, _, rfl, _, rfl, p, q, v, xs, ys, rows, rfl, hx, hy, sx, sy, hc, ok, fun H1 s1 => ⟨_, rfl, u, d, _, _, rfl, hd.same s1, hS H1, sd, (by decide +kernel), fun H2 s2 => ⟨_, rfl, ?_⟩⟩⟩
    have s12 := s1.trans s2
    cases so : sortD kindSorts d with
    | false => exact iteT ⟨_, rfl, fun dd hdd => (k _ s12).2.2 so dd hdd⟩
    | true =>
      refine iteF ⟨_, rfl, _, rfl, _, rfl, p, q, v, u, xs, ys, rows, d, rfl, C.same s12, hd.same s12, sd, so, fun H3 s3 => ⟨_, rfl, ?_⟩⟩
      have s13 := s12.trans s3
      obtain ⟨x, ds, rfl, _⟩ := sort_inv so
      obtain ⟨a, us, rfl, hs, ha⟩ := (hd.same s13).tup_inv
      cases ha with
      | cons h0 hds =>
      cases h0
      have i0 : ∀ vs : List V, atI (V.str x :: vs) 0 = some (V.str x) := fun vs => atI_nat (j := 0) rfl
      cases tl : toldD (upsO ys rows) (downsO ys rows) (.tuple (.str x :: ds)) with
      | false => exact iteT ⟨_, rfl, a, _, 0, .str x, rfl, rfl, hs, i0 _, _, rfl, fun dd hdd => (k _ s13).2.1 so tl dd hdd⟩
      | true => exact iteF ⟨_, rfl, a, _, 0, .str x, rfl, rfl, hs, i0 _, (k _ s13).1 so tl⟩
def spHeardK (K : PySem.W.Frag) : Sp := fun vs H Q _ => ∃ p q v u xs ys rows d, vs = [.ref p, .ref q, v, u] ∧ CArg K H p q v xs ys rows ∧ Dp K H u d ∧ SeqAt.shaped d = true ∧ ∀ H' r, Same H H' → NewV H r → Dp K H' r (heardD (upsO ys rows) (downsO ys rows) d) → Q r H'
/-- whether a datum is an integer from one to another one -/
def inD (lo hi : Int) : PyData → Bool
  | .int i => decide (lo ≤ i) && decide (i ≤ hi)
  | _ => false
def spInD (K : PySem.W.Frag) : Sp := fun vs H Q _ => ∃ v d lo hi, vs = [v, .int lo, .int hi] ∧ Dp K H v d ∧ Q (.bl (inD lo hi d)) H
end
end CS
set_option Elab.async false
set_option maxRecDepth 100000
set_option maxHeartbeats 8000000
set_option linter.unusedVariables false
namespace CS
open PySem L2 StX
/-- two lists of places that grow at U and D; H0 stood ahead -/
def LB (K : PySem.W.Frag) (H0 : Hp) (U D : Addr) (pu pd : List (Nat × Nat)) (H : Hp) : Prop := Same H0 H ∧ ∃ us ds, H U = some (.lst us) ∧ H D = some (.lst ds) ∧ DpAll K H us (pu.map plD) ∧ DpAll K H ds (pd.map plD)
section
variable {K : PySem.W.Frag} {H0 H H1 : Hp} {U D : Addr} {pu pd : List (Nat × Nat)}
theorem LB.to (h : LB K H0 U D pu pd H) (s : Same H H1) : LB K H0 U D pu pd H1 := by
  obtain ⟨s0, us, ds, h1, h2, h3, h4⟩ := h
  exact ⟨s0.trans s, us, ds, s _ _ h1, s _ _ h2, h3.same s, h4.same s⟩
theorem LB.addU {p : Nat × Nat} {v : V} {us : List V} (nU : H0 U = none) (ne : D ≠ U) (h : LB K H0 U D pu pd H) (hu : H U = some (.lst us)) (hv : Dp K H v (plD p)) : LB K H0 U D (pu ++ [p]) pd (upd H U (.lst (us ++ [v]))) := by
  obtain ⟨s0, us2, ds, h1, h2, h3, h4⟩ := h
  rw [hu] at h1
  cases h1
  refine ⟨same_upd nU s0, _, ds, upd_same, by rw [upd_ne ne]; exact h2, ?_, DpAll.tk (tk_lst hu) (flat_pls _) h4⟩
  rw [List.map_append]
  exact DpAll.tk (tk_lst hu) (flatDs_app (flat_pls _) (flat_pls [p])) (h3.app (.cons hv .nil))
theorem LB.addD {p : Nat × Nat} {v : V} {ds : List V} (nD : H0 D = none) (ne : D ≠ U) (h : LB K H0 U D pu pd H) (hd : H D = some (.lst ds)) (hv : Dp K H v (plD p)) : LB K H0 U D pu (pd ++ [p]) (upd H D (.lst (ds ++ [v]))) := by
  obtain ⟨s0, us, ds2, h1, h2, h3, h4⟩ := h
  rw [hd] at h2
  cases h2
  refine ⟨same_upd nD s0, us, _, by rw [upd_ne (Ne.symm ne)]; exact h1, upd_same, DpAll.tk (tk_lst hd) (flat_pls _) h3, ?_⟩
  rw [List.map_append]
  exact DpAll.tk (tk_lst hd) (flatDs_app (flat_pls _) (flat_pls [p])) (h4.app (.cons hv .nil))
theorem LB.lenU {us : List V} (h : LB K H0 U D pu pd H) (hu : H U = some (.lst us)) : us.length = pu.length := by
  obtain ⟨s0, us2, ds, h1, h2, h3, h4⟩ := h
  rw [hu] at h1
  cases h1
  rw [h3.len, List.length_map]
theorem LB.lenD {ds : List V} (h : LB K H0 U D pu pd H) (hd : H D = some (.lst ds)) : ds.length = pd.length := by
  obtain ⟨s0, us2, ds, h1, h2, h3, h4⟩ := h
  rw [hd] at h2
  cases h2
  rw [h4.len, List.length_map]
end
theorem PrsAt.at {K : PySem.W.Frag} {H : Hp} : ∀ {vs : List V} {xs : List (Int × Fx)} {i : Nat} {a : Int × Fx}, PrsAt K H vs xs → xs[i]? = some a → ∃ q r, vs[i]? = some (.ref q) ∧ SqT K H q [.int a.1, .ref r]
  | _, _, 0, _, .cons a _ _, e => by
    cases e
    exact ⟨_, _, rfl, a⟩
  | _, _, i + 1, _, .cons _ _ c, e => by
    obtain ⟨q, r, h1, h2⟩ := PrsAt.at c (by simpa using e)
    exact ⟨q, r, by simpa using h1, h2⟩
/-- the places of a row that are found in the first j columns -/
def rowTo (ms rs : List Int) (way : Int) (i j : Nat) : List (Nat × Nat) := ((List.range j).filter fun j => decide (0 < bowL ms rs j * way)).map fun j => (i, j)
theorem rowTo_succ (ms rs : List Int) (way : Int) (i j : Nat) : rowTo ms rs way i (j + 1) = rowTo ms rs way i j ++ (if 0 < bowL ms rs j * way then [(i, j)] else []) := by
  unfold rowTo
  rw [List.range_succ, List.filter_append, List.map_append]
  by_cases h : 0 < bowL ms rs j * way
  · rw [if_pos h, List.filter_cons_of_pos (by simp [h])]
    rfl
  · rw [if_neg h, List.filter_cons_of_neg (by simp [h])]
    rfl
theorem rowTo_len (ms rs : List Int) (way : Int) (i j : Nat) : (rowTo ms rs way i j).length ≤ j := by
  unfold rowTo
  rw [List.length_map]
  have := List.length_filter_le (fun j => decide (0 < bowL ms rs j * way)) (List.range j)
  rw [List.length_range] at this
  exact this
section
variable {P : Program} {w : World} {K : PySem.W.Frag} {mg : Str → Option Value} {base : Heap}
def spLBends (K : PySem.W.Frag) : Sp := fun vs H Q _ => ∃ p q v xs ys rows, vs = [.ref p, .ref q, v] ∧ CArg K H p q v xs ys rows ∧ ∀ H' r a b, Same H H' → SqT K H' r [a, b] → Dp K H' a (.list ((upsO ys rows).map plD)) → Dp K H' b (.list ((downsO ys rows).map plD)) → Q (.ref r) H'
theorem scLawBends : FnScope ["one", "other", "costs_so", "ups", "downs", "row", "spot", "rises", "far", "near"] ["one", "other", "costs_so"] (defScope sLawBends) := ⟨rfl, rfl, rfl, by decide +kernel, rfl, by decide +kernel, by decide +kernel⟩
theorem ok_law_bends {f : Addr} {fd : FuncData} (F : Df K mg "_law_bends" sLawBends ["one", "other", "costs_so"] f fd) (T : Bt mg) : FnOk P w K mg base CX0 1 f fd ["one", "other", "costs_so"] (spLBends K) := by
  refine F.F.ok scLawBends (fun vs H Q E h => ?_) (fun cdv A outer s H vs Q E hr h => ?_)
  · obtain ⟨p, q, v, xs, ys, rows, rfl, _⟩ := h
    rfl
  · obtain ⟨p, q, v, xs, ys, rows, rfl, C, k⟩ := h
    refine ⟨_, pss_cons (ps_par (i := 3) (j := 4) (by rfl) scLawBends.nd rfl rfl (by decide) rfl rfl (pa_cons (pe_lst pa_nil) (pa_cons (pe_lst pa_nil) pa_nil)) (by rfl))
      (pss_cons (ps_for PassesOwn.never rfl (pi_range1 rfl T.range (pa_cons (pe_op op_sub (pe_callB (r := Evl.rLenS K) call_len_seq (by rfl) T.len PySem.boot_len (pa_cons (pv 0) pa_nil)) pe_int) pa_nil)) (pg_name (i := 5) scLawBends.nd rfl (Or.inr rfl)) (pss_one
        (ps_for PassesOwn.never rfl (pi_range1 rfl T.range (pa_cons (pe_op op_sub (pe_callB (r := Evl.rLenS K) call_len_seq (by rfl) T.len PySem.boot_len (pa_cons (pv 1) pa_nil)) pe_int) pa_nil)) (pg_name (i := 6) scLawBends.nd rfl (Or.inl rfl))
          (pss_cons (ps_setLc (i := 7) (own := [("far", 8)]) (g := gName 8) (tt := tYes) rfl scLawBends.nd rfl rfl (sw_true rfl rfl rfl (by decide +kernel)) (pi_tup (pe_tup (pa_cons (pv 6) (pa_cons (pe_op op_add (pv 6) pe_int) (pa_cons (pe_op op_add (pv 6) pe_int) pa_nil))))) (blkOk_by (N := ["one", "other", "costs_so", "ups", "downs", "row", "spot", "rises", "far", "near"]) (sc := defScope sLawBends) (by decide +kernel)) (fun _ _ _ _ _ => pg_name (i := 8) scLawBends.nd rfl (Or.inl rfl)) (fun _ _ _ _ _ => pts_nil) (fun _ _ _ _ _ => pe_op op_sub (pe_ix (r := rIxT K) ix_tup (pe_ix (r := rIxT K) ix_tup (pv 2) (pe_op op_add (pv 5) pe_int) (fun _ _ => rfl)) (pv 8) (fun _ _ => rfl)) (pe_ix (r := rIxT K) ix_tup (pe_ix (r := rIxT K) ix_tup (pv 2) (pv 5) (fun _ _ => rfl)) (pv 8) (fun _ _ => rfl))))
          (pss_cons (ps_set (i := 9) scLawBends.nd rfl (Or.inl rfl) (pe_op op_mul (pe_op op_sub (pe_ix ix_list (pv 7) pe_int (fun _ _ => rfl)) (pe_ix ix_list (pv 7) pe_int (fun _ _ => rfl))) (pe_op op_sub (pe_ix ix_tup (pe_ix ix_tup (pv 1) (pe_op op_add (pv 6) pe_int) (fun _ _ => rfl)) pe_int (fun _ _ => rfl)) (pe_ix ix_tup (pe_ix ix_tup (pv 1) (pe_op op_add (pv 6) pe_int) (fun _ _ => rfl)) pe_int (fun _ _ => rfl)))))
          (pss_cons (ps_set (i := 8) scLawBends.nd rfl (Or.inl rfl) (pe_op op_mul (pe_op op_sub (pe_ix ix_list (pv 7) pe_int (fun _ _ => rfl)) (pe_ix ix_list (pv 7) pe_int (fun _ _ => rfl))) (pe_op op_sub (pe_ix ix_tup (pe_ix ix_tup (pv 1) (pe_op op_add (pv 6) pe_int) (fun _ _ => rfl)) pe_int (fun _ _ => rfl)) (pe_ix ix_tup (pe_ix ix_tup (pv 1) (pv 6) (fun _ _ => rfl)) pe_int (fun _ _ => rfl)))))
          (pss_cons (ps_if (pt_cmpR op_lt (pv 9) (pv 8) (nomark _)) (pss_one (ps_expr (pe_bm PySem.F.plainAttrs_list PySem.F.slot_list_append PySem.F.type_list_append mt_append (pv 3) (pa_cons (pe_tup (pa_cons (pv 5) (pa_cons (pv 6) pa_nil))) pa_nil)))) pss_nil)
          (pss_one (ps_if (pt_cmpR op_gt (pv 9) (pv 8) (nomark _)) (pss_one (ps_expr (pe_bm PySem.F.plainAttrs_list PySem.F.slot_list_append PySem.F.type_list_append mt_append (pv 4) (pa_cons (pe_tup (pa_cons (pv 5) (pa_cons (pv 6) pa_nil))) pa_nil)))) pss_nil)))))))))
      (pss_one (ps_ret (pe_tup (pa_cons (pv 3) (pa_cons (pv 4) pa_nil)))))), ?_⟩
    obtain ⟨hx, hy, sx, sy, hc, ok⟩ := id C
    obtain ⟨vx, hvx, hpx⟩ := hx
    obtain ⟨vy, hvy, hpy⟩ := hy
    have lx := hpx.len
    have ly := hpy.len
    have x8 := sx.1
    have y8 := sy.1
    obtain ⟨ms, ems⟩ : ∃ ms, ms = ys.map (·.1) := ⟨_, rfl⟩
    have lms : ms.length = ys.length := by rw [ems, List.length_map]
    have sms : ∀ a ∈ ms, a.natAbs ≤ 200 := fun a ha => by
      rw [ems] at ha
      obtain ⟨z, hz, rfl⟩ := List.mem_map.mp ha
      exact sy.abs z hz
    have rl := ok.len
    unfold costD at hc
    obtain ⟨a, us, rfl, hs, ha⟩ := hc.tup_inv
    refine ⟨(by show 0 ≤ sizeLine; decide), fun U nU => ⟨(by show 0 ≤ sizeLine; decide), fun D nD => ⟨_, _, rfl, ?_⟩⟩⟩
    have sU := Same.new (o := .lst []) nU
    have sD := Same.new (o := .lst []) nD
    have ne : D ≠ U := fun z => by
      rw [z, upd_same] at nD
      cases nD
    have nD0 : H D = none := by
      rw [upd_ne ne] at nD
      exact nD
    have L0 : LB K H U D [] [] (upd (upd H U (.lst [])) D (.lst [])) := ⟨sU.trans sD, [], [], by rw [upd_ne (Ne.symm ne)]; exact upd_same, upd_same, .nil, .nil⟩
    refine ⟨_, rfl, p, vx, rfl, .inr ((sU.trans sD).tup hvx), _, _, rfl, rfl, _, rfl, by omega, by omega, ?_⟩
    refine for_range (lo := 0) (n := ((vx.length : Int) - 1).toNat) (fun i σ H' => ∃ v5 v6 v7 v8 v9, σ = [some (.ref p), some (.ref q), some (.ref a), some (.ref U), some (.ref D), v5, v6, v7, v8, v9] ∧ LB K H U D (bendsL ms rows 1 i) (bendsL ms rows (-1) i) H') ⟨none, none, none, none, none, rfl, L0⟩ ?_ ?_
    · rintro i σ H1 hi ⟨v5, v6, v7, v8, v9, rfl, L1⟩
      have hi2 : i + 1 < rows.length := by omega
      obtain ⟨R0, r0⟩ : ∃ R, rows[i]? = some R := ⟨_, List.getElem?_eq_getElem (show i < rows.length by omega)⟩
      obtain ⟨R1, r1⟩ : ∃ R, rows[i + 1]? = some R := ⟨_, List.getElem?_eq_getElem hi2⟩
      have m0 : R0 ∈ rows := List.mem_of_getElem? r0
      have m1 : R1 ∈ rows := List.mem_of_getElem? r1
      obtain ⟨u0, hu0, hd0⟩ := ha.at (i := i) (by rw [List.getElem?_map, r0]; rfl)
      obtain ⟨u1, hu1, hd1⟩ := ha.at (i := i + 1) (by rw [List.getElem?_map, r1]; rfl)
      obtain ⟨a0, x0, rfl, hs0, ha0⟩ := hd0.tup_inv
      obtain ⟨a1, x1, rfl, hs1, ha1⟩ := hd1.tup_inv
      have e0 := ha0.of_ints
      have e1 := ha1.of_ints
      subst e0 e1
      have w0 := ok.wide _ m0
      have w1 := ok.wide _ m1
      obtain ⟨rs, ers⟩ : ∃ rs, rs = riseL R0 R1 := ⟨_, rfl⟩
      have lrs : rs.length = ys.length := by rw [ers]; exact riseL_len w0 w1
      have srs : ∀ c ∈ rs, c.natAbs ≤ 2000 := by rw [ers]; exact riseL_small (ok.small _ m0) (ok.small _ m1)
      rw [Int.zero_add]
      refine ⟨_, rfl, q, vy, rfl, .inr (L1.1.tup hvy), _, _, rfl, rfl, _, rfl, by omega, by omega, ?_⟩
      refine for_range (lo := 0) (n := ((vy.length : Int) - 2).toNat) (fun j σ H' => ∃ v6 v7 v8 v9, σ = [some (.ref p), some (.ref q), some (.ref a), some (.ref U), some (.ref D), some (.int (i : Int)), v6, v7, v8, v9] ∧ LB K H U D (bendsL ms rows 1 i ++ rowTo ms rs 1 i j) (bendsL ms rows (-1) i ++ rowTo ms rs (-1) i j) H') ⟨v6, v7, v8, v9, rfl, by rw [show rowTo ms rs 1 i 0 = [] from rfl, show rowTo ms rs (-1) i 0 = [] from rfl, List.append_nil, List.append_nil]; exact L1⟩ ?_ ?_
      · rintro j σ H2 hj ⟨v6, v7, v8, v9, rfl, L2⟩
        have hj3 : j + 3 ≤ ys.length := by omega
        rw [Int.zero_add]
        refine ⟨_, rfl, _, rfl, _, _, rfl, rfl, _, rfl, _, _, rfl, rfl, (by show 3 ≤ sizeLine; decide), fun t nt => ?_⟩
        have st := Same.new (o := .tup [V.int (j : Int), V.int ((j : Int) + 1), V.int ((j : Int) + 2)]) nt
        have L3 := L2.to st
        have ht : SqT K (upd H2 t (.tup [V.int (j : Int), V.int ((j : Int) + 1), V.int ((j : Int) + 2)])) t [V.int (j : Int), V.int ((j : Int) + 1), V.int ((j : Int) + 2)] := SqT.of upd_same
        generalize upd H2 t (.tup [V.int (j : Int), V.int ((j : Int) + 1), V.int ((j : Int) + 2)]) = H3 at *
        have g0 := at0_get (show j < rs.length by omega)
        have g1 := at0_get (show j + 1 < rs.length by omega)
        have g2 := at0_get (show j + 2 < rs.length by omega)
        refine ⟨t, rfl, ⟨_, ht⟩, fun R nR => lc_tup (K := K) (a := t) (xs := [V.int (j : Int), V.int ((j : Int) + 1), V.int ((j : Int) + 2)]) (fun n H' => LcD K H3 R (([at0 rs j, at0 rs (j + 1), at0 rs (j + 2)].take n).map PyData.int) H') (LcD.start nR) (fun n H' _ h => h.same.tup ht) ?_ ?_⟩
        · rintro n x H4 hn h
          obtain ⟨m, rfl, hm, hmn⟩ : ∃ m : Nat, x = V.int (m : Int) ∧ m < rs.length ∧ [at0 rs j, at0 rs (j + 1), at0 rs (j + 2)][n]? = some (at0 rs m) := by
            match n, hn with
            | 0, e => exact ⟨j, (Option.some.inj e).symm, by omega, rfl⟩
            | 1, e => exact ⟨j + 1, (Option.some.inj e).symm, by omega, rfl⟩
            | 2, e => exact ⟨j + 2, (Option.some.inj e).symm, by omega, rfl⟩
          have sH := L3.1.trans h.same
          have gm := at0_get hm
          rw [ers] at gm
          unfold riseL at gm
          rw [List.getElem?_zipWith] at gm
          obtain ⟨z0, c0⟩ : ∃ z, R0[m]? = some z := ⟨_, List.getElem?_eq_getElem (show m < R0.length by omega)⟩
          obtain ⟨z1, c1⟩ : ∃ z, R1[m]? = some z := ⟨_, List.getElem?_eq_getElem (show m < R1.length by omega)⟩
          rw [c0, c1] at gm
          have em : z1 - z0 = at0 rs m := by
            have := Option.some.inj gm
            rw [ers]
            exact this
          refine ⟨rfl, ?_⟩
          dsimp only [tYes]
          rw [if_pos rfl]
          refine ⟨_, rfl, _, rfl, _, _, rfl, rfl, a, us, _, .ref a1, rfl, rfl, sH.tup hs, (by exact atI_nat (j := i + 1) hu1), _, rfl, a1, _, _, .int z1, rfl, rfl, sH.tup hs1, atI_nat (by rw [List.getElem?_map, c1]; rfl), _, rfl, _, rfl, a, us, _, .ref a0, rfl, rfl, sH.tup hs, atI_nat hu0, _, rfl, a0, _, _, .int z0, rfl, rfl, sH.tup hs0, atI_nat (by rw [List.getElem?_map, c0]; rfl), _, _, rfl, rfl, ?_⟩
          dsimp only
          rw [em, take_snoc hmn, List.map_append]
          exact LcD.step nR h (Same.refl H4) (.int _) (flatDs_ints _) rfl (by rw [List.length_map, List.length_take]; simp; omega)
        · intro H4 h
          have hR := SqL.of (K := K) (show H4 R = some (.lst ([at0 rs j, at0 rs (j + 1), at0 rs (j + 2)].map V.int)) from h.ints)
          have L4 := L3.to h.same
          have s4 := L4.1
          have n0 := at0_get (ns := ms) (j := j) (by omega)
          have n1 := at0_get (ns := ms) (j := j + 1) (by omega)
          have n2 := at0_get (ns := ms) (j := j + 2) (by omega)
          rw [ems, List.getElem?_map] at n0 n1 n2
          obtain ⟨y0, f0⟩ : ∃ y, ys[j]? = some y := ⟨_, List.getElem?_eq_getElem (show j < ys.length by omega)⟩
          obtain ⟨y1, f1⟩ : ∃ y, ys[j + 1]? = some y := ⟨_, List.getElem?_eq_getElem (show j + 1 < ys.length by omega)⟩
          obtain ⟨y2, f2⟩ : ∃ y, ys[j + 2]? = some y := ⟨_, List.getElem?_eq_getElem (show j + 2 < ys.length by omega)⟩
          rw [f0, ← ems] at n0
          rw [f1, ← ems] at n1
          rw [f2, ← ems] at n2
          have k0 : y0.1 = at0 ms j := Option.some.inj n0
          have k1 : y1.1 = at0 ms (j + 1) := Option.some.inj n1
          have k2 : y2.1 = at0 ms (j + 2) := Option.some.inj n2
          obtain ⟨q0, b0, i0, t0⟩ := hpy.at f0
          obtain ⟨q1, b1, i1, t1⟩ := hpy.at f1
          obtain ⟨q2, b2, i2, t2⟩ := hpy.at f2
          have z0 := sms _ (at0_mem (ns := ms) (j := j) (by omega))
          have z1 := sms _ (at0_mem (ns := ms) (j := j + 1) (by omega))
          have z2 := sms _ (at0_mem (ns := ms) (j := j + 2) (by omega))
          refine ⟨_, rfl, R, _, 1, .int (at0 rs (j + 1)), rfl, rfl, hR, atI_nat (j := 1) rfl, _, rfl, R, _, 0, .int (at0 rs j), rfl, rfl, hR, atI_nat (j := 0) rfl, _, _, rfl, rfl, ?_⟩
          refine ⟨_, rfl, _, rfl, _, _, rfl, rfl, q, vy, _, .ref q2, rfl, rfl, s4.tup hvy, (by exact atI_nat (j := j + 2) i2), q2, _, 0, .int y2.1, rfl, rfl, s4.tup t2, atI_nat (j := 0) rfl, _, rfl, _, rfl, _, _, rfl, rfl, q, vy, _, .ref q1, rfl, rfl, s4.tup hvy, (by exact atI_nat (j := j + 1) i1), q1, _, 0, .int y1.1, rfl, rfl, s4.tup t1, atI_nat (j := 0) rfl, _, _, rfl, rfl, _, _, rfl, rfl, .inr (by omega), ?_⟩
          refine ⟨_, rfl, R, _, 2, .int (at0 rs (j + 2)), rfl, rfl, hR, atI_nat (j := 2) rfl, _, rfl, R, _, 1, .int (at0 rs (j + 1)), rfl, rfl, hR, atI_nat (j := 1) rfl, _, _, rfl, rfl, ?_⟩
          refine ⟨_, rfl, _, rfl, _, _, rfl, rfl, q, vy, _, .ref q1, rfl, rfl, s4.tup hvy, (by exact atI_nat (j := j + 1) i1), q1, _, 0, .int y1.1, rfl, rfl, s4.tup t1, atI_nat (j := 0) rfl, _, rfl, _, rfl, q, vy, _, .ref q0, rfl, rfl, s4.tup hvy, atI_nat i0, q0, _, 0, .int y0.1, rfl, rfl, s4.tup t0, atI_nat (j := 0) rfl, _, _, rfl, rfl, _, _, rfl, rfl, .inr (by omega), ?_⟩
          dsimp only
          rw [k0, k1, k2]
          obtain ⟨nr, enr⟩ : ∃ z, z = (at0 rs (j + 1) - at0 rs j) * (at0 ms (j + 2) - at0 ms (j + 1)) := ⟨_, rfl⟩
          obtain ⟨fr, efr⟩ : ∃ z, z = (at0 rs (j + 2) - at0 rs (j + 1)) * (at0 ms (j + 1) - at0 ms j) := ⟨_, rfl⟩
          have eb : bowL ms rs j = fr - nr := by unfold bowL; rw [enr, efr]
          rw [← enr, ← efr]
          refine ⟨_, rfl, _, rfl, _, _, rfl, rfl, _, rfl, ?_⟩
          rw [rowTo_succ, rowTo_succ, ← List.append_assoc, ← List.append_assoc, eb]
          obtain ⟨us4, ds4, hU4, hD4, _, _⟩ := L4.2
          have lU := L4.lenU hU4
          have lD := L4.lenD hD4
          have bU := bendsL_len ms rows 1 i
          have bD := bendsL_len ms rows (-1) i
          have cU := rowTo_len ms rs 1 i j
          have cD := rowTo_len ms rs (-1) i j
          have b64 : i * ms.length ≤ 8 * 8 := Nat.mul_le_mul (by omega) (by omega)
          rw [List.length_append] at lU lD
          by_cases h1 : nr < fr
          · rw [decide_eq_true h1, if_pos (show 0 < (fr - nr) * 1 by omega), if_neg (show ¬ 0 < (fr - nr) * -1 by omega), List.append_nil]
            refine iteT ⟨_, rfl, .inl ⟨rfl, _, SqL.of hU4⟩, _, rfl, _, rfl, (by show 2 ≤ sizeLine; decide), fun t5 nt5 => ?_⟩
            have s5 := Same.new (o := .tup [V.int (i : Int), V.int (j : Int)]) nt5
            have hv5 : Dp K (upd H4 t5 (.tup [V.int (i : Int), V.int (j : Int)])) (.ref t5) (plD (i, j)) := by
              refine .tup (SqT.of upd_same) ?_
              exact .cons (.int _) (.cons (.int _) .nil)
            refine ⟨U, _, _, rfl, rfl, s5 _ _ hU4, small1000 (by omega), ?_⟩
            refine ⟨_, rfl, _, rfl, _, _, rfl, rfl, _, rfl, ?_⟩
            rw [decide_eq_false (show ¬ fr < nr by omega)]
            exact iteF ⟨_, _, _, _, rfl, (L4.to s5).addU nU ne (s5 _ _ hU4) hv5⟩
          · rw [decide_eq_false h1, if_neg (show ¬ 0 < (fr - nr) * 1 by omega), List.append_nil]
            refine iteF ⟨_, rfl, _, rfl, _, _, rfl, rfl, _, rfl, ?_⟩
            by_cases h2 : fr < nr
            · rw [decide_eq_true h2, if_pos (show 0 < (fr - nr) * -1 by omega)]
              refine iteT ⟨_, rfl, .inl ⟨rfl, _, SqL.of hD4⟩, _, rfl, _, rfl, (by show 2 ≤ sizeLine; decide), fun t5 nt5 => ?_⟩
              have s5 := Same.new (o := .tup [V.int (i : Int), V.int (j : Int)]) nt5
              have hv5 : Dp K (upd H4 t5 (.tup [V.int (i : Int), V.int (j : Int)])) (.ref t5) (plD (i, j)) := by
                refine .tup (SqT.of upd_same) ?_
                exact .cons (.int _) (.cons (.int _) .nil)
              refine ⟨D, _, _, rfl, rfl, s5 _ _ hD4, small1000 (by omega), ?_⟩
              exact ⟨_, _, _, _, rfl, (L4.to s5).addD nD0 ne (s5 _ _ hD4) hv5⟩
            · rw [decide_eq_false h2, if_neg (show ¬ 0 < (fr - nr) * -1 by omega), List.append_nil]
              exact iteF ⟨_, _, _, _, rfl, L4⟩
      · rintro σ H2 ⟨v6, v7, v8, v9, rfl, L2⟩
        have e : ∀ way, bendsL ms rows way (i + 1) = bendsL ms rows way i ++ rowTo ms rs way i ((vy.length : Int) - 2).toNat := fun way => by
          rw [bendsL_succ]
          unfold bendRow rowTo
          rw [show rows.getD i [] = R0 from by rw [List.getD_eq_getElem?_getD, r0]; rfl, show rows.getD (i + 1) [] = R1 from by rw [List.getD_eq_getElem?_getD, r1]; rfl, ← ers, lms, show ((vy.length : Int) - 2).toNat = ys.length - 2 from by omega]
        refine ⟨_, _, _, _, _, rfl, ?_⟩
        rw [e, e]
        exact L2
    · rintro σ H1 ⟨v5, v6, v7, v8, v9, rfl, L1⟩
      refine ⟨_, rfl, _, rfl, (by show 2 ≤ sizeLine; decide), fun t nt => ?_⟩
      have st := Same.new (o := .tup [V.ref U, V.ref D]) nt
      obtain ⟨s2, us2, ds2, g1, g2, g3, g4⟩ := L1.to st
      have en : ((vx.length : Int) - 1).toNat = rows.length - 1 := by omega
      rw [en] at g3 g4
      refine k _ t (.ref U) (.ref D) s2 (SqT.of upd_same) (.lst (SqL.of g1) ?_) (.lst (SqL.of g2) ?_)
      · unfold upsO bendsT
        rw [← ems]
        exact g3
      · unfold downsO bendsT
        rw [← ems]
        exact g4
end
end CS
set_option Elab.async false
set_option maxRecDepth 100000
set_option maxHeartbeats 8000000
set_option linter.unusedVariables false
set_option pp.maxSteps 400
namespace L2
open PySem CS
theorem DpAll.set {K : PySem.W.Frag} {H : Hp} : ∀ {vs : List V} {ds : List PyData} (i : Nat) {v : V} {d : PyData}, DpAll K H vs ds → Dp K H v d → DpAll K H (vs.set i v) (ds.set i d)
  | _, _, _, _, _, .nil, _ => .nil
  | _, _, 0, _, _, .cons _ b, h => .cons h b
  | _, _, i + 1, _, _, .cons a b, h => .cons a (DpAll.set i b h)
end L2
namespace CS
open PySem L2 StX
theorem eqv_list_nil (ds : List PyData) : PyData.eqv (.list ds) (.list []) = ds.isEmpty := by
  cases ds <;> simp [PyData.eqv, PyData.eqvAll]
theorem eqv_tup_nil (ds : List PyData) : PyData.eqv (.tuple ds) (.tuple []) = ds.isEmpty := by
  cases ds <;> simp [PyData.eqv, PyData.eqvAll]
abbrev rowDt (r : List Int) : PyData := .tuple (r.map PyData.int)
theorem flat_row (r : List Int) : flatD (rowDt r) = true := by
  have := flatDs_ints r
  simp only [rowDt, flatD, this]
theorem flat_rows : ∀ rows : List (List Int), flatDs (rows.map rowDt) = true
  | [] => rfl
  | r :: rs => by
    show (flatD (rowDt r) && flatDs (rs.map rowDt)) = true
    rw [flat_row, flat_rows rs]
    rfl
theorem shaped_rows (rows : List (List Int)) : SeqAt.shaped (.list (rows.map rowDt)) = true := by
  have hi : ∀ r : List Int, PyData.canLayAll0 (r.map PyData.int) = true ∧ PyData.depthAll (r.map PyData.int) = 0 := fun r => by
    induction r with
    | nil => exact ⟨rfl, rfl⟩
    | cons c r ih => exact ⟨by simp only [List.map_cons, PyData.canLayAll0, PyData.canLay0, ih.1, Bool.and_true], by simp only [List.map_cons, PyData.depthAll, PyData.depth, ih.2, Nat.max_self]⟩
  have h : PyData.canLayAll0 (rows.map rowDt) = true ∧ PyData.depthAll (rows.map rowDt) ≤ 1 := by
    induction rows with
    | nil => exact ⟨rfl, by decide⟩
    | cons r rs ih =>
      refine ⟨?_, ?_⟩
      · simp only [List.map_cons, PyData.canLayAll0, rowDt, PyData.canLay0, (hi r).1, Bool.true_and]
        exact ih.1
      · have h2 := ih.2
        have h3 : PyData.depthAll ((r :: rs).map rowDt) = max (rowDt r).depth (PyData.depthAll (rs.map rowDt)) := by simp only [List.map_cons, PyData.depthAll]
        have h4 : (rowDt r).depth = PyData.depthAll (r.map PyData.int) + 1 := by simp only [PyData.depth]
        rw [h3, h4, (hi r).2]
        omega
  refine Bool.and_eq_true_iff.mpr ⟨?_, decide_eq_true ?_⟩
  · simp only [PyData.canLay0, h.1]
  · have h2 := h.2
    simp only [PyData.depth]
    omega
theorem cut_to {α : Type} (xs : List α) (j : Nat) : cutD xs none (some (j : Int)) = xs.take j := by
  unfold cutD
  rw [HT.sIx_none, HT.sIx_nat, List.drop_zero, Nat.sub_zero]
  by_cases h : j ≤ xs.length
  · rw [Nat.min_eq_left h]
  · rw [Nat.min_eq_right (by omega), List.take_length, List.take_of_length_le (by omega)]
theorem cut_from {α : Type} (xs : List α) (j : Nat) : cutD xs (some (j : Int)) none = xs.drop j := by
  unfold cutD
  rw [HT.sIx_none, HT.sIx_nat]
  by_cases h : j ≤ xs.length
  · rw [Nat.min_eq_left h]
    exact List.take_of_length_le (by rw [List.length_drop]; omega)
  · rw [Nat.min_eq_right (by omega), List.drop_length, List.drop_of_length_le (by omega), List.take_nil]
/-- rows of costs while they are made -/
structure RowsOk (rows : List (List Int)) (m : Nat) : Prop where
  wide : ∀ r ∈ rows, r.length = m
  small : ∀ r ∈ rows, ∀ c ∈ r, c.natAbs ≤ 900
theorem RowsOk.snoc {rows : List (List Int)} {m : Nat} {r : List Int} (h : RowsOk rows m) (h1 : r.length = m) (h2 : ∀ c ∈ r, c.natAbs ≤ 900) : RowsOk (rows ++ [r]) m := by
  constructor
  · intro x hx
    rcases List.mem_append.mp hx with q | q
    · exact h.wide x q
    · rw [List.mem_singleton.mp q]
      exact h1
  · intro x hx
    rcases List.mem_append.mp hx with q | q
    · exact h.small x q
    · rw [List.mem_singleton.mp q]
      exact h2
theorem atI_ints {ns : List Int} {i : Int} (h0 : 0 ≤ i) (h1 : i < (ns.length : Int)) : ∃ e ∈ ns, atI (ns.map V.int) i = some (.int e) := by
  obtain ⟨j, rfl⟩ := Int.eq_ofNat_of_zero_le h0
  have hj : j < ns.length := by omega
  refine ⟨ns[j], List.getElem_mem hj, atI_nat ?_⟩
  rw [List.getElem?_map, List.getElem?_eq_getElem hj]
  rfl
section
variable {P : Program} {w : World} {K : PySem.W.Frag} {mg : Str → Option Value} {base : Heap}
def spCosts (K : PySem.W.Frag) : Sp := fun vs H Q _ => ∃ (d c l : Addr) (k : Nat) (p q : Addr) (xs ys : List (Int × Fx)), vs = [.ref d, .ref p, .ref q] ∧ StAt H d c l k ∧ k ≤ 60000 ∧ ShAt K H p xs ∧ ShAt K H q ys ∧ xs.length ≤ 8 ∧ ys.length ≤ 8 ∧ 0 < ys.length ∧ (∀ a ∈ xs, a.1.natAbs ≤ 200) ∧ (∀ a ∈ ys, a.1.natAbs ≤ 200) ∧
  ∀ H' r rows k', k' ≤ k + 100 → StAt H' d c l k' → Fm d l H H' → Dp K H' r (costD rows) → CostOk rows xs.length ys.length → Q r H'
theorem scLawCosts : FnScope ["state", "one", "other", "way", "sign", "found", "near", "heft", "row", "far", "own", "kinds", "at", "spot"] ["state", "one", "other"] (defScope sLawCosts) := ⟨rfl, rfl, rfl, by decide +kernel, rfl, by decide +kernel, by decide +kernel⟩
theorem ok_law_costs {f f1 : Addr} {fd fd1 : FuncData} (F : Df K mg "_law_costs" sLawCosts ["state", "one", "other"] f fd) (D1 : Df K mg "_law_draw" sDraw ["state", "many"] f1 fd1) (G1 : FnOk P w K mg base CX0 2 f1 fd1 ["state", "many"] spDraw) (T : Bt mg) (mmax : mg "max" = none) (mmin : mg "min" = none) : FnOk P w K mg base CX0 3 f fd ["state", "one", "other"] (spCosts K) := by
  refine F.F.ok scLawCosts (fun vs H Q E h => ?_) (fun cdv A outer s H vs Q E hr h => ?_)
  · obtain ⟨d, c, l, k, p, q, xs, ys, rfl, _⟩ := h
    rfl
  · obtain ⟨d, c, l, k0, p, q, xs, ys, rfl, S, hk0, hx, hy, x8, y8, y0, sx, sy, k⟩ := h
    refine ⟨_, pss_cons (ps_par3 (i := 3) (j := 4) (l := 5) rfl scLawCosts.nd rfl rfl rfl (by decide) (by decide) (by decide) rfl rfl rfl (pa_cons (pe_call G1 hr (by rfl) D1.g D1.F.kp D1.b .nil pass0 (pa_cons (pv 0) (pa_cons pe_int pa_nil))) (pa_cons (pe_ix ix_list (pe_lst (pa_cons pe_int (pa_cons (pe_un un_neg pe_int) pa_nil))) (pe_call G1 hr (by rfl) D1.g D1.F.kp D1.b .nil pass0 (pa_cons (pv 0) (pa_cons pe_int pa_nil))) (fun _ _ => rfl)) (pa_cons (pe_lst pa_nil) pa_nil))) (by rfl))
      (pss_cons (ps_for PassesOwn.never rfl (pi_tup (pv 1)) (pg_tup rfl (pgs_cons (pg_name (i := 6) scLawCosts.nd rfl (Or.inl rfl)) (pgs_cons (pg_name (i := 7) scLawCosts.nd rfl (Or.inl rfl)) pgs_nil)))
        (pss_cons (ps_set (i := 8) scLawCosts.nd rfl (Or.inl rfl) (pe_lst pa_nil))
        (pss_cons (ps_for PassesOwn.never rfl (pi_tup (pv 2)) (pg_tup rfl (pgs_cons (pg_name (i := 9) scLawCosts.nd rfl (Or.inl rfl)) (pgs_cons (pg_name (i := 10) scLawCosts.nd rfl (Or.inl rfl)) pgs_nil)))
          (pss_cons (ps_set (i := 11) scLawCosts.nd rfl (Or.inl rfl) (pe_lst (pa_cons (pe_op op_sub (pe_call G1 hr (by rfl) D1.g D1.F.kp D1.b .nil pass0 (pa_cons (pv 0) (pa_cons pe_int pa_nil))) pe_int) (pa_cons (pe_op op_fdivX (pe_op op_mul (pe_op op_mul (pe_op op_mul (pv 4) (pv 6)) (pv 9)) (pv 9)) pe_int) (pa_cons (pe_op op_mul (pe_op op_mul (pv 4) (pv 6)) (pe_callB call_abs (by rfl) T.abs (by decide +kernel) (pa_cons (pv 9) pa_nil))) (pa_cons (pe_op op_mul (pv 6) (pv 9)) (pa_cons pe_int pa_nil)))))))
          (pss_one (ps_expr (pe_bm PySem.F.plainAttrs_list PySem.F.slot_list_append PySem.F.type_list_append mt_append (pv 8) (pa_cons (pe_callB (call_max2 rfl) (by rfl) mmax (by decide +kernel) (pa_cons (pe_un un_neg pe_int) (pa_cons (pe_callB (call_min2 rfl) (by rfl) mmin (by decide +kernel) (pa_cons pe_int (pa_cons (pe_ix ix_list (pv 11) (pv 3) (fun _ _ => rfl)) pa_nil))) pa_nil))) pa_nil))))))
        (pss_one (ps_expr (pe_bm PySem.F.plainAttrs_list PySem.F.slot_list_append PySem.F.type_list_append mt_append (pv 5) (pa_cons (pe_callTy call_tuple_of (by rfl) T.tuple (by decide +kernel) (pa_cons (pv 8) pa_nil)) pa_nil)))))))
      (pss_cons (ps_if (PW.pt (pw_and (pt_cmpR op_eq (pv 3) pe_int (nomark _)) (pw_and (pt_cmpR (op_neD hr.units) (pv 5) (pe_lst pa_nil) (nomark _)) (pw_and1 (pt_cmpR op_eq (pe_call G1 hr (by rfl) D1.g D1.F.kp D1.b .nil pass0 (pa_cons (pv 0) (pa_cons pe_int pa_nil))) pe_int (nomark _))))))
        (pss_cons (ps_set (i := 12) scLawCosts.nd rfl (Or.inl rfl) (pe_call G1 hr (by rfl) D1.g D1.F.kp D1.b .nil pass0 (pa_cons (pv 0) (pa_cons (pe_callB (r := Evl.rLenS K) call_len_seq (by rfl) T.len PySem.boot_len (pa_cons (pv 5) pa_nil)) pa_nil))))
        (pss_cons (ps_set (i := 13) scLawCosts.nd rfl (Or.inl rfl) (pe_call G1 hr (by rfl) D1.g D1.F.kp D1.b .nil pass0 (pa_cons (pv 0) (pa_cons (pe_callB (r := Evl.rLenS K) call_len_seq (by rfl) T.len PySem.boot_len (pa_cons (pv 2) pa_nil)) pa_nil))))
        (pss_one (ps_asg (pe_op op_sumD (pe_op op_sumD (pe_slice sl_data (pe_ix ix_list (pv 5) (pv 12) (fun _ _ => rfl)) po_none (po_some (pv 13))) (pe_tup (pa_cons (pe_op op_add (pe_ix ix_tup (pe_ix ix_list (pv 5) (pv 12) (fun _ _ => rfl)) (pv 13) (fun _ _ => rfl)) pe_int) pa_nil))) (pe_slice sl_data (pe_ix ix_list (pv 5) (pv 12) (fun _ _ => rfl)) (po_some (pe_op op_add (pv 13) pe_int)) po_none)) (pg_sub (pv 5) (pv 12) set_list))))) pss_nil)
      (pss_one (ps_ret (pe_callTy call_tuple_of (by rfl) T.tuple (by decide +kernel) (pa_cons (pv 5) pa_nil)))))), ?_⟩
    obtain ⟨vx, hvx, hpx⟩ := hx
    obtain ⟨vy, hvy, hpy⟩ := hy
    have lx := hpx.len
    have ly := hpy.len
    refine ⟨_, rfl, d, c, l, k0, 5, rfl, S, by decide, by decide, by omega, fun r1 H1 r10 r11 S1 fm1 => ⟨_, rfl, (by show 2 ≤ sizeLine; decide), fun t nt => ?_⟩⟩
    have Nt := S1.neD nt
    have st := Same.new (o := .lst [V.int 1, V.int (-1)]) nt
    refine ⟨_, rfl, d, c, l, k0 + 1, 2, rfl, S1.same st, by decide, by decide, by omega, fun r2 H2 r20 r21 S2 fm2 => ?_⟩
    obtain ⟨sg, hsg, hat⟩ := atI_ints (ns := [1, -1]) r20 (by simpa using r21)
    have sg1 : sg.natAbs ≤ 1 := by
      simp only [List.mem_cons, List.not_mem_nil, or_false] at hsg
      rcases hsg with rfl | rfl <;> decide
    have ht2 : H2 t = some (.lst [V.int 1, V.int (-1)]) := fm2 t _ upd_same Nt.1 Nt.2.2
    have fmB : Fm d l H H2 := fun b o e n m => fm2 b o (st b o (fm1 b o e n m)) n m
    refine ⟨t, _, _, .int sg, rfl, rfl, SqL.of ht2, hat, (by show 0 ≤ sizeLine; decide), fun F nF => ⟨_, _, _, rfl, ?_⟩⟩
    have NF := S2.neD nF
    have nF0 : H F = none := fmB.none nF NF.1 NF.2.2
    have sF := Same.new (o := .lst []) nF
    have S3 := S2.same sF
    have fm3 := fmB.same sF
    have hF3 : (upd H2 F (.lst [])) F = some (.lst []) := upd_same
    generalize upd H2 F (.lst []) = H3 at *
    refine ⟨_, rfl, p, rfl, ⟨_, tk_fm fm3 S _ _ hvx⟩, for_tup (K := K) (a := p) (xs := vx) (fun i σ H' => ∃ v6 v7 v8 v9 v10 v11 kk ws rows, σ = [some (.ref d), some (.ref p), some (.ref q), some (.int r1), some (.int sg), some (.ref F), v6, v7, v8, v9, v10, v11, none, none] ∧ StAt H' d c l kk ∧ kk ≤ k0 + 2 + 9 * i ∧ Fm d l H H' ∧ H' F = some (.lst ws) ∧ DpAll K H' ws (rows.map rowDt) ∧ rows.length = i ∧ RowsOk rows ys.length)
      ⟨none, none, none, none, none, none, _, [], [], rfl, S3, by omega, fm3, hF3, .nil, rfl, ⟨fun r hr => (by cases hr), fun r hr => (by cases hr)⟩⟩ ?_ ?_ ?_⟩
    · rintro i σ H' _ ⟨_, _, _, _, _, _, _, _, _, _, _, _, fm, _⟩
      exact tk_fm fm S _ _ hvx
    · rintro i x σ H4 hi ⟨v6, v7, v8, v9, v10, v11, kk, ws, rows, rfl, S4, hkk, fm4, hF4, hw4, lr, ro⟩
      obtain ⟨q0, r0, m, y, rfl, hxi, hq0, hr0⟩ := hpx.get hi
      have hi2 : i < xs.length := (List.getElem?_eq_some_iff.mp hxi).1
      have hm := sx _ (List.mem_of_getElem? hxi)
      refine ⟨q0, _, rfl, tk_fm fm4 S _ _ hq0, rfl, _, _, rfl, _, _, rfl, rfl, (by show 0 ≤ sizeLine; decide), fun R nR => ?_⟩
      have NR := S4.neD nR
      have nR0 : H R = none := fm4.none nR NR.1 NR.2.2
      have sR := Same.new (o := .lst []) nR
      have RF : R ≠ F := fun z => by
        rw [z, hF4] at nR
        cases nR
      have S5 := S4.same sR
      have fm5 := fm4.same sR
      have hF5 := sR _ _ hF4
      have hw5 := hw4.same sR
      have hR5 : (upd H4 R (.lst [])) R = some (.lst []) := upd_same
      generalize upd H4 R (.lst []) = H5 at *
      refine ⟨_, rfl, q, rfl, ⟨_, tk_fm fm5 S _ _ hvy⟩, for_tup (K := K) (a := q) (xs := vy) (fun j σ H' => ∃ v9 v10 v11 kk row, σ = [some (.ref d), some (.ref p), some (.ref q), some (.int r1), some (.int sg), some (.ref F), some (.int m), some (.ref r0), some (.ref R), v9, v10, v11, none, none] ∧ StAt H' d c l kk ∧ kk ≤ k0 + 2 + 9 * i + j ∧ Fm d l H H' ∧ H' F = some (.lst ws) ∧ DpAll K H' ws (rows.map rowDt) ∧ H' R = some (.lst (row.map V.int)) ∧ row.length = j ∧ ∀ c ∈ row, c.natAbs ≤ 900)
        ⟨v9, v10, v11, kk, [], rfl, S5, by omega, fm5, hF5, hw5, hR5, rfl, fun c hc => (by cases hc)⟩ ?_ ?_ ?_⟩
      · rintro j σ H' _ ⟨_, _, _, _, _, _, _, _, fm, _⟩
        exact tk_fm fm S _ _ hvy
      · rintro j x σ H6 hj ⟨v9, v10, v11, kk6, row, rfl, S6, hk6, fm6, hF6, hw6, hR6, lrow, srow⟩
        obtain ⟨q1, b1, m2, y2, rfl, hyj, hq1, hb1⟩ := hpy.get hj
        have hj2 : j < ys.length := (List.getElem?_eq_some_iff.mp hyj).1
        have hm2 := sy _ (List.mem_of_getElem? hyj)
        refine ⟨q1, _, rfl, tk_fm fm6 S _ _ hq1, rfl, _, _, rfl, _, _, rfl, rfl, ?_⟩
        refine ⟨_, rfl, d, c, l, kk6, 19, rfl, S6, by decide, by decide, by omega, fun z H7 z0 z1 S7 fm7 => ⟨_, _, rfl, rfl, ?_⟩⟩
        refine ⟨_, rfl, _, rfl, _, _, rfl, rfl, .inr (by omega), _, rfl, _, _, rfl, rfl, .inr (by omega), _, rfl, _, _, rfl, rfl, .inr (by omega), _, _, rfl, rfl, ⟨by decide, by decide⟩, ?_⟩
        refine ⟨_, rfl, _, rfl, _, _, rfl, rfl, .inr (by omega), _, rfl, m2, rfl, _, _, rfl, rfl, .inr (by split <;> omega), ?_⟩
        refine ⟨_, rfl, _, rfl, _, _, rfl, rfl, .inr (by omega), (by show 5 ≤ sizeLine; decide), fun u nu => ?_⟩
        obtain ⟨ns, ens⟩ : ∃ ns : List Int, ns = [z - 9, (sg * m * m2 * m2).fdiv 2, sg * m * (if m2 < 0 then -m2 else m2), m * m2, 3] := ⟨_, rfl⟩
        have hu7 : ∀ H : Hp, upd H u (.lst [V.int (z - 9), V.int ((sg * m * m2 * m2).fdiv 2), V.int (sg * m * (if m2 < 0 then -m2 else m2)), V.int (m * m2), V.int 3]) = upd H u (.lst (ns.map V.int)) := fun H => by rw [ens]; rfl
        obtain ⟨e, _, hate⟩ := atI_ints (ns := ns) r10 (by rw [ens]; simpa using r11)
        have Nu := S7.neD nu
        have NR6 : R ≠ d ∧ R ≠ c ∧ R ≠ l := NR
        have su := Same.new (o := .lst (ns.map V.int)) nu
        have hR7 := su _ _ (fm7 R _ hR6 NR6.1 NR6.2.2)
        have hF7 := su _ _ (fm7 F _ hF6 NF.1 NF.2.2)
        have hu8 : (upd H7 u (.lst (ns.map V.int))) u = some (.lst (ns.map V.int)) := upd_same
        have hw7 := DpAll.same su (DpAll.tk (tk_fm fm7 S6) (flat_rows rows) hw6)
        have S8 := S7.same su
        have fm8 := (fm6.trans fm7).same su
        have eH : upd H7 u (.lst [V.int (z - 9), V.int ((sg * m * m2 * m2).fdiv 2), V.int (sg * m * (if m2 < 0 then -m2 else m2)), V.int (m * m2), V.int 3]) = upd H7 u (.lst (ns.map V.int)) := hu7 H7
        refine ⟨_, rfl, .inl ⟨rfl, _, SqL.of (K := K) (xs := row.map V.int) (by rw [eH]; exact hR7)⟩, _, rfl, _, rfl, _, rfl, u, _, _, .int e, rfl, rfl, SqL.of (K := K) (xs := ns.map V.int) (by rw [eH]; exact hu8), hate, _, _, rfl, _, _, rfl, ?_⟩
        rw [eH]
        generalize upd H7 u (.lst (ns.map V.int)) = H8 at *
        obtain ⟨g, eg⟩ : ∃ g : Int, g = (if (if e < 900 then e else 900) > -900 then (if e < 900 then e else 900) else -900) := ⟨_, rfl⟩
        have sg9 : g.natAbs ≤ 900 := by
          rw [eg]
          split <;> split at * <;> omega
        rw [← eg]
        refine ⟨R, _, _, rfl, rfl, hR7, small1000 (by rw [List.length_map]; omega), ?_⟩
        refine ⟨_, _, _, kk6 + 1, row ++ [g], rfl, S8.upd NR6.1 NR6.2.1 NR6.2.2, by omega, fm8.upd nR0, by rw [upd_ne (Ne.symm RF)]; exact hF7, DpAll.tk (tk_lst hR7) (flat_rows rows) hw7, by rw [List.map_append]; exact upd_same, by rw [List.length_append, lrow]; rfl, fun c hc => ?_⟩
        rcases List.mem_append.mp hc with q | q
        · exact srow c q
        · rw [List.mem_singleton.mp q]
          exact sg9
      · rintro σ H6 ⟨v9, v10, v11, kk6, row, rfl, S6, hk6, fm6, hF6, hw6, hR6, lrow, srow⟩
        refine ⟨_, rfl, .inl ⟨rfl, _, SqL.of hF6⟩, _, rfl, R, _, rfl, .inl ⟨SqL.of hR6, fun u nu => ?_⟩⟩
        have su := Same.new (o := .tup (row.map V.int)) nu
        have hF7 := su _ _ hF6
        have lw := hw6.len
        rw [List.length_map] at lw
        refine ⟨F, _, _, rfl, rfl, hF7, small1000 (by omega), ?_⟩
        refine ⟨_, _, _, _, _, _, kk6, ws ++ [.ref u], rows ++ [row], rfl, (S6.same su).upd NF.1 NF.2.1 NF.2.2, by omega, (fm6.same su).upd nF0, upd_same, ?_, by rw [List.length_append, lr]; rfl, ro.snoc (by omega) srow⟩
        rw [List.map_append]
        exact DpAll.tk (tk_lst hF7) (flatDs_app (flat_rows rows) (flat_rows [row])) ((hw6.same su).app (.cons (Dp.new_tup nu (DpAll.ints row)) .nil))
    · rintro σ H4 ⟨v6, v7, v8, v9, v10, v11, kk, ws, rows, rfl, S4, hkk, fm4, hF4, hw4, lr, ro⟩
      have fin : ∀ (σ : L2.St) (H' : Hp) (kk' : Nat) (ws : List V) (rows : List (List Int)), σ[5]? = some (some (.ref F)) → StAt H' d c l kk' → kk' ≤ k0 + 90 → Fm d l H H' → H' F = some (.lst ws) → DpAll K H' ws (rows.map rowDt) → CostOk rows xs.length ys.length →
          tRet (tCB (fun xs H Q => ∃ p ys, xs = [V.ref p] ∧ ((SqL K H p ys ∧ ∀ l, H l = none → Q (.ref l) (upd H l (.tup ys))) ∨ (SqT K H p ys ∧ Q (.ref p) H))) (tCons (tVar 5) tNil)) { nx := fun x H' => Q V.non H', rt := Q } σ H' := by
        intro σ H' kk' ws rows h5 S' hk' fm' hF' hw' ok
        refine ⟨_, h5, F, ws, rfl, .inl ⟨SqL.of hF', fun u nu => ?_⟩⟩
        have su := Same.new (o := .tup ws) nu
        exact k _ _ rows kk' (by omega) (S'.same su) (fm'.same su) (Dp.new_tup nu hw') ok
      rw [lx] at lr
      have ok0 : CostOk rows xs.length ys.length := ⟨lr, ro.wide, fun r hr c hc => Nat.le_trans (ro.small r hr c hc) (by decide)⟩
      have base0 := fun σ (e : σ[5]? = some (some (.ref F))) => fin σ H4 kk ws rows e S4 (by omega) fm4 hF4 hw4 ok0
      refine ⟨_, rfl, rfl, _, rfl, ?_⟩
      by_cases h1 : r1 = 1
      · subst h1
        rw [decide_eq_true rfl]
        refine iteT ⟨_, rfl, (by show 0 ≤ sizeLine; decide), fun u nu => ⟨_, _, .lst (SqL.of (Same.new nu _ _ hF4)) (hw4.same (Same.new nu)), .lst (SqL.of upd_same) .nil, shaped_rows rows, (by decide), _, rfl, ?_⟩⟩
        have su := Same.new (o := .lst []) nu
        have S5 := S4.same su
        have fm5 := fm4.same su
        have hF5 := su _ _ hF4
        have hw5 := hw4.same su
        rw [eqv_list_nil]
        generalize upd H4 u (.lst []) = H5 at *
        have base1 := fun σ (e : σ[5]? = some (some (.ref F))) => fin σ H5 kk ws rows e S5 (by omega) fm5 hF5 hw5 ok0
        cases he : (rows.map rowDt).isEmpty with
        | true => exact iteF (base1 _ rfl)
        | false =>
          have rpos : 0 < rows.length := by
            cases rows with
            | nil => cases he
            | cons r rs => simp
          have lw := hw5.len
          rw [List.length_map] at lw
          refine iteT ⟨_, rfl, d, c, l, kk, 2, rfl, S5, by decide, by decide, by omega, fun z H6 z0 z1 S6 fm6 => ?_⟩
          have hF6 := fm6 F _ hF5 NF.1 NF.2.2
          have hw6 := DpAll.tk (tk_fm fm6 S5) (flat_rows rows) hw5
          have fm56 := fm5.trans fm6
          refine ⟨rfl, _, rfl, ?_⟩
          by_cases h2 : z = 0
          · subst h2
            rw [decide_eq_true rfl]
            refine iteT ⟨_, rfl, _, rfl, F, ws, rfl, .inl (SqL.of hF6), d, c, l, _, _, rfl, S6, by omega, by omega, by omega, fun at_ H7 a0 a1 S7 fm7 => ?_⟩
            have hF7 := fm7 F _ hF6 NF.1 NF.2.2
            have hw7 := DpAll.tk (tk_fm fm7 S6) (flat_rows rows) hw6
            have fm57 := fm56.trans fm7
            refine ⟨_, rfl, _, rfl, q, vy, rfl, .inr (tk_fm fm57 S _ _ hvy), d, c, l, _, _, rfl, S7, by omega, by omega, by omega, fun sp H8 s0 s1 S8 fm8 => ?_⟩
            have hF8 := fm8 F _ hF7 NF.1 NF.2.2
            have hw8 := DpAll.tk (tk_fm fm8 S7) (flat_rows rows) hw7
            have fm58 := fm57.trans fm8
            obtain ⟨ia, rfl⟩ := Int.eq_ofNat_of_zero_le a0
            obtain ⟨is, rfl⟩ := Int.eq_ofNat_of_zero_le s0
            obtain ⟨R0, hR0⟩ : ∃ R, rows[ia]? = some R := ⟨_, List.getElem?_eq_getElem (show ia < rows.length by omega)⟩
            have mR := List.mem_of_getElem? hR0
            have wR := ro.wide _ mR
            have smR := ro.small _ mR
            obtain ⟨vr, hvr, hdr⟩ := hw8.at (i := ia) (by rw [List.getElem?_map, hR0]; rfl)
            obtain ⟨b, us, rfl, hb, hbd⟩ := hdr.tup_inv
            have eu := hbd.of_ints
            subst eu
            obtain ⟨cv, hcv⟩ : ∃ z, R0[is]? = some z := ⟨_, List.getElem?_eq_getElem (show is < R0.length by omega)⟩
            have scv := smR _ (List.mem_of_getElem? hcv)
            have hat2 : atI ws (ia : Int) = some (.ref b) := atI_nat hvr
            refine ⟨_, rfl, _, rfl, F, ws, _, .ref b, rfl, rfl, SqL.of hF8, hat2, _, rfl, _, rfl, _, hdr, fun H9 w9 s9 h9 => ?_⟩
            refine ⟨_, rfl, _, rfl, F, ws, _, .ref b, rfl, rfl, SqL.of (s9 _ _ hF8), hat2, _, rfl, b, _, _, .int cv, rfl, rfl, s9.tup hb, atI_nat (by rw [List.getElem?_map, hcv]; rfl), _, _, rfl, rfl, (by show 1 ≤ sizeLine; decide), fun u1 nu1 => ?_⟩
            have s10 := Same.new (o := .tup [V.int (cv + 7)]) nu1
            refine ⟨_, [.int (cv + 7)], h9.same s10, Dp.new_tup nu1 (.cons (.int _) .nil), ?_, fun H11 w11 s11 h11 => ?_⟩
            · rw [cut_to, List.length_take, List.length_map]
              show min _ _ + 1 ≤ 1000
              omega
            have s811 := s9.trans (s10.trans s11)
            refine ⟨_, rfl, _, rfl, F, ws, _, .ref b, rfl, rfl, SqL.of (s811 _ _ hF8), hat2, _, rfl, _, _, rfl, rfl, _, rfl, _, hdr.same s811, fun H12 w12 s12 h12 => ?_⟩
            rw [show ((is : Int) + 1) = ((is + 1 : Nat) : Int) from rfl, cut_from] at h12
            rw [cut_to] at h11
            refine ⟨_, _, h11.same s12, h12, ?_, fun H13 w13 s13 h13 => ?_⟩
            · rw [List.length_append, List.length_take, List.length_drop, List.length_map]
              show min _ _ + 1 + _ ≤ 1000
              omega
            have s813 := s811.trans (s12.trans s13)
            have hF13 := s813 _ _ hF8
            refine ⟨_, rfl, _, rfl, F, ws, _, ia, rfl, rfl, hF13, ?_, ?_⟩
            · show (if 0 ≤ (ia : Int) then (if (ia : Int) < (ws.length : Int) then some (ia : Int).toNat else none) else _) = some ia
              rw [if_pos (by omega), if_pos (by omega), Int.toNat_natCast]
            obtain ⟨R1, eR1⟩ : ∃ R1 : List Int, R1 = R0.take is ++ [cv + 7] ++ R0.drop (is + 1) := ⟨_, rfl⟩
            have h13' : Dp K H13 w13 (rowDt R1) := by
              have : R1.map PyData.int = (R0.map PyData.int).take is ++ [.int (cv + 7)] ++ (R0.map PyData.int).drop (is + 1) := by
                rw [eR1, List.map_append, List.map_append, List.map_take, List.map_drop]
                rfl
              show Dp K H13 w13 (.tuple (R1.map PyData.int))
              rw [this]
              exact h13
            have lR1 : R1.length = ys.length := by
              rw [eR1, List.length_append, List.length_append, List.length_take, List.length_drop]
              show min _ _ + 1 + _ = _
              omega
            have sR1 : ∀ c ∈ R1, c.natAbs ≤ 1000 := fun c hc => by
              rw [eR1] at hc
              rcases List.mem_append.mp hc with q | q
              · rcases List.mem_append.mp q with q | q
                · have := smR c (List.mem_of_mem_take q)
                  omega
                · rw [List.mem_singleton.mp q]
                  omega
              · have := smR c (List.mem_of_mem_drop q)
                omega
            have hset : DpAll K H13 (ws.set ia w13) ((rows.set ia R1).map rowDt) := by
              rw [List.map_set]
              exact (hw8.same s813).set ia h13'
            refine fin _ _ (kk + 1 + 1 + 1) _ (rows.set ia R1) rfl ((S8.same s813).upd NF.1 NF.2.1 NF.2.2) (by omega) ((fm58.same s813).upd nF0) upd_same (DpAll.tk (tk_lst hF13) (flat_rows _) hset) ⟨?_, fun r hr => ?_, fun r hr => ?_⟩
            · rw [List.length_set]
              exact lr
            · rcases List.mem_or_eq_of_mem_set hr with q | q
              · exact ro.wide r q
              · rw [q]
                exact lR1
            · rcases List.mem_or_eq_of_mem_set hr with q | q
              · intro c hc
                exact Nat.le_trans (ro.small r q c hc) (by decide)
              · rw [q]
                exact sR1
          · rw [decide_eq_false (fun e => h2 (V.int.inj e))]
            exact iteF (fin _ H6 (kk + 1) ws rows rfl S6 (by omega) fm56 hF6 hw6 ok0)
      · rw [decide_eq_false (fun e => h1 (V.int.inj e))]
        exact iteF (base0 _ rfl)
end
end CS
set_option Elab.async false
set_option maxRecDepth 100000
set_option maxHeartbeats 8000000
set_option linter.unusedVariables false
set_option pp.maxSteps 400
/-! a set that a comprehension makes of numbers (or words), over anything that a loop may walk; len of such a set -/
namespace CS
open PySem L2 PpSet
/-- what is owed at turn i, with m left to count down: either the walk stands at its end, or it gives x, and what the block makes of x is put into the set at D -/
def Due (P : Program) (w : World) (J : It) (g : TG) (tt : TT) (te : TE) (τ : L2.St) (vs : List Nat) (D : Addr) (W : Nat → Nat → Hp → Prop) (Z : Hp → Prop) : Prop :=
  ∀ i m H, W i m H → (J.stop i H ∧ Z H) ∨ (J.go i H ∧ ∃ N : Hp → Prop, (∀ G, N G → ∃ j, j < m ∧ W (i + 1) j G) ∧ ∀ x H', J.yld i H x H' → g x τ H' fun ρ H2 => wipe ρ vs = τ ∧ tt ρ H2 fun b H3 =>
    if b = true then te ρ H3 fun y H4 => ∃ (k : Key) (S : Key → Bool) (n : Nat), y = kV k ∧ H4 D = some (SetK P w D S n) ∧ n + 1 < scanBound ∧
      N (upd H4 D (SetK P w D (fun j => S j || decide (j = k)) (if S k = true then n else n + 1)))
    else N H3)
section
variable {B : Cx} {fp : List Addr} {tn : Nat → Heap → Prop} {J : It} {it D : Addr} {elt tg iter : Expr} {ifs : List Expr} {scope : Scope} {pos : Pos} {g : TG} {tt : TT} {te : TE} {τ : L2.St} {vs : List Nat} {W : Nat → Nat → Hp → Prop} {Z : Hp → Prop} {R : Result → Shared → Prop}
theorem due_loop (calm : B.calm = true) (hx : B.xe = fun _ _ => False) (T : Turn B.prog B.w B.K tg J fp it tn) (pg : PG B tg g) (pt : PTs B ifs tt) (pe : PE B elt te)
    (fok : ∀ {σ' H' s'}, Inv B [] σ' H' s' → (∀ b ∈ fp, H' b = none) → ∀ b ∈ fp, FpOk B [] H' b)
    (due : Due B.prog B.w J g tt te τ vs D W Z) (fin : ∀ {s H}, Inv B [] τ H s → Z H → R (.ok .next) s) {m : Nat} {s : Shared} {H : Hp} (I : Inv B [] τ H s) (t0 : tn 0 s.heap) (n0 : ∀ b ∈ fp, H b = none) (w0 : W 0 m H) :
    codeAny (model B.prog B.w) B.A (.compLoop (.SetComp elt [⟨tg, iter, ifs, 0⟩] scope pos) 0 (.ref it) (.ref D) B.env) R s := by
  refine compLoopS_any (fun left t => ∃ i G, Inv B [] τ G t ∧ tn i t.heap ∧ (∀ b ∈ fp, G b = none) ∧ W i left G) (fun left t ⟨i, G, IG, tG, nG, wG⟩ => ?_) m ⟨0, H, I, t0, n0, w0⟩
  rcases due i left G wG with ⟨stop, z⟩ | ⟨go, N, less, each⟩
  · refine thnF (T.done B rfl rfl rfl calm i [] t τ G (fun _ _ => False) IG (fok IG nG) tG stop) fun r t1 ⟨er, I1⟩ => ?_
    rw [er]
    exact fin I1 z
  refine thnF (T.item B rfl rfl rfl calm i [] t τ G (fun _ _ => False) IG (fok IG nG) tG go) fun r t1 ⟨u, er, h1⟩ => ?_
  rw [er]
  refine thnF h1 fun _ t2 ⟨x, G2, I2, rx, y2, tn2, n2⟩ => ?_
  have I2p : Inv B ([] ++ pinsAt fp t2.heap) τ G2 t2 := I2.pinned (fok I2 n2) (T.obj _ _ tn2)
  have next : ∀ {t' : Shared} {ρ : L2.St} {G' : Hp} {j : Nat}, Inv B ([] ++ pinsAt fp t2.heap) ρ G' t' → wipe ρ vs = τ → W (i + 1) j G' → ∃ i G, Inv B [] τ G t' ∧ tn i t'.heap ∧ (∀ b ∈ fp, G b = none) ∧ W i j G := fun {t' ρ G' j} I' ew w' => by
    have still : ∀ b ∈ fp, ∀ o, t2.heap.get? b = some o → t'.heap.get? b = some o ∧ G' b = none := fun b hb o e => by
      have p := I'.pin (b, o) (List.mem_append_right _ (List.mem_append_right _ (mem_pinsAt hb e)))
      exact ⟨p.1, p.2.1⟩
    refine ⟨i + 1, G', Inv.weak (I'.unpinned (pins := [])) (by rw [← ew, wipe_length]) (fun a v e => ?_), ?_, fun b hb => ?_, w'⟩
    · exact (wipe_some (ew ▸ e)).1
    · exact T.keep _ _ _ tn2 fun b hb o e => (still b hb o e).1
    · obtain ⟨o, e, _⟩ := T.obj _ _ tn2 b hb
      exact (still b hb o e).2
  have R1 := pg.run _ t2 _ G2 x u _ I2p rx (each x G2 y2)
  rw [hx] at R1
  refine thnF R1 fun _ t3 ⟨ρ, G3, I3, ew, q3⟩ => ?_
  have R2 := pt.run _ t3 ρ G3 _ I3 q3
  rw [hx] at R2
  refine thnF R2 fun b t4 ⟨G4, I4, q4⟩ => ?_
  dsimp only at q4
  by_cases hb : b = true
  · rw [if_pos hb] at q4 ⊢
    have R3 := pe.run _ t4 ρ G4 _ I4 q4
    rw [hx] at R3
    refine thnF R3 fun v t5 ⟨y, G5, I5, ry, k, S, n, ey, hD, room, w5⟩ => ?_
    obtain ⟨j, hj, w'⟩ := less _ w5
    have R4 := mt_saddK (X := B) _ t5 ρ G5 (.ref D) [kV k] (.ref D) [v] (fun r H' => r = .non ∧ H' = upd G5 D (SetK B.prog B.w D (fun j => S j || decide (j = k)) (if S k = true then n else n + 1))) I5 rfl (.cons (ey ▸ ry) .nil) ⟨D, k, S, n, rfl, rfl, hD, room, rfl, rfl⟩
    rw [hx] at R4
    refine thnF R4 fun _ t6 ⟨r, G6, I6, _, _, e6⟩ => ?_
    subst e6
    exact ⟨j, hj, next I6 ew w'⟩
  · rw [if_neg hb] at q4 ⊢
    obtain ⟨j, hj, w'⟩ := less _ q4
    exact ⟨j, hj, next I4 ew w'⟩
end
/-- {elt for target in iter if ..}: D is the new set, hollow at first -/
def tSetC (P : Program) (w : World) (wi : TI) (g : TG) (tt : TT) (te : TE) (vs : List Nat) : TE := fun σ H Q => wi σ H fun J H1 => ∀ D, H1 D = none → ∃ (W : Nat → Nat → Hp → Prop) (m : Nat), W 0 m (upd H1 D (SetK P w D (fun _ => false) 0)) ∧ Due P w J g tt te (wipe σ vs) vs D W (Q (.ref D))
section
variable {X : Cx} {elt tg iter : Expr} {ifs : List Expr} {scope : Scope} {own : List (PySem.Str × Nat)} {pos : Pos} {wi : TI} {g : TG} {tt : TT} {te : TE}
theorem set_hollow {w : World} {P : Program} {H : Hp} (h : Heap) (a : Addr) (e : a = h.objs.size) : ObjOk P w H (h.push { cls := .type "set", dict := none, data := .set #[] 0 (.fresh 0 0 (!w.params.followText "set-order")) }) a (SetK P w a (fun _ => false) 0) := by
  subst e
  refine setK_new ⟨_, #[], 0, _, Heap.get?_push_size _ rfl, ⟨rfl, rfl, rfl⟩, rfl, (fun e he => by simp at he), (fun k => by simp), (by decide), (by rfl), rfl⟩
theorem pe_setc (calm : X.calm = true) (nd : X.N.Nodup) (ok : BlkOk X.N X.env.scope scope own) (hi : PI X tg iter wi)
    (hg : ∀ (s : Shared) (H : Hp) (C : Addr) (cl : List (PySem.Str × Addr)) (fp : List Addr), PG (X.blk s H scope (compEnvC scope cl C X.env) fp) tg g) (ht : ∀ (s : Shared) (H : Hp) (C : Addr) (cl : List (PySem.Str × Addr)) (fp : List Addr), PTs (X.blk s H scope (compEnvC scope cl C X.env) fp) ifs tt)
    (he : ∀ (s : Shared) (H : Hp) (C : Addr) (cl : List (PySem.Str × Addr)) (fp : List Addr), PE (X.blk s H scope (compEnvC scope cl C X.env) fp) elt te) (hs : ∀ x, foldedSetIterable iter X.env x = pure x := by intro _; rfl) :
    PE X (.SetComp elt [⟨tg, iter, ifs, 0⟩] scope pos) (tSetC X.prog X.w wi g tt te (own.map (·.2))) := by
  refine ⟨fun pins s σ H Q I h => ?_⟩
  rw [eval_SetComp]
  have clo : closureFor scope X.env = pure (cloFrom X.env.cells scope.names []) := closure_ok fun y hy e => (ok.free y hy e).elim (fun k => I.ok.has _ (.inl k)) fun k => I.ok.has _ (.inr k)
  refine wpAny_comprehension_free (use := none) rfl hs clo ok.kind (fun y hy e => e ▸ ok.uniq y hy) (thn (hi.run pins s σ H _ I h) fun _ _ h1 => thn h1 fun _ s2 ⟨it, fp, tn, J, H2, ev, I2, T, t0, f2, q⟩ => ?_)
  subst ev
  refine newSet_ok (newEnv_comp ?_)
  obtain ⟨W, m, w0, due⟩ := q s2.heap.objs.size (I2.hok.fresh (Nat.le_refl _))
  have lay : ∃ D H3 s3, D = s2.heap.objs.size ∧ H3 = upd H2 D (SetK X.prog X.w D (fun _ => false) 0) ∧ s3 = ({ s2 with heap := s2.heap.push { cls := .type "set", dict := none, data := .set #[] 0 (.fresh 0 0 (!X.w.params.followText "set-order")) } } : Shared) := ⟨_, _, _, rfl, rfl, rfl⟩
  obtain ⟨D, H3, s3, eD, eH, es⟩ := lay
  rw [← eD, ← eH] at w0
  rw [← eD] at due
  rw [← eD, ← es]
  have kept : ∀ b o, s2.heap.get? b = some o → s3.heap.get? b = some o := fun b o e => by rw [es]; exact Heap.get?_push_of_some _ e
  have I3 : Inv X pins σ H3 s3 := by
    rw [eH, es, eD]
    exact I2.laid (t' := s2.toks) (fun b o e => Heap.get?_push_of_some _ e) (Nat.le_refl _) (set_hollow _ _ rfl)
  have small : ∀ b ∈ fp, b < s2.heap.objs.size := fun b hb => (T.obj _ _ t0 b hb).elim fun o z => Heap.lt_size z.1
  have f3 : ∀ b ∈ fp, FpOk X pins H3 b ∧ b < s3.heap.objs.size := fun b hb => by
    refine ⟨⟨?_, (f2 b hb).2⟩, ?_⟩
    · rw [eH, upd_ne (by rw [eD]; exact Nat.ne_of_lt (small b hb))]
      exact (f2 b hb).1
    · rw [es]
      show b < (s2.heap.push _).objs.size
      rw [Heap.size_push]
      exact Nat.lt_succ_of_lt (small b hb)
  have I4 := block_start I3 ok nd f3
  have tn4 : tn 0 (pushCells (s3.heap.push { cls := .type "dict", data := .dict #[] }) scope.names) := T.keep _ _ _ t0 fun b _ o e => pushCells_keeps _ _ _ _ (Heap.get?_push_of_some _ (kept b o e))
  refine codeAny_compStart_set ?_ (T.self X.A 0 _ _ _ tn4 ?_)
  all_goals
    refine due_loop (B := X.blk s3 H3 scope (compEnvC scope (cellsFrom (s3.heap.objs.size + 1) scope.names (cloFrom X.env.cells scope.names [])) s3.heap.objs.size X.env) fp) calm rfl T (hg ..) (ht ..) (he ..) (fun {σ' H' s'} I' n b hb => ?_) due (fun {s' H'} I' z => ?_) I4 tn4 (fun b hb => (f3 b hb).1.1) w0
    · exact ⟨n b hb, (I'.ok.exf b hb).1, I'.ok.exfs b hb, .inl hb, fun x c e => (I'.ok.exf b hb).2 x c e, fun p hp => nomatch (show p ∈ ([] : List (Addr × Obj)) from hp)⟩
    · have nC : H' s3.heap.objs.size = none := I'.free
      have back : Inv X pins σ H' s' := I3.call' (ch := fp) I'.os I'.base I'.hok I'.bare fun b hb => ⟨(f3 b hb).1.2.2.2.1, (f3 b hb).1.2.1, (f3 b hb).1.2.2.2.2.1, (f3 b hb).1.2.2.2.2.2⟩
      obtain ⟨j, hj, _⟩ := I'.loc
      refine ⟨j, hj, fun h2 sb => ?_⟩
      obtain ⟨c0, c1, c2, c3, c4, c5⟩ := I3.fpOk (Nat.le_refl _) nC
      exact ⟨.ref D, H', back.turned (t' := s'.toks) (fun b o hb e => (sb.2 b hb).trans e) c0 c1 c3 c4 c5, rfl, z⟩
/-- over a tuple -/
theorem setc_tup {P : Program} {w : World} {K : PySem.W.Frag} {a : Addr} {xs : List V} {g : TG} {tt : TT} {te : TE} {τ : L2.St} {vs : List Nat} {H1 : Hp} {D : Addr} {Z : Hp → Prop} (Pv : Nat → Hp → Prop) (first : Pv 0 (upd H1 D (SetK P w D (fun _ => false) 0))) (there : ∀ i H, i ≤ xs.length → Pv i H → SqT K H a xs)
    (step : ∀ i x H, xs[i]? = some x → Pv i H → g x τ H fun ρ H2 => wipe ρ vs = τ ∧ tt ρ H2 fun b H3 => if b = true then te ρ H3 fun y H4 => ∃ (k : Key) (S : Key → Bool) (n : Nat), y = kV k ∧ H4 D = some (SetK P w D S n) ∧ n + 1 < scanBound ∧
      Pv (i + 1) (upd H4 D (SetK P w D (fun j => S j || decide (j = k)) (if S k = true then n else n + 1))) else Pv (i + 1) H3) (last : ∀ H, Pv xs.length H → Z H) :
    ∃ (W : Nat → Nat → Hp → Prop) (m : Nat), W 0 m (upd H1 D (SetK P w D (fun _ => false) 0)) ∧ Due P w (Itt K a) g tt te τ vs D W Z := by
  refine ⟨fun i m H => i + m = xs.length ∧ Pv i H, xs.length, ⟨Nat.zero_add _, first⟩, fun i m H ⟨em, p⟩ => ?_⟩
  have sq := there i H (by omega) p
  cases m with
  | zero =>
    have ei : i = xs.length := em
    exact .inl ⟨⟨xs, sq, Nat.le_of_eq ei.symm⟩, last H (ei ▸ p)⟩
  | succ m =>
    have lt : i < xs.length := by omega
    refine .inr ⟨⟨xs, xs[i], sq, List.getElem?_eq_getElem lt⟩, Pv (i + 1), fun G q => ⟨m, Nat.lt_succ_self m, by omega, q⟩, fun x H' ⟨eH, y⟩ => ?_⟩
    rw [eH]
    exact step i x H (y xs sq) p
/-- len of such a set -/
def rLenK (P : Program) (w : World) : List V → Hp → VK → Prop := fun xs H Q => ∃ a S n, xs = [V.ref a] ∧ H a = some (SetK P w a S n) ∧ n < 1000000 ∧ Q (.int (n : Int)) H
theorem cr_lenK : CallR X (.builtin "len") (rLenK X.prog X.w) := by
  intro pins s σ H xs us Q I r ⟨a, S, n, e, ha, small, q⟩
  subst e
  obtain ⟨u, rfl, ru⟩ := vals1 r
  obtain rfl : u = Value.ref a := ru
  obtain ⟨o, es, ep, t, ho, hex, hd, _, _, _, hf, hn⟩ := setK_get I ha
  refine call_len_set ho hex hd hf (by omega) ⟨.int (n : Int), H, I.tok _, ⟨_, by rw [hn]⟩, q⟩
end
end CS
set_option Elab.async false
set_option maxRecDepth 100000
set_option maxHeartbeats 8000000
set_option linter.unusedVariables false
set_option pp.maxSteps 400
/-! tables of steps in the heap -/
namespace CS
open PySem L2
/-- a step: from where, to where, how much -/
abbrev Stp := Int × Int × Fx
/-- refs to steps -/
inductive StsAt (K : PySem.W.Frag) (H : Hp) : List V → List Stp → Prop where
  | nil : StsAt K H [] []
  | cons {q r : Addr} {x y : Int} {u : Fx} {vs : List V} {ts : List Stp} (h1 : SqT K H q [.int x, .int y, .ref r]) (h2 : FT K H r u) (h3 : StsAt K H vs ts) : StsAt K H (.ref q :: vs) ((x, y, u) :: ts)
def TbAt (K : PySem.W.Frag) (H : Hp) (p : Addr) (ts : List Stp) : Prop := ∃ vs, SqT K H p vs ∧ StsAt K H vs ts
def stpD (a : Stp) : PyData := .tuple [.int a.1, .int a.2.1, .tuple [.int a.2.2.1, .int a.2.2.2]]
section
variable {K : PySem.W.Frag} {H H' : Hp}
theorem StsAt.tk (e : TK K H H') : ∀ {vs : List V} {ts : List Stp}, StsAt K H vs ts → StsAt K H' vs ts
  | _, _, .nil => .nil
  | _, _, .cons a b c => .cons (e _ _ a) (e _ _ b) (StsAt.tk e c)
theorem TbAt.tk {p : Addr} {ts : List Stp} (e : TK K H H') (h : TbAt K H p ts) : TbAt K H' p ts := by
  obtain ⟨vs, a, b⟩ := h
  exact ⟨vs, e _ _ a, b.tk e⟩
theorem StsAt.len : ∀ {vs : List V} {ts : List Stp}, StsAt K H vs ts → vs.length = ts.length
  | _, _, .nil => rfl
  | _, _, .cons _ _ c => by simp [c.len]
theorem StsAt.get : ∀ {vs : List V} {ts : List Stp} {i : Nat} {v : V}, StsAt K H vs ts → vs[i]? = some v → ∃ q r x y u, v = .ref q ∧ ts[i]? = some (x, y, u) ∧ SqT K H q [.int x, .int y, .ref r] ∧ FT K H r u
  | _, _, 0, _, .cons a b c, e => by
    cases e
    exact ⟨_, _, _, _, _, rfl, rfl, a, b⟩
  | _, _, i + 1, _, .cons a b c, e => by
    obtain ⟨q, r, x, y, u, h1, h2, h3, h4⟩ := StsAt.get c (by simpa using e)
    exact ⟨q, r, x, y, u, h1, by simpa using h2, h3, h4⟩
theorem StsAt.app {vs ws : List V} {ts us : List Stp} (a : StsAt K H vs ts) (b : StsAt K H ws us) : StsAt K H (vs ++ ws) (ts ++ us) := by
  induction a with
  | nil => exact b
  | cons h1 h2 h3 ih => exact .cons h1 h2 ih
theorem StsAt.dp : ∀ {vs : List V} {ts : List Stp}, StsAt K H vs ts → DpAll K H vs (ts.map stpD)
  | _, _, .nil => .nil
  | _, _, .cons a b c => .cons (.tup a (.cons (.int _) (.cons (.int _) (.cons (.tup b (.cons (.int _) (.cons (.int _) .nil))) .nil)))) c.dp
end
/-! what a table must be -/
def GoodT (a : Stp) : Prop := -100 ≤ a.1 ∧ a.1 ≤ 100 ∧ -100 ≤ a.2.1 ∧ a.2.1 ≤ 100 ∧ Fr a.2.2 ∧ 0 < a.2.2.1
instance (a : Stp) : Decidable (GoodT a) := by unfold GoodT; infer_instance
/-- the first pair ahead of the second -/
def PrLt (a b : Int × Int) : Prop := a.1 < b.1 ∨ (a.1 = b.1 ∧ a.2 < b.2)
instance (a b : Int × Int) : Decidable (PrLt a b) := by unfold PrLt; infer_instance
def drifts (ts : List Stp) : List (Int × Fx) := ts.map fun a => (a.1, scl a.2.2 (a.2.1 - a.1))
def starts (ts : List Stp) : List (Int × Fx) := ts.map fun a => (a.1, a.2.2)
def ends (ts : List Stp) : List (Int × Fx) := ts.map fun a => (a.2.1, a.2.2)
def spots (ts : List Stp) : List (Int × Int) := ts.map fun a => (a.1, a.2.1)
/-- how many numbers there are among ns -/
def manyOf (ns : List Int) : Nat := (ns.foldl (fun (l : List Int) n => if n ∈ l then l else n :: l) []).length
structure Tab (ts : List Stp) : Prop where
  few : ts.length ≤ 16
  good : ∀ a ∈ ts, GoodT a
  small : ∀ a ∈ ts, Sz 80 a.2.2
  asc : (spots ts).Pairwise PrLt
  from8 : ∃ L : List Int, L.length ≤ 8 ∧ ∀ a ∈ ts, a.1 ∈ L
  to8 : ∃ L : List Int, L.length ≤ 8 ∧ ∀ a ∈ ts, a.2.1 ∈ L
  fair : ∀ k, lk (gat [] (drifts ts)) k = (0, 1)
theorem drift_abs {a : Stp} (h : GoodT a) : (a.2.1 - a.1).natAbs < 2 ^ 8 := by
  unfold GoodT at h
  have : (2 : Nat) ^ 8 = 256 := rfl
  omega
theorem Tab.drifts_all {ts : List Stp} (h : Tab ts) : AllF 90 (drifts ts) := fun a ha => by
  obtain ⟨b, hb, rfl⟩ := List.mem_map.mp ha
  have g := h.good b hb
  exact ⟨scl_fr g.2.2.2.2.1 _, (scl_sz g.2.2.2.2.1 (h.small b hb) (drift_abs g)).up (by decide)⟩
theorem Tab.starts_all {ts : List Stp} (h : Tab ts) : AllF 90 (starts ts) := fun a ha => by
  obtain ⟨b, hb, rfl⟩ := List.mem_map.mp ha
  exact ⟨(h.good b hb).2.2.2.2.1, (h.small b hb).up (by decide)⟩
theorem Tab.ends_all {ts : List Stp} (h : Tab ts) : AllF 90 (ends ts) := fun a ha => by
  obtain ⟨b, hb, rfl⟩ := List.mem_map.mp ha
  exact ⟨(h.good b hb).2.2.2.2.1, (h.small b hb).up (by decide)⟩
/-- nothing is left where each sum is nought -/
theorem isS_nil {f r : List (Int × Fx)} (h : IsS f r) (z : ∀ k, lk f k = (0, 1)) : r = [] := by
  cases r with
  | nil => rfl
  | cons a r =>
    have := (h.2 a.1 a.2).mp (by simp)
    rw [z] at this
    exact absurd this.1.symm this.2
theorem pr_lex (a b : Int × Int) : HT.lexLt [a.1, a.2] [b.1, b.2] = decide (PrLt a b) := by
  unfold PrLt
  by_cases h1 : a.1 = b.1
  · by_cases h2 : a.2 = b.2
    · simp [HT.lexLt, h1, h2]
    · simp [HT.lexLt, h1, h2]
  · simp [HT.lexLt, h1]
end CS
set_option Elab.async false
set_option maxRecDepth 100000
set_option maxHeartbeats 8000000
set_option linter.unusedVariables false
set_option pp.maxSteps 400
namespace CS
open PySem L2
/-- refs to pairs of numbers -/
inductive PtsAt (K : PySem.W.Frag) (H : Hp) : List V → List (Int × Int) → Prop where
  | nil : PtsAt K H [] []
  | cons {q : Addr} {a : Int × Int} {vs : List V} {ps : List (Int × Int)} (h1 : SqT K H q [.int a.1, .int a.2]) (h2 : PtsAt K H vs ps) : PtsAt K H (.ref q :: vs) (a :: ps)
section
variable {K : PySem.W.Frag} {H H' H4 : Hp} {D : Addr}
theorem PtsAt.tk (e : TK K H H') : ∀ {vs : List V} {ps : List (Int × Int)}, PtsAt K H vs ps → PtsAt K H' vs ps
  | _, _, .nil => .nil
  | _, _, .cons a b => .cons (e _ _ a) (PtsAt.tk e b)
theorem PtsAt.len : ∀ {vs : List V} {ps : List (Int × Int)}, PtsAt K H vs ps → vs.length = ps.length
  | _, _, .nil => rfl
  | _, _, .cons _ c => by simp [c.len]
theorem PtsAt.at : ∀ {vs : List V} {ps : List (Int × Int)} {i : Nat} {v : V}, PtsAt K H vs ps → vs[i]? = some v → ∃ q a, v = .ref q ∧ ps[i]? = some a ∧ SqT K H q [.int a.1, .int a.2]
  | _, _, 0, _, .cons a b, e => by
    cases e
    exact ⟨_, _, rfl, rfl, a⟩
  | _, _, i + 1, _, .cons a c, e => by
    obtain ⟨q, b, h1, h2, h3⟩ := PtsAt.at c (by simpa using e)
    exact ⟨q, b, h1, by simpa using h2, h3⟩
theorem PtsAt.app {vs ws : List V} {ps qs : List (Int × Int)} (a : PtsAt K H vs ps) (b : PtsAt K H ws qs) : PtsAt K H (vs ++ ws) (ps ++ qs) := by
  induction a with
  | nil => exact b
  | cons h1 h2 ih => exact .cons h1 ih
/-- a list of pairs of numbers that is being made at D -/
def LcQ (K : PySem.W.Frag) (H : Hp) (D : Addr) (zs : List (Int × Int)) (H' : Hp) : Prop := ∃ ws, H' D = some (.lst ws) ∧ Same H H' ∧ PtsAt K H' ws zs
theorem LcQ.start (h : H D = none) : LcQ K H D [] (upd H D (.lst [])) := ⟨[], upd_same, Same.new h, .nil⟩
theorem LcQ.step {zs : List (Int × Int)} {ws : List V} {q : Addr} {a : Int × Int} (h0 : H D = none) (h1 : H4 D = some (.lst ws)) (s : Same H H4) (f : PtsAt K H4 ws zs) (hq : SqT K H4 q [.int a.1, .int a.2]) : LcQ K H D (zs ++ [a]) (upd H4 D (.lst (ws ++ [.ref q]))) :=
  ⟨_, upd_same, same_upd h0 s, (f.app (.cons hq .nil)).tk (tk_lst h1)⟩
end
section
variable {P : Program} {w : World} {K : PySem.W.Frag} {mg : Str → Option Value} {base : Heap}
def spStep (K : PySem.W.Frag) : Sp := fun vs H Q _ => ∃ q r a, vs = [.ref q] ∧ SqT K H q [.int a.1, .int a.2.1, .ref r] ∧ FT K H r a.2.2 ∧ GoodT a ∧ Q (.bl true) H
theorem scIsStep : FnScope ["thing"] ["thing"] (defScope sIsStep) := ⟨rfl, rfl, rfl, by decide +kernel, rfl, by decide +kernel, by decide +kernel⟩
theorem ok_is_step {f f1 f2 f3 : Addr} {fd fd1 fd2 fd3 : FuncData} (F : Df K mg "is_step" sIsStep ["thing"] f fd) (D1 : Df K mg "is_row_of" sIsRowOf ["thing", "many"] f1 fd1) (G1 : FnOk P w K mg base CX0 2 f1 fd1 ["thing", "many"] (spRowOf K)) (D2 : Df K mg "is_number" sIsNumber ["thing"] f2 fd2) (G2 : FnOk P w K mg base CX0 3 f2 fd2 ["thing"] spNum)
    (D3 : Df K mg "is_weight" sIsWeight ["thing"] f3 fd3) (G3 : FnOk P w K mg base CX0 4 f3 fd3 ["thing"] (spWt K)) : FnOk P w K mg base CX0 5 f fd ["thing"] (spStep K) := by
  refine F.F.ok scIsStep (fun vs H Q E h => ?_) (fun cdv A outer s H vs Q E hr h => ?_)
  · obtain ⟨q, r, a, rfl, _⟩ := h
    rfl
  · obtain ⟨q, r, a, rfl, hq, hu, g, k⟩ := h
    refine ⟨_, pss_one (ps_ret (pe_and (pe_call G1 (hr.mono (by decide)) (by rfl) D1.g D1.F.kp D1.b .nil pass0 (pa_cons (pv 0) (pa_cons pe_int pa_nil))) (pe_and (pe_call G2 (hr.mono (by decide)) (by rfl) D2.g D2.F.kp D2.b .nil pass0 (pa_cons (pe_ix ix_tup (pv 0) pe_int (fun _ _ => rfl)) pa_nil))
      (pe_and (pe_call G2 (hr.mono (by decide)) (by rfl) D2.g D2.F.kp D2.b .nil pass0 (pa_cons (pe_ix ix_tup (pv 0) pe_int (fun _ _ => rfl)) pa_nil)) (pe_one (pe_call G3 hr (by rfl) D3.g D3.F.kp D3.b .nil pass0 (pa_cons (pe_ix ix_tup (pv 0) pe_int (fun _ _ => rfl)) pa_nil))))))), ?_⟩
    obtain ⟨g1, g2, g3, g4, g5, g6⟩ := g
    refine ⟨_, rfl, q, _, 3, rfl, hq, _, rfl, iteT ?_⟩
    refine ⟨_, rfl, q, _, 0, _, rfl, rfl, hq, atI_nat (j := 0) rfl, _, rfl, _, rfl, iteTe (decide_eq_true ⟨g1, g2⟩) ?_⟩
    refine ⟨_, rfl, q, _, 1, _, rfl, rfl, hq, atI_nat (j := 1) rfl, _, rfl, _, rfl, iteTe (decide_eq_true ⟨g3, g4⟩) ?_⟩
    refine ⟨_, rfl, q, _, 2, _, rfl, rfl, hq, atI_nat (j := 2) rfl, r, a.2.2, rfl, hu, ?_⟩
    rw [decide_eq_true (show Fr a.2.2 ∧ 0 < a.2.2.1 from ⟨g5, g6⟩)]
    exact k
def spAscQ (K : PySem.W.Frag) : Sp := fun vs H Q _ => ∃ (a : Addr) (ws : List V) (ps : List (Int × Int)), vs = [.ref a] ∧ SqL K H a ws ∧ PtsAt K H ws ps ∧ ps.length ≤ 900 ∧ ps.Pairwise PrLt ∧ ∀ H', Same H H' → Q (.bl true) H'
theorem pr_next : ∀ {ps : List (Int × Int)} {i : Nat} {a b : Int × Int}, ps.Pairwise PrLt → ps[i]? = some a → ps[i + 1]? = some b → PrLt a b
  | _ :: ps, 0, a, b, h, h1, h2 => by
    cases h1
    exact (List.pairwise_cons.mp h).1 b (List.mem_of_getElem? (by simpa using h2))
  | _ :: ps, i + 1, a, b, h, h1, h2 => pr_next (List.pairwise_cons.mp h).2 (by simpa using h1) (by simpa using h2)
theorem ok_ascendsQ {f : Addr} {fd : FuncData} (F : Df K mg "ascends" sAscends ["things"] f fd) (T : Bt mg) : FnOk P w K mg base CX0 1 f fd ["things"] (spAscQ K) := by
  refine F.F.ok scAscends (fun vs H Q E h => ?_) (fun cdv A outer s H vs Q E hr h => ?_)
  · obtain ⟨a, ws, ps, rfl, _⟩ := h
    rfl
  · obtain ⟨a, ws, ps, rfl, hS, hP, hlen, asc, k⟩ := h
    refine ⟨_, pss_one (ps_ret (pe_callB (cr_all rfl) (by rfl) T.all (by decide +kernel) (pa_cons (pe_lc (own := [("low", 1), ("high", 2)]) (g := gTup K 2 (gCons (gName 1) (gCons (gName 2) gNil))) (tt := tYes) rfl scAscends.nd (pi_zip (by rfl) T.zip (pa_cons (pv 0) (pa_cons (pe_slice sl_list (pv 0) (po_some pe_int) po_none) pa_nil))) (blkOk_by (N := ["things", "low", "high"]) (sc := defScope sAscends) (by decide +kernel)) (fun _ _ _ _ _ => pg_tup rfl (pgs_cons (pg_name (i := 1) scAscends.nd rfl (Or.inl rfl)) (pgs_cons (pg_name (i := 2) scAscends.nd rfl (Or.inl rfl)) pgs_nil))) (fun _ _ _ _ _ => pts_nil) (fun _ _ _ _ _ => pe_cmpR (r := rLtT K) (op_ltT (Nat.lt_of_le_of_lt (Nat.le_add_right _ 64) hr.units)) (pv 1) (pv 2) (nomark _))) pa_nil))), ?_⟩
    refine ⟨_, rfl, _, rfl, _, rfl, a, _, rfl, hS, fun b hb => ?_⟩
    rw [cut1]
    have k1 := Same.new (o := .lst (ws.drop 1)) hb
    have hB : (upd H b (.lst (ws.drop 1))) b = some (.lst (ws.drop 1)) := upd_same
    have hS1 := k1.seq hS
    generalize upd H b (.lst (ws.drop 1)) = H1 at *
    have hl := hP.len
    refine ⟨a, b, _, _, rfl, hS1, SqL.of hB, fun D hD => lc_it (walk_zip (xs := ws) (ys := ws.drop 1) (n := ws.length - 1) (by simp)) (fun i H' => H' D = some (.lst ((List.replicate i true).map V.bl)) ∧ Same H1 H') ⟨upd_same, Same.new hD⟩ (fun i H' _ ⟨_, s1⟩ => ⟨s1.seq hS1, SqL.of (s1 _ _ hB)⟩) ?_ ?_⟩
    · rintro i v H2 H3 hi ⟨h1, s1⟩ ⟨t, x, y, rfl, ht, rfl, hx, hy⟩
      dsimp only at hx hy
      rw [List.getElem?_drop, Nat.add_comm] at hy
      obtain ⟨qx, ax, rfl, ex, sx⟩ := hP.at hx
      obtain ⟨qy, ay, rfl, ey, sy⟩ := hP.at hy
      have lt : PrLt ax ay := pr_next asc ex ey
      have k2 := Same.new (o := .tup [V.ref qx, V.ref qy]) ht
      refine ⟨t, _, rfl, SqT.of upd_same, rfl, _, _, rfl, _, _, rfl, rfl, rfl, ?_⟩
      dsimp only [tYes]
      rw [if_pos rfl]
      have kk := k1.trans (s1.trans k2)
      refine ⟨_, rfl, _, rfl, qx, qy, [ax.1, ax.2], [ay.1, ay.2], rfl, rfl, kk.tup sx, kk.tup sy, _, k2 _ _ h1, small1000 ?_, ?_, ?_⟩
      · rw [List.length_map, List.length_replicate]; omega
      · rw [upd_same, pr_lex, decide_eq_true lt, List.replicate_succ', List.map_append]
        rfl
      · exact same_upd hD (s1.trans k2)
    · rintro H2 ⟨h1, s1⟩
      refine ⟨D, _, rfl, SqL.of h1, ?_⟩
      rw [show ((List.replicate (ws.length - 1) true).all id) = true by simp]
      exact k _ (k1.trans s1)
def spFair (K : PySem.W.Frag) : Sp := fun vs H Q _ => ∃ p ts, vs = [.ref p] ∧ TbAt K H p ts ∧ Tab ts ∧ ∀ H', Same H H' → Q (.bl true) H'
theorem scIsFair : FnScope ["steps", "x", "y", "weight"] ["steps"] (defScope sIsFair) := ⟨rfl, rfl, rfl, by decide +kernel, rfl, by decide +kernel, by decide +kernel⟩
theorem ok_is_fair {f f1 f2 : Addr} {fd fd1 fd2 : FuncData} (F : Df K mg "is_fair" sIsFair ["steps"] f fd) (D1 : Df K mg "gathered" sGathered ["pairs"] f1 fd1) (G1 : FnOk P w K mg base CX0 3 f1 fd1 ["pairs"] (spGatL K)) (D2 : Df K mg "scaled" sScaled ["fraction", "by"] f2 fd2) (G2 : FnOk P w K mg base CX0 2 f2 fd2 ["fraction", "by"] (spScaled K)) : FnOk P w K mg base CX0 4 f fd ["steps"] (spFair K) := by
  refine F.F.ok scIsFair (fun vs H Q E h => ?_) (fun cdv A outer s H vs Q E hr h => ?_)
  · obtain ⟨p, ts, rfl, _⟩ := h
    rfl
  · obtain ⟨p, ts, rfl, ⟨vs, hp, hP⟩, tab, k⟩ := h
    refine ⟨_, pss_one (ps_ret (pe_cmpR (op_eqD hr.units) (pe_call G1 hr (by rfl) D1.g D1.F.kp D1.b .nil pass0 (pa_cons (pe_lc (own := [("x", 1), ("y", 2), ("weight", 3)]) (g := gTup K 3 (gCons (gName 1) (gCons (gName 2) (gCons (gName 3) gNil)))) (tt := tYes) rfl scIsFair.nd (pi_tup (pv 0)) (blkOk_by (N := ["steps", "x", "y", "weight"]) (sc := defScope sIsFair) (by decide +kernel)) (fun _ _ _ _ _ => pg_tup rfl (pgs_cons (pg_name (i := 1) scIsFair.nd rfl (Or.inl rfl)) (pgs_cons (pg_name (i := 2) scIsFair.nd rfl (Or.inl rfl)) (pgs_cons (pg_name (i := 3) scIsFair.nd rfl (Or.inl rfl)) pgs_nil)))) (fun _ _ _ _ _ => pts_nil) (fun _ _ _ _ _ => pe_tup (pa_cons (pv 1) (pa_cons (pe_call G2 (hr.mono (by decide)) (by rfl) D2.g D2.F.kp D2.b .nil pass0 (pa_cons (pv 3) (pa_cons (pe_op op_sub (pv 2) (pv 1)) pa_nil))) pa_nil)))) pa_nil)) (pe_tup pa_nil) (nomark _))), ?_⟩
    refine ⟨_, rfl, p, rfl, ⟨_, hp⟩, fun D hD => lc_tup (K := K) (a := p) (xs := vs) (fun i H' => LcP K H D (drifts (ts.take i)) H') (LcP.start hD) (fun i H' _ ⟨_, _, s1, _⟩ => s1.tup hp) ?_ ?_⟩
    · rintro i v H' hi ⟨us, h1, s1, hf⟩
      obtain ⟨q, r, x, y, u, rfl, hti, hq, hu⟩ := hP.get hi
      have hi2 : i < ts.length := (List.getElem?_eq_some_iff.mp hti).1
      have hm := List.mem_of_getElem? hti
      have g := tab.good _ hm
      have l16 := tab.few
      refine ⟨q, _, rfl, s1.tup hq, rfl, _, _, rfl, _, _, rfl, _, _, rfl, rfl, rfl, ?_⟩
      dsimp only [tYes]
      rw [if_pos rfl]
      refine ⟨_, rfl, _, rfl, _, rfl, _, rfl, _, _, rfl, rfl, r, u, _, rfl, s1.tup hu, g.2.2.2.2.1, (tab.small _ hm).up (by decide), lt_up (drift_abs g) (by decide), fun t nt => ?_⟩
      have k1 := Same.new (o := .tup [V.int (scl u (y - x)).1, V.int (scl u (y - x)).2]) nt
      refine ⟨(by show 2 ≤ sizeLine; decide), fun t2 nt2 => ?_⟩
      have k2 := Same.new (o := .tup [V.int x, V.ref t]) nt2
      have kk := k1.trans k2
      refine ⟨us, kk _ _ h1, small1000 ?_, ?_⟩
      · rw [hf.len]
        unfold drifts
        rw [List.length_map, List.length_take]
        omega
      · show LcP K H D _ _
        unfold drifts
        rw [take_snoc hti, List.map_append]
        exact LcP.step hD (kk _ _ h1) (s1.trans kk) (hf.tk (tk_same kk)) (SqT.of upd_same) (k2.tup FT.new)
    · rintro H1 ⟨us, h1, s1, hf⟩
      rw [hP.len, List.take_length] at hf
      refine ⟨D, us, _, rfl, SqL.of h1, hf, tab.drifts_all, by unfold drifts; rw [List.length_map]; exact tab.few, fun H2 r ys s2 hr2 is => ?_⟩
      obtain rfl := isS_nil is tab.fair
      refine ⟨(by show 0 ≤ sizeLine; decide), fun t nt => ?_⟩
      have k3 := Same.new (o := .tup []) nt
      refine shEq (hr2.tk (tk_same k3)) ⟨[], SqT.of upd_same, .nil⟩ ?_
      rw [decide_eq_true rfl]
      exact k _ (s1.trans (s2.trans k3))
end
end CS
set_option Elab.async false
set_option maxRecDepth 100000
set_option maxHeartbeats 8000000
set_option linter.unusedVariables false
set_option pp.maxSteps 400
namespace CS
open PySem L2
/-- the set at D: the numbers of M, each once, each of L -/
def SetM (P : Program) (w : World) (D : Addr) (L : List Int) (H1 H : Hp) (ns : List Int) : Prop := ∃ (S : Key → Bool) (M : List Int), Same H1 H ∧ H D = some (SetK P w D S M.length) ∧ M.Nodup ∧ (∀ x ∈ M, x ∈ L) ∧ ∀ x : Int, S (.inl x) = decide (x ∈ M)
theorem SetM.start {P : Program} {w : World} {D : Addr} {L : List Int} {H : Hp} (n : H D = none) : SetM P w D L H (upd H D (SetK P w D (fun _ => false) 0)) [] :=
  ⟨fun _ => false, [], Same.new n, upd_same, List.nodup_nil, (fun x h => nomatch h), fun x => rfl⟩
theorem SetM.few {P : Program} {w : World} {D : Addr} {L : List Int} {H1 H : Hp} {ns : List Int} (h : SetM P w D L H1 H ns) : ∃ S n, H D = some (SetK P w D S n) ∧ n ≤ L.length ∧ Same H1 H := by
  obtain ⟨S, M, s, h1, nd, sub, _⟩ := h
  exact ⟨S, M.length, h1, nd_len nd sub, s⟩
theorem SetM.step {P : Program} {w : World} {D : Addr} {L : List Int} {H1 H : Hp} {ns : List Int} {x : Int} (n0 : H1 D = none) (h : SetM P w D L H1 H ns) (hx : x ∈ L) (few : L.length ≤ 8) :
    ∃ (S : Key → Bool) (n : Nat), H D = some (SetK P w D S n) ∧ n + 1 < scanBound ∧ SetM P w D L H1 (upd H D (SetK P w D (fun j => S j || decide (j = (Sum.inl x : Key))) (if S (.inl x) = true then n else n + 1))) (ns ++ [x]) := by
  obtain ⟨S, M, s, h1, nd, sub, mem⟩ := h
  have hl := nd_len nd sub
  refine ⟨S, M.length, h1, by unfold scanBound; omega, ?_⟩
  by_cases hm : x ∈ M
  · have e : S (.inl x) = true := by rw [mem]; exact decide_eq_true hm
    refine ⟨_, M, same_upd n0 s, by rw [upd_same, if_pos e], nd, sub, fun y => ?_⟩
    show (S (.inl y) || decide ((Sum.inl y : Key) = Sum.inl x)) = _
    rw [mem]
    by_cases h : y = x
    · subst h; simp [hm]
    · have : ¬ (Sum.inl y : Key) = Sum.inl x := fun z => h (Sum.inl.inj z)
      simp [this]
  · have e : ¬ S (.inl x) = true := by rw [mem]; simp [hm]
    refine ⟨_, x :: M, same_upd n0 s, by rw [upd_same, if_neg e]; rfl, List.nodup_cons.mpr ⟨hm, nd⟩, fun y hy => ?_, fun y => ?_⟩
    · rcases List.mem_cons.mp hy with z | z
      · exact z ▸ hx
      · exact sub y z
    · show (S (.inl y) || decide ((Sum.inl y : Key) = Sum.inl x)) = _
      rw [mem]
      by_cases h : y = x
      · subst h; simp
      · have : ¬ (Sum.inl y : Key) = Sum.inl x := fun z => h (Sum.inl.inj z)
        simp [this, h]
section
variable {P : Program} {w : World} {K : PySem.W.Frag} {mg : Str → Option Value} {base : Heap}
def spTable (K : PySem.W.Frag) : Sp := fun vs H Q _ => ∃ p ts, vs = [.ref p] ∧ TbAt K H p ts ∧ Tab ts ∧ ∀ H', Same H H' → Q (.bl true) H'
theorem scIsTable : FnScope ["thing", "step", "x", "y", "_"] ["thing"] (defScope sIsTable) := ⟨rfl, rfl, rfl, by decide +kernel, rfl, by decide +kernel, by decide +kernel⟩
theorem ok_is_table {f f1 f2 f3 f4 : Addr} {fd fd1 fd2 fd3 fd4 : FuncData} {t8 t64 : Tok} (F : Df K mg "is_table" sIsTable ["thing"] f fd) (D1 : Df K mg "is_row" sIsRow ["thing"] f1 fd1) (G1 : FnOk P w K mg base CX0 1 f1 fd1 ["thing"] (spRow K)) (D2 : Df K mg "is_step" sIsStep ["thing"] f2 fd2) (G2 : FnOk P w K mg base CX0 5 f2 fd2 ["thing"] (spStep K))
    (D3 : Df K mg "ascends" sAscends ["things"] f3 fd3) (G3 : FnOk P w K mg base CX0 1 f3 fd3 ["things"] (spAscQ K)) (D4 : Df K mg "is_fair" sIsFair ["steps"] f4 fd4) (G4 : FnOk P w K mg base CX0 4 f4 fd4 ["steps"] (spFair K)) (g8 : mg "MOST_PAIRS" = some (.int 8 t8)) (g64 : mg "MOST_STEPS" = some (.int 64 t64)) (T : Bt mg) : FnOk P w K mg base CX0 6 f fd ["thing"] (spTable K) := by
  refine F.F.ok scIsTable (fun vs H Q E h => ?_) (fun cdv A outer s H vs Q E hr h => ?_)
  · obtain ⟨p, ts, rfl, _⟩ := h
    rfl
  · obtain ⟨p, ts, rfl, ⟨vs, hp, hP⟩, tab, k⟩ := h
    obtain ⟨L1, L1l, L1m⟩ := tab.from8
    obtain ⟨L2', L2l, L2m⟩ := tab.to8
    refine ⟨_, pss_cons (ps_if (PW.pt (pw_or (pt_not (pt_val (pe_call G1 (hr.mono (by decide)) (by rfl) D1.g D1.F.kp D1.b .nil pass0 (pa_cons (pv 0) pa_nil)))) (pw_or1 (pt_cmpR op_gt (pe_callB call_len_seq (by rfl) T.len PySem.boot_len (pa_cons (pv 0) pa_nil)) (pe_glob (v := .int 64) (by rfl) g64 ⟨_, rfl⟩) (nomark _))))) (pss_one (ps_ret pe_bl)) pss_nil)
      (pss_cons (ps_if (pt_not (pt_val (pe_callB (cr_all rfl) (by rfl) T.all (by decide +kernel) (pa_cons (pe_lc (own := [("step", 1)]) (g := gName 1) (tt := tYes) rfl scIsTable.nd (pi_tup (pv 0)) (blkOk_by (N := ["thing", "step", "x", "y", "_"]) (sc := defScope sIsTable) (by decide +kernel)) (fun _ _ _ _ _ => pg_name (i := 1) scIsTable.nd rfl (Or.inl rfl)) (fun _ _ _ _ _ => pts_nil) (fun _ _ _ _ _ => pe_call G2 hr (by rfl) D2.g D2.F.kp D2.b .nil pass0 (pa_cons (pv 1) pa_nil))) pa_nil)))) (pss_one (ps_ret pe_bl)) pss_nil)
      (pss_cons (ps_if (pt_not (pt_val (pe_call G3 (hr.mono (by decide)) (by rfl) D3.g D3.F.kp D3.b .nil pass0 (pa_cons (pe_lc (own := [("x", 2), ("y", 3), ("_", 4)]) (g := gTup K 3 (gCons (gName 2) (gCons (gName 3) (gCons (gName 4) gNil)))) (tt := tYes) rfl scIsTable.nd (pi_tup (pv 0)) (blkOk_by (N := ["thing", "step", "x", "y", "_"]) (sc := defScope sIsTable) (by decide +kernel)) (fun _ _ _ _ _ => pg_tup rfl (pgs_cons (pg_name (i := 2) scIsTable.nd rfl (Or.inl rfl)) (pgs_cons (pg_name (i := 3) scIsTable.nd rfl (Or.inl rfl)) (pgs_cons (pg_name (i := 4) scIsTable.nd rfl (Or.inl rfl)) pgs_nil)))) (fun _ _ _ _ _ => pts_nil) (fun _ _ _ _ _ => pe_tup (pa_cons (pv 2) (pa_cons (pv 3) pa_nil)))) pa_nil)))) (pss_one (ps_ret pe_bl)) pss_nil)
      (pss_cons (ps_if (PW.pt (pw_or (pt_cmpR op_gt (pe_callB (r := rLenK P w) cr_lenK (by rfl) T.len PySem.boot_len (pa_cons (pe_setc (own := [("x", 2), ("_", 4)]) (g := gTup K 3 (gCons (gName 2) (gCons (gName 4) (gCons (gName 4) gNil)))) (tt := tYes) (te := tVar 2) rfl scIsTable.nd (blkOk_by (N := ["thing", "step", "x", "y", "_"]) (sc := defScope sIsTable) (by decide +kernel)) (pi_tup (pv 0)) (fun _ _ _ _ _ => pg_tup rfl (pgs_cons (pg_name (i := 2) scIsTable.nd rfl (Or.inl rfl)) (pgs_cons (pg_name (i := 4) scIsTable.nd rfl (Or.inl rfl)) (pgs_cons (pg_name (i := 4) scIsTable.nd rfl (Or.inl rfl)) pgs_nil)))) (fun _ _ _ _ _ => pts_nil) (fun _ _ _ _ _ => pv 2)) pa_nil)) (pe_glob (v := .int 8) (by rfl) g8 ⟨_, rfl⟩) (nomark _))
          (pw_or1 (pt_cmpR op_gt (pe_callB (r := rLenK P w) cr_lenK (by rfl) T.len PySem.boot_len (pa_cons (pe_setc (own := [("_", 4), ("y", 3)]) (g := gTup K 3 (gCons (gName 4) (gCons (gName 3) (gCons (gName 4) gNil)))) (tt := tYes) (te := tVar 3) rfl scIsTable.nd (blkOk_by (N := ["thing", "step", "x", "y", "_"]) (sc := defScope sIsTable) (by decide +kernel)) (pi_tup (pv 0)) (fun _ _ _ _ _ => pg_tup rfl (pgs_cons (pg_name (i := 4) scIsTable.nd rfl (Or.inl rfl)) (pgs_cons (pg_name (i := 3) scIsTable.nd rfl (Or.inl rfl)) (pgs_cons (pg_name (i := 4) scIsTable.nd rfl (Or.inl rfl)) pgs_nil)))) (fun _ _ _ _ _ => pts_nil) (fun _ _ _ _ _ => pv 3)) pa_nil)) (pe_glob (v := .int 8) (by rfl) g8 ⟨_, rfl⟩) (nomark _))))) (pss_one (ps_ret pe_bl)) pss_nil)
      (pss_one (ps_ret (pe_call G4 (hr.mono (by decide)) (by rfl) D4.g D4.F.kp D4.b .nil pass0 (pa_cons (pv 0) pa_nil))))))), ?_⟩
    have l16 := tab.few
    have hl := hP.len
    refine ⟨_, rfl, p, _, rfl, hp, _, rfl, iteF ?_⟩
    refine ⟨_, rfl, p, _, rfl, .inr hp, _, _, rfl, rfl, _, rfl, iteFe (decide_eq_false (by omega)) ?_⟩
    refine ⟨_, rfl, p, rfl, ⟨_, hp⟩, fun D hD => lc_tup (K := K) (a := p) (xs := vs) (fun i H' => H' D = some (.lst ((List.replicate i true).map V.bl)) ∧ Same H H') ⟨upd_same, Same.new hD⟩ (fun i H' _ ⟨_, s1⟩ => s1.tup hp) ?_ ?_⟩
    · rintro i v H' hi ⟨h1, s1⟩
      obtain ⟨q, r, x, y, u, rfl, hti, hq, hu⟩ := hP.get hi
      have hi2 : i < ts.length := (List.getElem?_eq_some_iff.mp hti).1
      refine ⟨rfl, ?_⟩
      dsimp only [tYes]
      rw [if_pos rfl]
      refine ⟨_, rfl, q, r, (x, y, u), rfl, s1.tup hq, s1.tup hu, tab.good _ (List.mem_of_getElem? hti), _, h1, small1000 ?_, ?_, same_upd hD s1⟩
      · rw [List.length_map, List.length_replicate]; omega
      · rw [upd_same, List.replicate_succ', List.map_append]
        rfl
    rintro H1 ⟨h1, s1⟩
    refine ⟨D, _, rfl, SqL.of h1, _, rfl, iteFe (by simp) ?_⟩
    have hp1 := s1.tup hp
    refine ⟨_, rfl, p, rfl, ⟨_, hp1⟩, fun D2 hD2 => lc_tup (K := K) (a := p) (xs := vs) (fun i H' => LcQ K H1 D2 (spots (ts.take i)) H') (LcQ.start hD2) (fun i H' _ ⟨_, _, s2, _⟩ => s2.tup hp1) ?_ ?_⟩
    · rintro i v H' hi ⟨us, h2, s2, hf⟩
      obtain ⟨q, r, x, y, u, rfl, hti, hq, hu⟩ := hP.get hi
      have hi2 : i < ts.length := (List.getElem?_eq_some_iff.mp hti).1
      refine ⟨q, _, rfl, (s1.trans s2).tup hq, rfl, _, _, rfl, _, _, rfl, _, _, rfl, rfl, rfl, ?_⟩
      dsimp only [tYes]
      rw [if_pos rfl]
      refine ⟨_, rfl, _, rfl, (by show 2 ≤ sizeLine; decide), fun t nt => ?_⟩
      have k2 := Same.new (o := .tup [V.int x, V.int y]) nt
      refine ⟨us, k2 _ _ h2, small1000 ?_, ?_⟩
      · rw [hf.len]
        unfold spots
        rw [List.length_map, List.length_take]
        omega
      · show LcQ K H1 D2 _ _
        unfold spots
        rw [take_snoc hti, List.map_append]
        exact LcQ.step (a := (x, y)) hD2 (k2 _ _ h2) (s2.trans k2) (hf.tk (tk_same k2)) (SqT.of upd_same)
    rintro H2 ⟨us, h2, s2, hf⟩
    rw [hl, List.take_length] at hf
    refine ⟨D2, us, _, rfl, SqL.of h2, hf, by unfold spots; rw [List.length_map]; omega, tab.asc, fun H3 s3 => ⟨_, rfl, iteF ?_⟩⟩
    have s03 := s1.trans (s2.trans s3)
    have hp3 := s03.tup hp
    refine ⟨_, rfl, p, rfl, ⟨_, hp3⟩, fun D3 hD3 => setc_tup (K := K) (a := p) (xs := vs) (fun i H' => SetM P w D3 L1 H3 H' ((ts.take i).map (·.1))) (SetM.start hD3) (fun i H' _ ⟨_, _, s4, _⟩ => s4.tup hp3) ?_ ?_⟩
    · rintro i v H' hi h4
      obtain ⟨q, r, x, y, u, rfl, hti, hq, hu⟩ := hP.get hi
      obtain ⟨S, n, e1, e2, e3⟩ := h4.step hD3 (L1m _ (List.mem_of_getElem? hti)) L1l
      obtain ⟨_, _, s4, _⟩ := h4
      refine ⟨q, _, rfl, (s03.trans s4).tup hq, rfl, _, _, rfl, _, _, rfl, _, _, rfl, rfl, rfl, ?_⟩
      dsimp only [tYes]
      rw [if_pos rfl]
      refine ⟨_, rfl, .inl x, S, n, rfl, e1, e2, ?_⟩
      show SetM P w D3 L1 H3 _ _
      rw [take_snoc hti, List.map_append]
      exact e3
    intro H4 h4
    obtain ⟨S, n, e1, e2, s4⟩ := h4.few
    refine ⟨D3, S, n, rfl, e1, by omega, _, _, rfl, rfl, _, rfl, iteFe (decide_eq_false (by omega)) ?_⟩
    have s04 := s03.trans s4
    have hp4 := s04.tup hp
    refine ⟨_, rfl, p, rfl, ⟨_, hp4⟩, fun D4 hD4 => setc_tup (K := K) (a := p) (xs := vs) (fun i H' => SetM P w D4 L2' H4 H' ((ts.take i).map (·.2.1))) (SetM.start hD4) (fun i H' _ ⟨_, _, s5, _⟩ => s5.tup hp4) ?_ ?_⟩
    · rintro i v H' hi h5
      obtain ⟨q, r, x, y, u, rfl, hti, hq, hu⟩ := hP.get hi
      obtain ⟨S5, n5, e1, e2, e3⟩ := h5.step hD4 (L2m _ (List.mem_of_getElem? hti)) L2l
      obtain ⟨_, _, s5, _⟩ := h5
      refine ⟨q, _, rfl, (s04.trans s5).tup hq, rfl, _, _, rfl, _, _, rfl, _, _, rfl, rfl, rfl, ?_⟩
      dsimp only [tYes]
      rw [if_pos rfl]
      refine ⟨_, rfl, .inl y, S5, n5, rfl, e1, e2, ?_⟩
      show SetM P w D4 L2' H4 _ _
      rw [take_snoc hti, List.map_append]
      exact e3
    intro H5 h5
    obtain ⟨S5, n5, e1, e2, s5⟩ := h5.few
    refine ⟨D4, S5, n5, rfl, e1, by omega, _, _, rfl, rfl, _, rfl, iteFe (decide_eq_false (by omega)) ?_⟩
    have s05 := s04.trans s5
    exact ⟨_, rfl, p, ts, rfl, ⟨vs, s05.tup hp, hP.tk (tk_same s05)⟩, tab, fun H6 s6 => k _ (s05.trans s6)⟩
end
end CS
set_option Elab.async false
set_option maxRecDepth 100000
set_option maxHeartbeats 8000000
set_option linter.unusedVariables false
set_option pp.maxSteps 400
namespace CS
open PySem L2
section
variable {P : Program} {w : World} {K : PySem.W.Frag} {mg : Str → Option Value} {base : Heap}
/-- one side of a table -/
def spSide (K : PySem.W.Frag) (side : List Stp → List (Int × Fx)) : Sp := fun vs H Q _ => ∃ p ts, vs = [.ref p] ∧ TbAt K H p ts ∧ Tab ts ∧ ∀ H' r xs, Same H H' → ShAt K H' r xs → IsS (gat [] (side ts)) xs → Q (.ref r) H'
theorem scStartShare : FnScope ["table", "x", "_", "weight"] ["table"] (defScope sStartShare) := ⟨rfl, rfl, rfl, by decide +kernel, rfl, by decide +kernel, by decide +kernel⟩
theorem ok_start_share {f f1 : Addr} {fd fd1 : FuncData} (F : Df K mg "start_share" sStartShare ["table"] f fd) (D1 : Df K mg "gathered" sGathered ["pairs"] f1 fd1) (G1 : FnOk P w K mg base CX0 3 f1 fd1 ["pairs"] (spGatL K)) : FnOk P w K mg base CX0 4 f fd ["table"] (spSide K starts) := by
  refine F.F.ok scStartShare (fun vs H Q E h => ?_) (fun cdv A outer s H vs Q E hr h => ?_)
  · obtain ⟨p, ts, rfl, _⟩ := h
    rfl
  · obtain ⟨p, ts, rfl, ⟨vs, hp, hP⟩, tab, k⟩ := h
    refine ⟨_, pss_one (ps_ret (pe_call G1 hr (by rfl) D1.g D1.F.kp D1.b .nil pass0 (pa_cons (pe_lc (own := [("x", 1), ("_", 2), ("weight", 3)]) (g := gTup K 3 (gCons (gName 1) (gCons (gName 2) (gCons (gName 3) gNil)))) (tt := tYes) rfl scStartShare.nd (pi_tup (pv 0)) (blkOk_by (N := ["table", "x", "_", "weight"]) (sc := defScope sStartShare) (by decide +kernel)) (fun _ _ _ _ _ => pg_tup rfl (pgs_cons (pg_name (i := 1) scStartShare.nd rfl (Or.inl rfl)) (pgs_cons (pg_name (i := 2) scStartShare.nd rfl (Or.inl rfl)) (pgs_cons (pg_name (i := 3) scStartShare.nd rfl (Or.inl rfl)) pgs_nil)))) (fun _ _ _ _ _ => pts_nil) (fun _ _ _ _ _ => pe_tup (pa_cons (pv 1) (pa_cons (pv 3) pa_nil)))) pa_nil))), ?_⟩
    refine ⟨_, rfl, p, rfl, ⟨_, hp⟩, fun D hD => lc_tup (K := K) (a := p) (xs := vs) (fun i H' => LcP K H D (starts (ts.take i)) H') (LcP.start hD) (fun i H' _ ⟨_, _, s1, _⟩ => s1.tup hp) ?_ ?_⟩
    · rintro i v H' hi ⟨us, h1, s1, hf⟩
      obtain ⟨q, r, x, y, u, rfl, hti, hq, hu⟩ := hP.get hi
      have hi2 : i < ts.length := (List.getElem?_eq_some_iff.mp hti).1
      have l16 := tab.few
      refine ⟨q, _, rfl, s1.tup hq, rfl, _, _, rfl, _, _, rfl, _, _, rfl, rfl, rfl, ?_⟩
      dsimp only [tYes]
      rw [if_pos rfl]
      refine ⟨_, rfl, _, rfl, (by show 2 ≤ sizeLine; decide), fun t nt => ?_⟩
      have k2 := Same.new (o := .tup [V.int x, V.ref r]) nt
      refine ⟨us, k2 _ _ h1, small1000 ?_, ?_⟩
      · rw [hf.len]
        unfold starts
        rw [List.length_map, List.length_take]
        omega
      · show LcP K H D _ _
        unfold starts
        rw [take_snoc hti, List.map_append]
        exact LcP.step hD (k2 _ _ h1) (s1.trans k2) (hf.tk (tk_same k2)) (SqT.of upd_same) ((s1.trans k2).tup hu)
    · rintro H1 ⟨us, h1, s1, hf⟩
      rw [hP.len, List.take_length] at hf
      exact ⟨D, us, _, rfl, SqL.of h1, hf, tab.starts_all, by unfold starts; rw [List.length_map]; exact tab.few, fun H2 r ys s2 hr2 is => k _ _ _ (s1.trans s2) hr2 is⟩
theorem scEndShare : FnScope ["table", "_", "y", "weight"] ["table"] (defScope sEndShare) := ⟨rfl, rfl, rfl, by decide +kernel, rfl, by decide +kernel, by decide +kernel⟩
theorem ok_end_share {f f1 : Addr} {fd fd1 : FuncData} (F : Df K mg "end_share" sEndShare ["table"] f fd) (D1 : Df K mg "gathered" sGathered ["pairs"] f1 fd1) (G1 : FnOk P w K mg base CX0 3 f1 fd1 ["pairs"] (spGatL K)) : FnOk P w K mg base CX0 4 f fd ["table"] (spSide K ends) := by
  refine F.F.ok scEndShare (fun vs H Q E h => ?_) (fun cdv A outer s H vs Q E hr h => ?_)
  · obtain ⟨p, ts, rfl, _⟩ := h
    rfl
  · obtain ⟨p, ts, rfl, ⟨vs, hp, hP⟩, tab, k⟩ := h
    refine ⟨_, pss_one (ps_ret (pe_call G1 hr (by rfl) D1.g D1.F.kp D1.b .nil pass0 (pa_cons (pe_lc (own := [("_", 1), ("y", 2), ("weight", 3)]) (g := gTup K 3 (gCons (gName 1) (gCons (gName 2) (gCons (gName 3) gNil)))) (tt := tYes) rfl scEndShare.nd (pi_tup (pv 0)) (blkOk_by (N := ["table", "_", "y", "weight"]) (sc := defScope sEndShare) (by decide +kernel)) (fun _ _ _ _ _ => pg_tup rfl (pgs_cons (pg_name (i := 1) scEndShare.nd rfl (Or.inl rfl)) (pgs_cons (pg_name (i := 2) scEndShare.nd rfl (Or.inl rfl)) (pgs_cons (pg_name (i := 3) scEndShare.nd rfl (Or.inl rfl)) pgs_nil)))) (fun _ _ _ _ _ => pts_nil) (fun _ _ _ _ _ => pe_tup (pa_cons (pv 2) (pa_cons (pv 3) pa_nil)))) pa_nil))), ?_⟩
    refine ⟨_, rfl, p, rfl, ⟨_, hp⟩, fun D hD => lc_tup (K := K) (a := p) (xs := vs) (fun i H' => LcP K H D (ends (ts.take i)) H') (LcP.start hD) (fun i H' _ ⟨_, _, s1, _⟩ => s1.tup hp) ?_ ?_⟩
    · rintro i v H' hi ⟨us, h1, s1, hf⟩
      obtain ⟨q, r, x, y, u, rfl, hti, hq, hu⟩ := hP.get hi
      have hi2 : i < ts.length := (List.getElem?_eq_some_iff.mp hti).1
      have l16 := tab.few
      refine ⟨q, _, rfl, s1.tup hq, rfl, _, _, rfl, _, _, rfl, _, _, rfl, rfl, rfl, ?_⟩
      dsimp only [tYes]
      rw [if_pos rfl]
      refine ⟨_, rfl, _, rfl, (by show 2 ≤ sizeLine; decide), fun t nt => ?_⟩
      have k2 := Same.new (o := .tup [V.int y, V.ref r]) nt
      refine ⟨us, k2 _ _ h1, small1000 ?_, ?_⟩
      · rw [hf.len]
        unfold ends
        rw [List.length_map, List.length_take]
        omega
      · show LcP K H D _ _
        unfold ends
        rw [take_snoc hti, List.map_append]
        exact LcP.step hD (k2 _ _ h1) (s1.trans k2) (hf.tk (tk_same k2)) (SqT.of upd_same) ((s1.trans k2).tup hu)
    · rintro H1 ⟨us, h1, s1, hf⟩
      rw [hP.len, List.take_length] at hf
      exact ⟨D, us, _, rfl, SqL.of h1, hf, tab.ends_all, by unfold ends; rw [List.length_map]; exact tab.few, fun H2 r ys s2 hr2 is => k _ _ _ (s1.trans s2) hr2 is⟩
/-- a table leads from its one side to its other -/
def spLeads (K : PySem.W.Frag) : Sp := fun vs H Q _ => ∃ p q r ts xs ys, vs = [.ref p, .ref q, .ref r] ∧ TbAt K H p ts ∧ Tab ts ∧ ShAt K H q xs ∧ ShAt K H r ys ∧ IsS (gat [] (starts ts)) xs ∧ IsS (gat [] (ends ts)) ys ∧ ∀ H', Same H H' → Q (.bl true) H'
theorem scLeads : FnScope ["table", "one", "other"] ["table", "one", "other"] (defScope sLeads) := ⟨rfl, rfl, rfl, by decide +kernel, rfl, by decide +kernel, by decide +kernel⟩
theorem ok_leads {f f1 f2 : Addr} {fd fd1 fd2 : FuncData} (F : Df K mg "leads" sLeads ["table", "one", "other"] f fd) (D1 : Df K mg "start_share" sStartShare ["table"] f1 fd1) (G1 : FnOk P w K mg base CX0 4 f1 fd1 ["table"] (spSide K starts)) (D2 : Df K mg "end_share" sEndShare ["table"] f2 fd2) (G2 : FnOk P w K mg base CX0 4 f2 fd2 ["table"] (spSide K ends)) : FnOk P w K mg base CX0 5 f fd ["table", "one", "other"] (spLeads K) := by
  refine F.F.ok scLeads (fun vs H Q E h => ?_) (fun cdv A outer s H vs Q E hr h => ?_)
  · obtain ⟨p, q, r, ts, xs, ys, rfl, _⟩ := h
    rfl
  · obtain ⟨p, q, r, ts, xs, ys, rfl, ht, tab, hx, hy, ix, iy, k⟩ := h
    refine ⟨_, pss_one (ps_ret (pe_and (pe_cmpR (op_eqD hr.units) (pe_call G1 hr (by rfl) D1.g D1.F.kp D1.b .nil pass0 (pa_cons (pv 0) pa_nil)) (pv 1) (nomark _)) (pe_one (pe_cmpR (op_eqD hr.units) (pe_call G2 hr (by rfl) D2.g D2.F.kp D2.b .nil pass0 (pa_cons (pv 0) pa_nil)) (pv 2) (nomark _))))), ?_⟩
    refine ⟨_, rfl, p, ts, rfl, ht, tab, fun H1 a zs s1 ha ia => ?_⟩
    have e1 : zs = xs := ia.uniq ix fun _ => rfl
    refine ⟨_, rfl, shEq ha (hx.tk (tk_same s1)) ?_⟩
    refine ⟨_, rfl, ?_⟩
    rw [decide_eq_true e1]
    refine iteT ⟨_, rfl, p, ts, rfl, ht.tk (tk_same s1), tab, fun H2 b us s2 hb ib => ?_⟩
    have e2 : us = ys := ib.uniq iy fun _ => rfl
    refine ⟨_, rfl, shEq hb (hy.tk (tk_same (s1.trans s2))) ?_⟩
    rw [decide_eq_true e2]
    exact k _ (s1.trans s2)
end
end CS
set_option Elab.async false
set_option maxRecDepth 100000
set_option maxHeartbeats 8000000
set_option linter.unusedVariables false
set_option pp.maxSteps 400
/-! enumerate(t), t a tuple -/
namespace PySem
open Sem (wp)
open AutoSeq1 (wpAny_loadPart')
/-- the iterator of the tuple at t, as it starts -/
abbrev tupIt (t : Addr) : Obj := { cls := .type "tuple_iterator", data := .fields #[.ref t, .int 0 0] }
abbrev enumObj (it : Addr) : Obj := { cls := .type "enumerate", data := .fields #[.none, .bool false, .ref it, rawInt 0, .none, .none] }
theorem enumT_new (t : Addr) (its : Array Value) (n : Nat) (dc : Option Addr) (sl : Array (Option Value)) :
    Meets (Builtin.«enumerate.__new__» ⟨[.type "enumerate", .ref t], []⟩) (fun _ R s => s.heap.get? t = some { cls := .type "tuple", dict := dc, data := .seq its n, slots := sl } ∧
      R (.ok (.ret (.ref (s.heap.push (tupIt t)).objs.size))) { s with heap := (s.heap.push (tupIt t)).push (enumObj s.heap.objs.size) }) :=
  .of_wp fun prog w A R s both => by
    obtain ⟨heap, gens, drawn, toks, os⟩ := s
    obtain ⟨at_t, fin⟩ := both
    have sub := sub_enumerate
    have isT : Heap.IsTuple (Shared.heap ⟨heap, gens, drawn, toks, os⟩) t its := ⟨_, at_t, rfl, n, rfl⟩
    wp_walk using wpAny_loadPart' at_t
    refine wpAny_stack_any fun frames => wpAny_pure ?_
    split
    · rename_i cl _ _ _ _ _
      cases (cl == Value.type "enumerate") <;> (wp_walk using wpAny_loadPart' at_t, wpAny_pyIter_tuple isT; exact ⟨_, rfl, fin⟩)
    · wp_walk using wpAny_loadPart' at_t, wpAny_pyIter_tuple isT
      exact ⟨_, rfl, fin⟩
section
variable {prog : Program} {w : World} {A : Around} {E : Value → Shared → Prop} {s : Shared}
theorem call_enumT {t : Addr} {its : Array Value} {Q : Value → Shared → Prop} (isT : s.heap.IsTuple t its)
    (fin : ∀ h', IsEnum h' (s.heap.objs.size + 1) s.heap.objs.size 0 .none → h'.IsTupleIter s.heap.objs.size t 0 → (∀ b o, s.heap.get? b = some o → h'.get? b = some o) → Q (.ref (s.heap.objs.size + 1)) { s with heap := h' }) :
    wpAny (model prog w) A (call (.type "enumerate") [.ref t]) Q E s := by
  obtain ⟨⟨c, dc, dt, sl⟩, at_t, ec, n, ed⟩ := isT
  replace ec : c = .type "tuple" := ec
  replace ed : dt = .seq its n := ed
  subst ec ed
  have one : (s.heap.push (tupIt t)).objs.size = s.heap.objs.size + 1 := Heap.size_push ..
  have two : IsEnum ((s.heap.push (tupIt t)).push (enumObj s.heap.objs.size)) (s.heap.objs.size + 1) s.heap.objs.size 0 .none := by
    rw [← one]
    exact Heap.get?_push_size _ rfl
  refine callType_new F.called_enumerate (by decide) (F.typeCall_enumerate_1 _) (F.newCall_enumerate_1 _) (fun obj => F.args_object_init_2 obj _) F.entry_enumerate_new (enumT_new t its n dc sl) ⟨at_t, ?_⟩
  show _ ∧ _
  rw [one]
  exact ⟨⟨_, two, rfl⟩, fin _ two ⟨_, Heap.get?_push_of_some _ (Heap.get?_push_size _ rfl), rfl, rfl⟩ fun b o e => Heap.get?_push_of_some _ (Heap.get?_push_of_some _ e)⟩
end
end PySem
namespace CS
open PySem PySem.Spec PyProof.Rows L2
def IteT (K : PySem.W.Frag) (a : Addr) : It where
  go i H := ∃ (xs : List V) (x : V), SqT K H a xs ∧ xs[i]? = some x
  yld i H v H' := ∃ T x, v = .ref T ∧ H T = none ∧ H' = upd H T (.tup [.int (i : Nat), x]) ∧ ∀ xs, SqT K H a xs → xs[i]? = some x
  stop i H := ∃ xs : List V, SqT K H a xs ∧ xs.length ≤ i
/-- how the heap stands ahead of turn i -/
def EnAt (a e it : Addr) (i : Nat) (h : Heap) : Prop := (∃ old, IsEnum h e it ((i : Nat) : Int) old) ∧ h.IsTupleIter it a i ∧ e ≠ it
theorem EnAt.lt {a e it : Addr} {i : Nat} {h : Heap} (st : EnAt a e it i h) : e < h.objs.size ∧ it < h.objs.size := by
  obtain ⟨⟨_, he⟩, ⟨_, hi, _⟩, _⟩ := st
  exact ⟨Heap.lt_size he, Heap.lt_size hi⟩
theorem EnAt.keep {a e it : Addr} {i : Nat} {h h' : Heap} (st : EnAt a e it i h) (k : ∀ b ∈ [e, it], ∀ o, h.get? b = some o → h'.get? b = some o) : EnAt a e it i h' := by
  obtain ⟨⟨old, he⟩, hi, ne⟩ := st
  exact ⟨⟨old, k e (by simp) _ he⟩, hi.at fun o q => k it (by simp) o q, ne⟩
theorem enumT_turn {P : Program} {w : World} {K : PySem.W.Frag} {elts : List Expr} {kk : Nat} {tpos : Pos} (a e it : Addr) : Turn P w K (.Tuple elts kk tpos) (IteT K a) [e, it] e (EnAt a e it) where
  mem := List.mem_cons_self
  obj i h st b hb := by
    obtain ⟨⟨_, he⟩, ⟨o, hi, _, hd⟩, _⟩ := st
    rcases List.mem_cons.mp hb with rfl | hb
    · exact ⟨_, he, fun v q => nomatch q⟩
    · rw [List.mem_singleton.mp hb]
      exact ⟨o, hi, fun v q => by rw [hd] at q; cases q⟩
  keep i h h' st k := st.keep k
  item := by
    intro X e1 e2 e3 calm i pins s σ H E I fok st ⟨xs, x, hx, at_i⟩
    subst e1 e2 e3
    obtain ⟨its, rv, isT, _⟩ := I.tuple hx
    obtain ⟨u, hu, ru⟩ := rv.get at_i
    have lt := st.lt
    obtain ⟨⟨old, he⟩, hi, ne⟩ := st
    obtain ⟨ot, gt, ct, _⟩ := id isT
    have nt : a ≠ it := fun z => by
      obtain ⟨o, g, c, _⟩ := id hi
      rw [← z, gt] at g
      cases g
      rw [ct] at c
      exact absurd (Value.type.inj c) (by decide)
    have net : e ≠ a := fun z => by
      have ge : s.heap.get? e = some _ := he
      rw [z, gt] at ge
      cases ge
      exact absurd (Value.type.inj ct) (by decide)
    have ltn : i < its.toArray.size := by
      rw [List.size_toArray]
      exact (List.getElem?_eq_some_iff.mp hu).1
    refine wpAny_pyNext_enum_itemD (Draws.tuple (A := X.A.in1) (I.ok.hd calm) it a nt its.toArray) he ⟨hi, isT⟩ ltn ne (by simp [ne, net]) fun v h1 tk hv he1 hi1 hT1 sz k1 => ?_
    have ev : v = u := by
      rw [List.getElem?_toArray, hu] at hv
      exact (Option.some.inj hv).symm
    subst ev
    refine ⟨_, rfl, wpAny_letOwnedTupleGo_enum (s := { s with heap := h1, toks := tk + 1 }) he1 fun h2 he2 sb => ?_⟩
    have apart : s.heap.objs.size ≠ e := Nat.ne_of_gt lt.1
    have there : h2.get? s.heap.objs.size = some { cls := .type "tuple", data := .seq #[.int i tk, v] } := (sb.2 _ apart).trans hT1
    have kept : ∀ b ob, b ∉ [e, it] → s.heap.get? b = some ob → h2.get? b = some ob := fun b ob nb q => (sb.2 b fun z => nb (by simp [z])).trans (k1 b ob (fun z => nb (by simp [z])) (fun z => nb (by simp [z])) q)
    have I2 := I.turnedNew (t' := tk + 1) (ch := [e, it]) (T := s.heap.objs.size) (ob := .tup [.int (i : Nat), x]) kept fok (Nat.le_refl _) ⟨by show 2 ≤ sizeLine; decide, [.int i tk, v], .cons ⟨_, rfl⟩ (.cons ru .nil), ⟨_, there, rfl, _, rfl⟩⟩
    refine ⟨.ref s.heap.objs.size, _, I2, rfl, ⟨_, x, rfl, I.hok.fresh (Nat.le_refl _), rfl, fun ys hy => by rw [I.tuple_inj hy hx]; exact at_i⟩, ⟨⟨v, ?_⟩, hi1.1.at fun o q => (sb.2 it (Ne.symm ne)).trans q, ne⟩, fun b hb => ?_⟩
    · rw [show ((i + 1 : Nat) : Int) = (i : Int) + 1 by omega]
      exact he2
    · have lb : b < s.heap.objs.size := by
        rcases List.mem_cons.mp hb with rfl | hb
        · exact lt.1
        · rw [List.mem_singleton.mp hb]; exact lt.2
      rw [upd_ne (Nat.ne_of_lt lb)]
      exact (fok b hb).1
  done := by
    intro X e1 e2 e3 calm i pins s σ H E I fok st ⟨xs, hx, past⟩
    subst e1 e2 e3
    obtain ⟨its, rv, isT, _⟩ := I.tuple hx
    have lt := st.lt
    obtain ⟨⟨old, he⟩, hi, ne⟩ := st
    obtain ⟨ot, gt, ct, _⟩ := id isT
    have nt : a ≠ it := fun z => by
      obtain ⟨o, g, c, _⟩ := id hi
      rw [← z, gt] at g
      cases g
      rw [ct] at c
      exact absurd (Value.type.inj c) (by decide)
    have D := Draws.tuple (prog := X.prog) (w := X.w) (A := X.A.in1) (I.ok.hd calm) it a nt its.toArray
    have D2 : Draws X.prog X.w X.A.in1 it [it, a] i (fun j v => its.toArray[j]? = some v) (fun j h => j = i ∧ h.IsTupleIter it a i ∧ h.IsTuple a its.toArray) :=
      ⟨fun _ h z => D.live i h z.2, fun _ h h' z k => ⟨z.1, D.frame i h h' z.2 k⟩, fun j s Q E lj z hQ => absurd z.1 (Nat.ne_of_lt lj), fun s Q E z hE => wpAny_nextOf_tuple_end (I.ok.hd calm) z.2.1 z.2.2 (by have := rv.length; simp; omega) hE⟩
    obtain ⟨f0, f1, f2, f3, f4, f5⟩ := fok it (by simp)
    exact wpAny_pyNext_enum_endD D2 he ⟨rfl, hi, isT⟩ fun h1 eb => ⟨rfl, I.turned (t' := s.toks) (fun b o nb q => eb b o nb q) f0 f1 f3 f4 f5⟩
  self A i s Q E st h := by
    obtain ⟨⟨_, he⟩, _⟩ := st
    exact wpAny_pyIter_enum he h
def iEnT (K : PySem.W.Frag) (ta : TA) : TI := fun σ H R => ta σ H fun vs H1 => ∃ a xs, vs = [.ref a] ∧ SqT K H1 a xs ∧ R (IteT K a) H1
theorem pi_enumT {X : Cx} {e : Expr} {ta : TA} {p pos tpos : Pos} {elts : List Expr} {kk : Nat} (gl : Gl X "enumerate") (mn : X.mg "enumerate" = none) (ha : PA X [e] ta) (hs : starEach [e] X.env = [(false, eval e X.env)] := by rfl) : PI X (.Tuple elts kk tpos) (.Call (.Name "enumerate" p) [e] [] pos) (iEnT X.K ta) := by
  refine ⟨fun pins s σ H R I h => Call_ (ld_blt I gl mn boot_enumerate (PyProof.Rows.callWith_type1 (thn (ha.run pos pins s σ H _ I h) fun us s1 ⟨vs, G, I1, rv, a, xs, ev, hx, q⟩ => ?_) hs rfl))⟩
  subst ev
  obtain ⟨u, rfl, ru⟩ := vals1 rv
  obtain rfl : u = Value.ref a := ru
  obtain ⟨its, _, isT, _⟩ := I1.tuple hx
  refine call_enumT (its := its.toArray) isT fun h' he hi k => wpAny_pyIter_enum he ⟨_, [s1.heap.objs.size + 1, s1.heap.objs.size], _, _, G, rfl, I1.kept (t' := s1.toks) k, enumT_turn a _ _, ⟨⟨_, he⟩, hi, Nat.succ_ne_self _⟩, fun b hb => ?_, q⟩
  have young : s1.heap.objs.size ≤ b := by
    rcases List.mem_cons.mp hb with z | z
    · rw [z]
      exact Nat.le_add_right _ _
    · rw [List.mem_singleton.mp z]
      exact Nat.le_refl _
  exact I1.fpOk young (I1.hok.fresh young)
theorem walk_enT {K : PySem.W.Frag} {a : Addr} {xs : List V} : Walk (IteT K a) xs.length (fun H => SqT K H a xs) (YPair (fun i => some (.int (i : Nat))) (fun i => xs[i]?)) :=
  ⟨fun i H lt q => ⟨xs, xs[i], q, List.getElem?_eq_getElem lt⟩, fun H q => ⟨xs, q, Nat.le_refl _⟩, fun i H v H' _ q ⟨T, x, e1, e2, e3, e4⟩ => ⟨T, _, x, e1, e2, e3, rfl, e4 xs q⟩⟩
/-- a dict comprehension over what is walked -/
theorem dc_walk {J : It} {n : Nat} {G : Hp → Prop} {Y : Nat → Hp → V → Hp → Prop} (W : Walk J n G Y) {g : TG} {tt : TT} {tk tv : TE} {vs : List Nat} {σ : L2.St} {H1 : Hp} {D : Addr} {Z : Hp → Prop} (Pv : Nat → Hp → Prop) (first : Pv 0 (upd H1 D (.dK []))) (there : ∀ i H, i ≤ n → Pv i H → G H)
    (step : ∀ i x H H', i < n → Pv i H → Y i H x H' → g x (wipe σ vs) H' fun σ2 H2 => wipe σ2 vs = wipe σ vs ∧ tt σ2 H2 fun b H3 =>
      if b = true then tk σ2 H3 fun y H4 => tv σ2 H4 fun z H5 => ∃ kvs k, y = kV k ∧ H5 D = some (.dK kvs) ∧ kvs.length < sizeLine ∧ Pv (i + 1) (upd H5 D (.dK (putK kvs k z))) else Pv (i + 1) H3) (last : ∀ H, Pv n H → Z H) :
    ∃ W' : Nat → Nat → Hp → Prop, (∃ m, W' 0 m (upd H1 D (.dK []))) ∧ ∀ i m H, W' i m H → (J.stop i H ∧ Z H) ∨ (J.go i H ∧ ∃ N : Hp → Prop, (∀ H', N H' → ∃ m', m' < m ∧ W' (i + 1) m' H') ∧
      ∀ x H', J.yld i H x H' → g x (wipe σ vs) H' fun σ2 H2 => wipe σ2 vs = wipe σ vs ∧ tt σ2 H2 fun b H3 =>
        if b = true then tk σ2 H3 fun y H4 => tv σ2 H4 fun z H5 => ∃ kvs k, y = kV k ∧ H5 D = some (.dK kvs) ∧ kvs.length < sizeLine ∧ N (upd H5 D (.dK (putK kvs k z))) else N H3) := by
  refine ⟨fun i m H => i + m = n ∧ Pv i H, ⟨n, Nat.zero_add n, first⟩, fun i m H ⟨em, p⟩ => ?_⟩
  have gH := there i H (by omega) p
  cases m with
  | zero =>
    have ei : i = n := em
    exact .inl ⟨ei ▸ W.stops H gH, last H (ei ▸ p)⟩
  | succ m =>
    have lt : i < n := by omega
    exact .inr ⟨W.goes i H lt gH, Pv (i + 1), fun H' q => ⟨m, Nat.lt_succ_self m, by omega, q⟩, fun x H' y => step i x H H' lt p (W.yields i H x H' lt gH y)⟩
end CS
set_option Elab.async false
set_option maxRecDepth 100000
set_option maxHeartbeats 8000000
set_option linter.unusedVariables false
set_option pp.maxSteps 400
namespace CS
open PySem L2
/-! what a table costs -/
/-- where x stands among the numbers of a share -/
def ixOf (xs : List (Int × Fx)) (x : Int) : Nat := (xs.map (·.1)).idxOf x
def costAt (xs ys : List (Int × Fx)) (rows : List (List Int)) (x y : Int) : Int := (rows.getD (ixOf xs x) []).getD (ixOf ys y) 0
def costF (xs ys : List (Int × Fx)) (rows : List (List Int)) (ts : List Stp) : Fx := fsum (ts.map fun a => scl a.2.2 (costAt xs ys rows a.1 a.2.1))
theorem ixOf_get {xs : List (Int × Fx)} {x : Int} (h : x ∈ xs.map (·.1)) : (xs.map (·.1))[ixOf xs x]? = some x ∧ ixOf xs x < xs.length := by
  have lt : (xs.map (·.1)).idxOf x < (xs.map (·.1)).length := List.idxOf_lt_length_of_mem h
  refine ⟨?_, by rw [List.length_map] at lt; exact lt⟩
  unfold ixOf
  rw [List.getElem?_eq_getElem lt, List.getElem_idxOf]
/-- sums of weights are weights -/
theorem cfold_pos (j : Int) : ∀ (zs : List (Int × Fx)) (a : Fx), Fr a → 0 ≤ a.1 → (∀ z ∈ zs, Fr z.2 ∧ 0 < z.2.1) → (0 < a.1 ∨ j ∈ zs.map (·.1)) → 0 < (zs.foldl (fun a kx => if j = kx.1 then fadd a kx.2 else a) a).1
  | [], a, _, _, _, h => by
    rcases h with h | h
    · exact h
    · cases h
  | z :: zs, a, fa, pa, hz, h => by
    obtain ⟨fz, pz⟩ := hz z (by simp)
    have rest : ∀ y ∈ zs, Fr y.2 ∧ 0 < y.2.1 := fun y hy => hz y (List.mem_cons_of_mem _ hy)
    rw [List.foldl_cons]
    by_cases e : j = z.1
    · rw [if_pos e]
      have p := fadd_pos fa fz pa (Int.le_of_lt pz) (.inr pz)
      exact cfold_pos j zs _ (fadd_fr fa fz) (Int.le_of_lt p) rest (.inl p)
    · rw [if_neg e]
      refine cfold_pos j zs a fa pa rest (h.imp_right fun m => ?_)
      rw [List.map_cons] at m
      rcases List.mem_cons.mp m with q | q
      · exact absurd q e
      · exact q
theorem side_mem {zs xs : List (Int × Fx)} (h : ∀ z ∈ zs, Fr z.2 ∧ 0 < z.2.1) (is : IsS (gat [] zs) xs) {j : Int} (hj : j ∈ zs.map (·.1)) : j ∈ xs.map (·.1) := by
  have p := cfold_pos j zs (0, 1) fr01 (by decide) h (.inr hj)
  have e : lk (gat [] zs) j = zs.foldl (fun a kx => if j = kx.1 then fadd a kx.2 else a) (0, 1) := lk_gat zs [] j
  have ne : lk (gat [] zs) j ≠ (0, 1) := fun z => by
    rw [e] at z
    rw [z] at p
    exact absurd p (by decide)
  exact List.mem_map.mpr ⟨(j, lk (gat [] zs) j), (is.2 _ _).mpr ⟨rfl, ne⟩, rfl⟩
theorem Tab.start_mem {ts : List Stp} (h : Tab ts) {xs : List (Int × Fx)} (is : IsS (gat [] (starts ts)) xs) {a : Stp} (ha : a ∈ ts) : a.1 ∈ xs.map (·.1) := by
  refine side_mem (fun z hz => ?_) is (List.mem_map.mpr ⟨(a.1, a.2.2), List.mem_map.mpr ⟨a, ha, rfl⟩, rfl⟩)
  obtain ⟨b, hb, rfl⟩ := List.mem_map.mp hz
  exact ⟨(h.good b hb).2.2.2.2.1, (h.good b hb).2.2.2.2.2⟩
theorem Tab.end_mem {ts : List Stp} (h : Tab ts) {ys : List (Int × Fx)} (is : IsS (gat [] (ends ts)) ys) {a : Stp} (ha : a ∈ ts) : a.2.1 ∈ ys.map (·.1) := by
  refine side_mem (fun z hz => ?_) is (List.mem_map.mpr ⟨(a.2.1, a.2.2), List.mem_map.mpr ⟨a, ha, rfl⟩, rfl⟩)
  obtain ⟨b, hb, rfl⟩ := List.mem_map.mp hz
  exact ⟨(h.good b hb).2.2.2.2.1, (h.good b hb).2.2.2.2.2⟩
/-- the costs that a place has -/
theorem cost_get {rows : List (List Int)} {n m : Nat} (ok : CostOk rows n m) {i j : Nat} (hi : i < n) (hj : j < m) : ∃ r, rows[i]? = some r ∧ r[j]? = some ((rows.getD i []).getD j 0) ∧ ((rows.getD i []).getD j 0).natAbs ≤ 1000 := by
  have hi2 : i < rows.length := by rw [ok.len]; exact hi
  have hr : rows[i]? = some rows[i] := List.getElem?_eq_getElem hi2
  have hm := List.getElem_mem hi2
  have hj2 : j < rows[i].length := by rw [ok.wide _ hm]; exact hj
  have e : rows.getD i [] = rows[i] := by rw [List.getD_eq_getElem?_getD, hr]; rfl
  have e2 : rows[i].getD j 0 = rows[i][j] := by rw [List.getD_eq_getElem?_getD, List.getElem?_eq_getElem hj2]; rfl
  refine ⟨rows[i], hr, ?_, ?_⟩
  · rw [e, e2]
    exact List.getElem?_eq_getElem hj2
  · rw [e, e2]
    exact ok.small _ hm _ (List.getElem_mem hj2)
/-- the dict that tells where each number of ms stands -/
def PlcAt (H : Hp) (d : Addr) (ms : List Int) : Prop := ∃ kvs, H d = some (.dK kvs) ∧ ∀ (j : Nat) (m : Int), ms[j]? = some m → valV kvs (.inl m : Key) = some (.int (j : Int))
theorem PlcAt.same {H H' : Hp} {d : Addr} {ms : List Int} (h : PlcAt H d ms) (s : Same H H') : PlcAt H' d ms := by
  obtain ⟨kvs, a, b⟩ := h
  exact ⟨kvs, s _ _ a, b⟩
theorem PlcAt.get {H : Hp} {d : Addr} {xs : List (Int × Fx)} {x : Int} (h : PlcAt H d (xs.map (·.1))) (hx : x ∈ xs.map (·.1)) : DGet H d (.int x) (some (.int (ixOf xs x : Nat))) := by
  obtain ⟨kvs, a, b⟩ := h
  rw [← b _ _ (ixOf_get hx).1]
  exact DGet.k (k := (.inl x : Key)) a
theorem plc_put {ms : List Int} (nd : ms.Nodup) {i : Nat} {m : Int} {kvs : List (Key × V)} (hi : ms[i]? = some m) (h : ∀ (j : Nat) (k : Int), (ms.take i)[j]? = some k → valV kvs (.inl k : Key) = some (.int (j : Int))) : ∀ (j : Nat) (k : Int), (ms.take (i + 1))[j]? = some k → valV (putK kvs (.inl m : Key) (.int (i : Int))) (.inl k : Key) = some (.int (j : Int)) := by
  intro j k hj
  have li := (List.getElem?_eq_some_iff.mp hi).1
  rw [valV_put]
  rw [List.getElem?_take] at hj
  by_cases lt : j < i + 1
  · rw [if_pos lt] at hj
    by_cases e : j = i
    · subst e
      rw [hi] at hj
      cases hj
      rw [if_pos rfl]
    · have ne : k ≠ m := fun z => by
        subst z
        obtain ⟨lj, ej⟩ := List.getElem?_eq_some_iff.mp hj
        obtain ⟨li2, ei⟩ := List.getElem?_eq_some_iff.mp hi
        rcases Nat.lt_or_gt_of_ne e with l | l
        · exact List.pairwise_iff_getElem.mp nd j i lj li2 l (ej.trans ei.symm)
        · exact List.pairwise_iff_getElem.mp nd i j li2 lj l (ei.trans ej.symm)
      rw [if_neg fun z => ne (Sum.inl.inj z)]
      exact h j k (by rw [List.getElem?_take, if_pos (by omega)]; exact hj)
  · rw [if_neg lt] at hj
    cases hj
section
variable {P : Program} {w : World} {K : PySem.W.Frag} {mg : Str → Option Value} {base : Heap}
def spPlaces (K : PySem.W.Frag) : Sp := fun vs H Q _ => ∃ p xs, vs = [.ref p] ∧ ShAt K H p xs ∧ (xs.map (·.1)).Nodup ∧ xs.length ≤ 900 ∧ ∀ H' d, Same H H' → PlcAt H' d (xs.map (·.1)) → Q (.ref d) H'
theorem scPlaces : FnScope ["share", "place", "number", "_"] ["share"] (defScope sPlaces) := ⟨rfl, rfl, rfl, by decide +kernel, rfl, by decide +kernel, by decide +kernel⟩
theorem ok_places {f : Addr} {fd : FuncData} (F : Df K mg "places" sPlaces ["share"] f fd) (menum : mg "enumerate" = none) : FnOk P w K mg base CX0 1 f fd ["share"] (spPlaces K) := by
  refine F.F.ok scPlaces (fun vs H Q E h => ?_) (fun cdv A outer s H vs Q E hr h => ?_)
  · obtain ⟨p, xs, rfl, _⟩ := h
    rfl
  · obtain ⟨p, xs, rfl, ⟨vs, hp, hP⟩, nd, l9, k⟩ := h
    refine ⟨_, pss_one (ps_ret (pe_dc (own := [("place", 1), ("number", 2), ("_", 3)]) (g := gTup K 2 (gCons (gName 1) (gCons (gTup K 2 (gCons (gName 2) (gCons (gName 3) gNil))) gNil))) (tt := tYes) (tk := tVar 2) (tv := tVar 1) rfl scPlaces.nd (pi_enumT (by rfl) menum (pa_cons (pv 0) pa_nil)) (blkOk_by (N := ["share", "place", "number", "_"]) (sc := defScope sPlaces) (by decide +kernel)) (fun _ _ _ _ _ => pg_tup rfl (pgs_cons (pg_name (i := 1) scPlaces.nd rfl (Or.inl rfl)) (pgs_cons (pg_tup rfl (pgs_cons (pg_name (i := 2) scPlaces.nd rfl (Or.inl rfl)) (pgs_cons (pg_name (i := 3) scPlaces.nd rfl (Or.inl rfl)) pgs_nil))) pgs_nil))) (fun _ _ _ _ _ => pts_nil) (fun _ _ _ _ _ => pv 2) (fun _ _ _ _ _ => pv 1))), ?_⟩
    have hl := hP.len
    refine ⟨_, rfl, p, vs, rfl, hp, fun D hD => dc_walk (walk_enT (K := K) (a := p) (xs := vs)) (fun i H' => Same H H' ∧ ∃ kvs, H' D = some (.dK kvs) ∧ kvs.length ≤ i ∧ ∀ (j : Nat) (k : Int), ((xs.map (·.1)).take i)[j]? = some k → valV kvs (.inl k : Key) = some (.int (j : Int))) ⟨Same.new hD, [], upd_same, Nat.le_refl _, fun j k h => by simp at h⟩ (fun i H' _ h => h.1.tup hp) ?_ ?_⟩
    · rintro i v H' H2 lt ⟨s1, kvs, h1, hk, hv⟩ ⟨T, x, y, rfl, hT, rfl, hx, hy⟩
      dsimp only at hx hy
      cases hx
      obtain ⟨q, r, m, u, rfl, hxi, hq, hu⟩ := hP.get hy
      have k2 := Same.new (o := .tup [V.int (i : Nat), V.ref q]) hT
      refine ⟨T, _, rfl, SqT.of upd_same, rfl, _, _, rfl, _, _, rfl, ⟨q, _, rfl, k2.tup (s1.tup hq), rfl, _, _, rfl, _, _, rfl, ?_⟩⟩
      refine ⟨rfl, rfl, rfl, ?_⟩
      dsimp only [tYes]
      rw [if_pos rfl]
      refine ⟨_, rfl, _, rfl, kvs, .inl m, rfl, k2 _ _ h1, small1000 (by omega), same_upd hD (s1.trans k2), _, upd_same, ?_, ?_⟩
      · have := length_putK kvs (.inl m : Key) (V.int (i : Nat))
        omega
      · exact plc_put nd (by rw [List.getElem?_map, hxi]; rfl) hv
    · rintro H' ⟨s1, kvs, h1, hk, hv⟩
      refine k _ D s1 ⟨kvs, h1, fun j m e => hv j m ?_⟩
      rw [hl, List.take_of_length_le (by rw [List.length_map]; exact Nat.le_refl _)]
      exact e
end
end CS
set_option Elab.async false
set_option maxRecDepth 100000
set_option maxHeartbeats 8000000
set_option linter.unusedVariables false
set_option pp.maxSteps 400
namespace CS
open PySem L2
theorem costD_row {K : PySem.W.Frag} {H : Hp} {v : V} {rows : List (List Int)} {i : Nat} {r : List Int} (h : Dp K H v (costD rows)) (hr : rows[i]? = some r) : ∃ a us b, v = .ref a ∧ SqT K H a us ∧ us[i]? = some (.ref b) ∧ SqT K H b (r.map V.int) := by
  unfold costD at h
  obtain ⟨a, us, rfl, hs, ha⟩ := h.tup_inv
  obtain ⟨u, hu, hd⟩ := ha.at (i := i) (d := .tuple (r.map PyData.int)) (by rw [List.getElem?_map, hr]; rfl)
  obtain ⟨b, ws, rfl, hb, hw⟩ := hd.tup_inv
  rw [hw.of_ints] at hb
  exact ⟨a, us, b, rfl, hs, hu, hb⟩
section
variable {P : Program} {w : World} {K : PySem.W.Frag} {mg : Str → Option Value} {base : Heap}
def spCost (K : PySem.W.Frag) : Sp := fun vs H Q _ => ∃ p q v t xs ys rows ts, vs = [.ref p, .ref q, v, .ref t] ∧ CArg K H p q v xs ys rows ∧ TbAt K H t ts ∧ Tab ts ∧ IsS (gat [] (starts ts)) xs ∧ IsS (gat [] (ends ts)) ys ∧ ∀ H' r, Same H H' → FT K H' r (costF xs ys rows ts) → Q (.ref r) H'
abbrev nsCost : List Str := ["one", "other", "costs", "table", "rows", "columns", "x", "y", "weight"]
theorem scCostOf : FnScope nsCost ["one", "other", "costs", "table"] (defScope sCostOf) := ⟨rfl, rfl, rfl, by decide +kernel, rfl, by decide +kernel, by decide +kernel⟩
theorem ok_cost_of {f f1 f2 f3 f4 f5 f6 : Addr} {fd fd1 fd2 fd3 fd4 fd5 fd6 : FuncData} (F : Df K mg "cost_of" sCostOf ["one", "other", "costs", "table"] f fd) (D1 : Df K mg "need_costs" sNeedCosts ["one", "other", "thing"] f1 fd1) (G1 : FnOk P w K mg base CX0 8 f1 fd1 ["one", "other", "thing"] (spNeedCosts K)) (D2 : Df K mg "is_table" sIsTable ["thing"] f2 fd2) (G2 : FnOk P w K mg base CX0 6 f2 fd2 ["thing"] (spTable K))
    (D3 : Df K mg "leads" sLeads ["table", "one", "other"] f3 fd3) (G3 : FnOk P w K mg base CX0 5 f3 fd3 ["table", "one", "other"] (spLeads K)) (D4 : Df K mg "places" sPlaces ["share"] f4 fd4) (G4 : FnOk P w K mg base CX0 1 f4 fd4 ["share"] (spPlaces K)) (D5 : Df K mg "sum_of" sSumOf ["fractions"] f5 fd5) (G5 : FnOk P w K mg base CX0 3 f5 fd5 ["fractions"] (spSum K)) (D6 : Df K mg "scaled" sScaled ["fraction", "by"] f6 fd6) (G6 : FnOk P w K mg base CX0 2 f6 fd6 ["fraction", "by"] (spScaled K)) : FnOk P w K mg base CX0 9 f fd ["one", "other", "costs", "table"] (spCost K) := by
  refine F.F.ok scCostOf (fun vs H Q E h => ?_) (fun cdv A outer s H vs Q E hr h => ?_)
  · obtain ⟨p, q, v, t, xs, ys, rows, ts, rfl, _⟩ := h
    rfl
  · obtain ⟨p, q, v, t, xs, ys, rows, ts, rfl, C, hT, tab, ix, iy, k⟩ := h
    have hu := hu_of hr
    refine ⟨_, pss_cons (ps_expr (pe_call G1 hr (by rfl) D1.g D1.F.kp D1.b .nil pass0 (pa_cons (pv 0) (pa_cons (pv 1) (pa_cons (pv 2) pa_nil)))))
      (pss_cons (ps_if (PW.pt (pw_or (pt_not (pt_val (pe_call G2 (hr.mono (by decide)) (by rfl) D2.g D2.F.kp D2.b .nil pass0 (pa_cons (pv 3) pa_nil)))) (pw_or1 (pt_not (pt_val (pe_call G3 (hr.mono (by decide)) (by rfl) D3.g D3.F.kp D3.b .nil pass0 (pa_cons (pv 3) (pa_cons (pv 0) (pa_cons (pv 1) pa_nil))))))))) (pss_one ps_never) pss_nil)
      (pss_cons (ps_set (i := 4) scCostOf.nd rfl (Or.inr rfl) (pe_call G4 (hr.mono (by decide)) (by rfl) D4.g D4.F.kp D4.b .nil pass0 (pa_cons (pv 0) pa_nil)))
      (pss_cons (ps_set (i := 5) scCostOf.nd rfl (Or.inr rfl) (pe_call G4 (hr.mono (by decide)) (by rfl) D4.g D4.F.kp D4.b .nil pass0 (pa_cons (pv 1) pa_nil)))
      (pss_one (ps_ret (pe_call G5 (hr.mono (by decide)) (by rfl) D5.g D5.F.kp D5.b .nil pass0 (pa_cons (pe_lc (own := [("x", 6), ("y", 7), ("weight", 8)]) (g := gTup K 3 (gCons (gName 6) (gCons (gName 7) (gCons (gName 8) gNil)))) (tt := tYes) rfl scCostOf.nd (pi_tup (pv 3)) (blkOk_by (N := nsCost) (sc := defScope sCostOf) (by decide +kernel)) (fun _ _ _ _ _ => pg_tup rfl (pgs_cons (pg_name (i := 6) scCostOf.nd rfl (Or.inl rfl)) (pgs_cons (pg_name (i := 7) scCostOf.nd rfl (Or.inl rfl)) (pgs_cons (pg_name (i := 8) scCostOf.nd rfl (Or.inl rfl)) pgs_nil)))) (fun _ _ _ _ _ => pts_nil) (fun _ _ _ _ _ => pe_call G6 (hr.mono (by decide)) (by rfl) D6.g D6.F.kp D6.b .nil pass0 (pa_cons (pv 8) (pa_cons (pe_ix (r := rIxT K) ix_tup (pe_ix (r := rIxT K) ix_tup (pv 2) (pe_dget hu (pv 4) (pv 6) (fun _ _ => rfl)) (fun _ _ => rfl)) (pe_dget hu (pv 5) (pv 7) (fun _ _ => rfl)) (fun _ _ => rfl)) pa_nil)))) pa_nil)))))))
      , ?_⟩
    obtain ⟨hx, hy, sx, sy, hd, ok⟩ := C
    refine ⟨_, rfl, _, rfl, _, rfl, p, q, v, xs, ys, rows, rfl, hx, hy, sx, sy, hd, ok, fun H1 s1 => ?_⟩
    refine ⟨_, rfl, t, ts, rfl, hT.tk (tk_same s1), tab, fun H2 s2 => ⟨_, rfl, iteF ?_⟩⟩
    have s02 := s1.trans s2
    refine ⟨_, rfl, _, rfl, _, rfl, t, p, q, ts, xs, ys, rfl, hT.tk (tk_same s02), tab, hx.tk (tk_same s02), hy.tk (tk_same s02), ix, iy, fun H3 s3 => ⟨_, rfl, iteF ?_⟩⟩
    have s03 := s02.trans s3
    have nx : (xs.map (·.1)).Nodup := sx.2.2.imp fun e => Int.ne_of_lt e
    have ny : (ys.map (·.1)).Nodup := sy.2.2.imp fun e => Int.ne_of_lt e
    have lx := sx.1
    have ly := sy.1
    refine ⟨_, rfl, p, xs, rfl, hx.tk (tk_same s03), nx, by omega, fun H4 d1 s4 hd1 => ?_⟩
    have s04 := s03.trans s4
    refine ⟨_, rfl, q, ys, rfl, hy.tk (tk_same s04), ny, by omega, fun H5 d2 s5 hd2 => ?_⟩
    have s05 := s04.trans s5
    have hd1' := hd1.same s5
    obtain ⟨vs, hp, hP⟩ := hT.tk (tk_same s05)
    have l16 := tab.few
    refine ⟨_, rfl, t, rfl, ⟨_, hp⟩, fun D hD => lc_tup (K := K) (a := t) (xs := vs) (fun i H' => LcF K H5 D ((ts.take i).map fun a => scl a.2.2 (costAt xs ys rows a.1 a.2.1)) H') (LcF.start hD) (fun i H' _ ⟨_, _, s6, _⟩ => s6.tup hp) ?_ ?_⟩
    · rintro i u H' hi ⟨us, h1, s6, hf⟩
      obtain ⟨a, r, x, y, z, rfl, hti, ha, hz⟩ := hP.get hi
      have hi2 : i < ts.length := (List.getElem?_eq_some_iff.mp hti).1
      have hm := List.mem_of_getElem? hti
      have g := tab.good _ hm
      have mx := tab.start_mem ix hm
      have my := tab.end_mem iy hm
      obtain ⟨row, e1, e2, e3⟩ := cost_get ok (ixOf_get mx).2 (ixOf_get my).2
      obtain ⟨c, cs, b, ec, hc, hcb, hb⟩ := costD_row (hd.same (s05.trans s6)) e1
      refine ⟨a, _, rfl, s6.tup ha, rfl, _, _, rfl, _, _, rfl, _, _, rfl, rfl, rfl, ?_⟩
      dsimp only [tYes]
      rw [if_pos rfl]
      refine ⟨_, rfl, _, rfl, _, rfl, _, rfl, d1, _, rfl, (hd1'.same s6).get mx, ?_⟩
      refine ⟨c, cs, _, _, ec, rfl, hc, atI_nat hcb, ?_⟩
      refine ⟨_, rfl, _, rfl, d2, _, rfl, (hd2.same s6).get my, ?_⟩
      refine ⟨b, _, _, _, rfl, rfl, hb, atI_nat (by rw [List.getElem?_map, e2]; rfl), ?_⟩
      refine ⟨r, z, _, rfl, s6.tup hz, g.2.2.2.2.1, (tab.small _ hm).up (by decide), Nat.lt_of_le_of_lt e3 (by decide), fun t2 nt => ?_⟩
      have k1 := Same.new (o := .tup [V.int (scl z (costAt xs ys rows x y)).1, V.int (scl z (costAt xs ys rows x y)).2]) nt
      refine ⟨us, k1 _ _ h1, small1000 ?_, ?_⟩
      · rw [hf.len, List.length_map, List.length_take]
        omega
      · show LcF K H5 D _ _
        rw [take_snoc hti, List.map_append]
        exact LcF.step hD (k1 _ _ h1) (s6.trans k1) (hf.tk (tk_same k1)) FT.new
    · rintro H6 ⟨us, h1, s6, hf⟩
      rw [hP.len, List.take_length] at hf
      refine ⟨D, us, _, rfl, SqL.of h1, hf, fun z hz => ?_, by rw [List.length_map]; omega, fun H7 r s7 hr7 => k _ r (s05.trans (s6.trans s7)) hr7⟩
      obtain ⟨a, ha, rfl⟩ := List.mem_map.mp hz
      have g := tab.good _ ha
      obtain ⟨_, _, _, e3⟩ := cost_get ok (ixOf_get (tab.start_mem ix ha)).2 (ixOf_get (tab.end_mem iy ha)).2
      exact ⟨scl_fr g.2.2.2.2.1 _, (scl_sz (m := 10) g.2.2.2.2.1 (tab.small _ ha) (Nat.lt_of_le_of_lt e3 (by decide))).up (by decide)⟩
end
end CS
set_option Elab.async false
set_option maxRecDepth 100000
set_option maxHeartbeats 8000000
set_option linter.unusedVariables false
set_option pp.maxSteps 400
namespace CS
open PySem L2
theorem shaped_list {ds : List PyData} (h : SeqAt.shaped (.tuple ds) = true) : SeqAt.shaped (.list ds) = true := by
  have h1 := SeqAt.canLay_of_shaped h
  have h2 := SeqAt.depth_of_shaped h
  simp only [PyData.canLay0] at h1
  simp only [PyData.depth] at h2
  refine Bool.and_eq_true_iff.mpr ⟨?_, decide_eq_true ?_⟩
  · simp only [PyData.canLay0, h1]
  · simp only [PyData.depth]
    omega
/-- the word of a kind -/
def wordS (ups downs : List (Nat × Nat)) : Str := if ups = [] then (if downs = [] then "straight" else "down") else if downs = [] then "up" else "mixed"
/-- what kind_of tells -/
def kindO (ups downs : List (Nat × Nat)) : PyData := if ups ≠ [] ∧ downs ≠ [] then .none else .str (wordS ups downs)
/-- one side of a table, by its spot -/
def sideN (n : Int) (ts : List Stp) : List (Int × Fx) := ts.map fun a => (if n = 0 then a.1 else a.2.1, a.2.2)
theorem sideN_0 (ts : List Stp) : sideN 0 ts = starts ts := rfl
theorem sideN_1 (ts : List Stp) : sideN 1 ts = ends ts := rfl
section
variable {P : Program} {w : World} {K : PySem.W.Frag} {mg : Str → Option Value} {base : Heap}
def spDowns (K : PySem.W.Frag) : Sp := fun vs H Q _ => ∃ p q v xs ys rows, vs = [.ref p, .ref q, v] ∧ CArg K H p q v xs ys rows ∧ ∀ H' r, Same H H' → Dp K H' r (.tuple ((downsO ys rows).map plD)) → Q r H'
theorem scBendsDown : FnScope ["one", "other", "costs"] ["one", "other", "costs"] (defScope sBendsDown) := ⟨rfl, rfl, rfl, by decide +kernel, rfl, by decide +kernel, by decide +kernel⟩
theorem ok_bends_down {f f1 f2 : Addr} {fd fd1 fd2 : FuncData} {t1 : Tok} (F : Df K mg "bends_down" sBendsDown ["one", "other", "costs"] f fd) (D1 : Df K mg "bends" sBends ["other", "costs", "way"] f1 fd1) (G1 : FnOk P w K mg base CX0 2 f1 fd1 ["other", "costs", "way"] (spBends K)) (D2 : Df K mg "need_costs" sNeedCosts ["one", "other", "thing"] f2 fd2) (G2 : FnOk P w K mg base CX0 8 f2 fd2 ["one", "other", "thing"] (spNeedCosts K)) (gD : mg "DOWN" = some (.int (-1) t1)) : FnOk P w K mg base CX0 9 f fd ["one", "other", "costs"] (spDowns K) := by
  refine F.F.ok scBendsDown (fun vs H Q E h => ?_) (fun cdv A outer s H vs Q E hr h => ?_)
  · obtain ⟨p, q, v, xs, ys, rows, rfl, _⟩ := h
    rfl
  · obtain ⟨p, q, v, xs, ys, rows, rfl, Z, k⟩ := h
    refine ⟨_, pss_one (ps_ret (pe_call G1 (hr.mono (by decide)) (by rfl) D1.g D1.F.kp D1.b .nil pass0 (pa_cons (pv 1) (pa_cons (pe_call G2 hr (by rfl) D2.g D2.F.kp D2.b .nil pass0 (pa_cons (pv 0) (pa_cons (pv 1) (pa_cons (pv 2) pa_nil)))) (pa_cons (pe_glob (v := .int (-1)) (by rfl) gD ⟨_, rfl⟩) pa_nil))))), ?_⟩
    obtain ⟨hx, hy, sx, sy, hd, ok⟩ := id Z
    refine ⟨_, rfl, _, rfl, _, rfl, _, rfl, p, q, v, xs, ys, rows, rfl, hx, hy, sx, sy, hd, ok, fun H1 s1 => ?_⟩
    obtain ⟨o1, o2, o3, o4⟩ := (Z.same s1).bends
    exact ⟨q, v, ys, rows, -1, rfl, hy.tk (tk_same s1), hd.same s1, o1, o2, o3, o4, by decide, fun H' r s2 h2 => k H' r (s1.trans s2) h2⟩
def spKindOf (K : PySem.W.Frag) : Sp := fun vs H Q _ => ∃ p q v xs ys rows, vs = [.ref p, .ref q, v] ∧ CArg K H p q v xs ys rows ∧ ∀ H' r, Same H H' → Dp K H' r (kindO (upsO ys rows) (downsO ys rows)) → Q r H'
theorem scKindOf : FnScope ["one", "other", "costs", "word"] ["one", "other", "costs"] (defScope sKindOf) := ⟨rfl, rfl, rfl, by decide +kernel, rfl, by decide +kernel, by decide +kernel⟩
theorem kind_head (ups downs : List (Nat × Nat)) : ∃ ds, kindD ups downs = .tuple (.str (wordS ups downs) :: ds) := by
  cases ups <;> cases downs <;> exact ⟨_, rfl⟩
theorem word_mixed (ups downs : List (Nat × Nat)) : decide (V.str (wordS ups downs) = V.str "mixed") = decide (ups ≠ [] ∧ downs ≠ []) := by
  cases ups <;> cases downs <;> simp [wordS] <;> decide
theorem ok_kind_of {f f1 : Addr} {fd fd1 : FuncData} (F : Df K mg "kind_of" sKindOf ["one", "other", "costs"] f fd) (D1 : Df K mg "kind_paper" sKindPaper ["one", "other", "costs"] f1 fd1) (G1 : FnOk P w K mg base CX0 10 f1 fd1 ["one", "other", "costs"] (spKind K)) : FnOk P w K mg base CX0 11 f fd ["one", "other", "costs"] (spKindOf K) := by
  refine F.F.ok scKindOf (fun vs H Q E h => ?_) (fun cdv A outer s H vs Q E hr h => ?_)
  · obtain ⟨p, q, v, xs, ys, rows, rfl, _⟩ := h
    rfl
  · obtain ⟨p, q, v, xs, ys, rows, rfl, Z, k⟩ := h
    refine ⟨_, pss_cons (ps_set (i := 3) scKindOf.nd rfl (Or.inl rfl) (pe_ix ix_tup (pe_call G1 hr (by rfl) D1.g D1.F.kp D1.b .nil pass0 (pa_cons (pv 0) (pa_cons (pv 1) (pa_cons (pv 2) pa_nil)))) pe_int (fun _ _ => rfl)))
      (pss_one (ps_ret (pe_ifExp (pt_cmpR op_eq (pv 3) pe_str (nomark _)) pe_non (pv 3)))), ?_⟩
    refine ⟨_, rfl, _, rfl, _, rfl, p, q, v, xs, ys, rows, rfl, Z, fun H1 r s1 hr1 => ?_⟩
    obtain ⟨ds, e⟩ := kind_head (upsO ys rows) (downsO ys rows)
    rw [e] at hr1
    obtain ⟨a, us, rfl, ha, hus⟩ := hr1.tup_inv
    cases hus with
    | cons h1 h2 =>
    cases h1
    refine ⟨a, _, 0, _, rfl, rfl, ha, atI_nat (j := 0) rfl, ?_⟩
    refine ⟨_, rfl, rfl, _, rfl, ?_⟩
    have kk := k H1
    rw [word_mixed]
    unfold kindO at kk
    by_cases c : upsO ys rows ≠ [] ∧ downsO ys rows ≠ []
    · rw [decide_eq_true c]
      rw [if_pos c] at kk
      exact iteT (kk _ s1 .non)
    · rw [decide_eq_false c]
      rw [if_neg c] at kk
      exact iteF ⟨_, rfl, kk _ s1 (.str _)⟩
/-- one of some numbers -/
def spOneOf (K : PySem.W.Frag) : Sp := fun vs H Q _ => ∃ (d c l a : Addr) (k : Nat) (ns : List Int), vs = [.ref d, .ref a] ∧ StAt H d c l k ∧ k ≤ 90000 ∧ H a = some (.lst (ns.map V.int)) ∧ a ≠ d ∧ a ≠ l ∧ 0 < ns.length ∧ ns.length ≤ 900 ∧
  ∀ x H', x ∈ ns → StAt H' d c l (k + 1) → Fm d l H H' → Q (.int x) H'
theorem scLawOf : FnScope ["state", "some"] ["state", "some"] (defScope sLawOf) := ⟨rfl, rfl, rfl, by decide +kernel, rfl, by decide +kernel, by decide +kernel⟩
theorem ok_law_of {f f1 : Addr} {fd fd1 : FuncData} (F : Df K mg "_law_of" sLawOf ["state", "some"] f fd) (D1 : Df K mg "_law_draw" sDraw ["state", "many"] f1 fd1) (G1 : FnOk P w K mg base CX0 2 f1 fd1 ["state", "many"] spDraw) (T : Bt mg) : FnOk P w K mg base CX0 3 f fd ["state", "some"] (spOneOf K) := by
  refine F.F.ok scLawOf (fun vs H Q E h => ?_) (fun cdv A outer s H vs Q E hr h => ?_)
  · obtain ⟨d, c, l, a, k, ns, rfl, _⟩ := h
    rfl
  · obtain ⟨d, c, l, a, k, ns, rfl, S, hk, ha, nd, nl, l0, l9, q⟩ := h
    refine ⟨_, pss_one (ps_ret (pe_ix ix_list (pv 1) (pe_call G1 hr (by rfl) D1.g D1.F.kp D1.b .nil pass0 (pa_cons (pv 0) (pa_cons (pe_callB (r := Evl.rLenS K) call_len_seq (by rfl) T.len PySem.boot_len (pa_cons (pv 1) pa_nil)) pa_nil))) (fun _ _ => rfl))), ?_⟩
    refine ⟨_, rfl, _, rfl, _, rfl, a, _, rfl, .inl (SqL.of ha), d, c, l, k, _, rfl, S, ?_, ?_, by omega, fun r H' r0 r1 S' fm => ?_⟩
    · rw [List.length_map]; omega
    · rw [List.length_map]
      have : (2 : Nat) ^ 200 > 900 := by decide
      omega
    · rw [List.length_map] at r1
      obtain ⟨j, rfl⟩ : ∃ j : Nat, r = (j : Int) := ⟨r.toNat, by omega⟩
      have lj : j < ns.length := by omega
      have hj : ns[j]? = some ns[j] := List.getElem?_eq_getElem lj
      refine ⟨a, _, _, _, rfl, rfl, SqL.of (fm _ _ ha nd nl), atI_nat (j := j) (by rw [List.getElem?_map, hj]; rfl), ?_⟩
      exact q _ _ (List.getElem_mem lj) S' fm
/-- a side of a table, summed -/
def spLSide (K : PySem.W.Frag) : Sp := fun vs H Q _ => ∃ p ts n, vs = [.ref p, .int n] ∧ (n = 0 ∨ n = 1) ∧ TbAt K H p ts ∧ Tab ts ∧ ∀ H' r xs, Same H H' → ShAt K H' r xs → IsS (gat [] (sideN n ts)) xs → Q (.ref r) H'
theorem scLawSide : FnScope ["steps", "spot", "hefts", "step"] ["steps", "spot"] (defScope sLawSide) := ⟨rfl, rfl, rfl, by decide +kernel, rfl, by decide +kernel, by decide +kernel⟩
theorem ok_law_side {f f1 f2 : Addr} {fd fd1 fd2 : FuncData} (F : Df K mg "_law_side" sLawSide ["steps", "spot"] f fd) (D1 : Df K mg "_law_plus" sLawPlus ["one", "other"] f1 fd1) (G1 : FnOk P w K mg base CX0 2 f1 fd1 ["one", "other"] (spF2 K (fun _ _ => True) fadd)) (D2 : Df K mg "_law_share_of" sLawShareOf ["hefts"] f2 fd2)
    (G2 : FnOk P w K mg base CX0 1 f2 fd2 ["hefts"] (spShOf K)) (T : Bt mg) : FnOk P w K mg base CX0 3 f fd ["steps", "spot"] (spLSide K) := by
  refine F.F.ok scLawSide (fun vs H Q E h => ?_) (fun cdv A outer s H vs Q E hr h => ?_)
  · obtain ⟨p, ts, n, rfl, _⟩ := h
    rfl
  · obtain ⟨p, ts, n, rfl, hn, ⟨vs, hp, hP⟩, tab, k⟩ := h
    have hu := hu_of hr
    refine ⟨_, pss_cons (ps_set (i := 2) scLawSide.nd rfl (Or.inl rfl) pe_dnewK)
      (pss_cons (ps_for PassesOwn.never rfl (pi_tup (pv 0)) (pg_name (i := 3) scLawSide.nd rfl (Or.inl rfl)) (pss_one (ps_dput hu (pv 2) (pe_ix ix_tup (pv 3) (pv 1) (fun _ _ => rfl)) (pe_call G1 hr (by rfl) D1.g D1.F.kp D1.b .nil pass0 (pa_cons (pe_dget2 hu (pv 2) (pe_ix ix_tup (pv 3) (pv 1) (fun _ _ => rfl)) (pe_tup (pa_cons pe_int (pa_cons pe_int pa_nil))) ⟨rfl, rfl, rfl, rfl⟩) (pa_cons (pe_ix ix_tup (pv 3) pe_int (fun _ _ => rfl)) pa_nil))) rfl)))
      (pss_one (ps_ret (pe_call G2 (hr.mono (by decide)) (by rfl) D2.g D2.F.kp D2.b .nil pass0 (pa_cons (pv 2) pa_nil))))), ?_⟩
    intro d hd
    have s0 : Same H (upd H d (.dK [])) := Same.new hd
    have l16 := tab.few
    have al : AllF 90 (sideN n ts) := by
      rcases hn with rfl | rfl
      · exact tab.starts_all
      · exact tab.ends_all
    refine ⟨_, rfl, p, rfl, ⟨_, s0.tup hp⟩, for_tup (K := K) (a := p) (xs := vs) (fun i σ H' => ∃ u kvs, σ = [some (.ref p), some (.int n), some (.ref d), u] ∧ Same H H' ∧ H' d = some (.dK kvs) ∧ DPr K H' kvs (gat [] (sideN n (ts.take i)))) ⟨none, [], rfl, s0, upd_same, .nil⟩ (fun i σ H' _ ⟨_, _, _, s1, _⟩ => s1.tup hp) ?_ ?_⟩
    · rintro i v σ H' hi ⟨u1, kvs, rfl, s1, hdk, hD⟩
      obtain ⟨q, r, x, y, u, rfl, hti, hq, hr'⟩ := hP.get hi
      have hi2 : i < ts.length := (List.getElem?_eq_some_iff.mp hti).1
      have g := tab.good _ (List.mem_of_getElem? hti)
      have sm := tab.small _ (List.mem_of_getElem? hti)
      have at0 : atI [V.int x, V.int y, V.ref r] n = some (.int (if n = 0 then x else y)) := by
        rcases hn with rfl | rfl
        · exact atI_nat (j := 0) rfl
        · exact atI_nat (j := 1) rfl
      have alt : AllF 90 (sideN n (ts.take i)) := by
        unfold sideN
        rw [List.map_take]
        exact al.take
      have hq' := s1.tup hq
      have eall : gat [] (sideN n (ts.take (i + 1))) = ups (gat [] (sideN n (ts.take i))) (if n = 0 then x else y) (fadd (lk (gat [] (sideN n (ts.take i))) (if n = 0 then x else y)) u) := by
        unfold sideN
        rw [take_snoc hti, List.map_append]
        exact gat_snoc _ _ _
      generalize (if n = 0 then x else y) = m at *
      have hz := gat_sz alt m
      have lt2 : (sideN n (ts.take i)).length ≤ 16 := by
        unfold sideN
        rw [List.length_map, List.length_take]
        omega
      refine ⟨_, rfl, d, rfl, .inl ⟨kvs, .inl hdk⟩, _, rfl, _, rfl, q, _, _, _, rfl, rfl, hq', at0, (by show 2 ≤ sizeLine; decide), fun t0 ht0 => ?_⟩
      have k0 := Same.new (o := .tup [V.int 0, V.int 1]) ht0
      obtain ⟨o, a, g1, g2, g3⟩ := dget_or (aN := t0) (k0 _ _ hdk) (hD.tk (tk_same k0)) (FT.new (x := (0, 1))) m
      refine ⟨o, g1, ?_⟩
      rw [g2]
      refine ⟨_, rfl, q, _, 2, _, rfl, rfl, k0.tup hq', atI_nat (j := 2) rfl, ?_⟩
      refine ⟨a, r, _, u, rfl, g3, k0.tup (s1.tup hr'), gat_fr alt m, g.2.2.2.2.1, hz.up (by omega), sm.up (by decide), trivial, fun t ht => ?_⟩
      have k1 := k0.trans (Same.new (o := .tup [.int (fadd (lk (gat [] (sideN n (ts.take i))) m) u).1, .int (fadd (lk (gat [] (sideN n (ts.take i))) m) u).2]) ht)
      have hl : kvs.length < sizeLine := by
        refine small1000 ?_
        rw [hD.len]
        have := gat_len (sideN n (ts.take i)) []
        rw [List.length_nil] at this
        omega
      refine ⟨_, rfl, _, rfl, _, rfl, q, _, _, _, rfl, rfl, k1.tup hq', at0, d, _, rfl, DPut.k (k := Sum.inl m) (k1 _ _ hdk) hl, ?_⟩
      refine ⟨_, _, rfl, same_upd hd (s1.trans k1), upd_same, ?_⟩
      rw [eall]
      exact ((hD.tk (tk_same k1)).put (gat_nodup _ _ List.nodup_nil) FT.new).tk (tk_dk (k1 _ _ hdk))
    · rintro σ H1 ⟨u1, kvs, rfl, s1, hdk, hD⟩
      rw [hP.len, List.take_length] at hD
      have lg := gat_len (sideN n ts) []
      have e : (sideN n ts).length = ts.length := by unfold sideN; rw [List.length_map]
      rw [List.length_nil] at lg
      exact ⟨_, rfl, d, kvs, _, rfl, hdk, hD, gat_nodup _ _ List.nodup_nil, by omega, fun H' r zs s2 h1 h2 => k _ _ _ (s1.trans s2) h1 h2⟩
end
end CS
set_option Elab.async false
set_option maxRecDepth 100000
set_option maxHeartbeats 8000000
set_option linter.unusedVariables false
set_option pp.maxSteps 400
namespace CS
open PySem L2
theorem lst_isE (ps : List (Nat × Nat)) : (ps.map plD).isEmpty = decide (ps = []) := by cases ps <;> simp
/-- two lists of places, one of them hollow -/
theorem eqv_one {a b : List (Nat × Nat)} (h : ¬ (a ≠ [] ∧ b ≠ [])) : PyData.eqv (.list (a.map plD)) (.list (b.map plD)) = decide (a = [] ∧ b = []) := by
  cases a with
  | nil =>
    cases b with
    | nil => rfl
    | cons b bs => rfl
  | cons a as =>
    cases b with
    | nil => rfl
    | cons b bs => exact absurd ⟨by simp, by simp⟩ h
/-- a list of pairs of a key and a thing, that is being made at D -/
def LcKV (K : PySem.W.Frag) (H : Hp) (D : Addr) (kvs : List (Key × V)) (H' : Hp) : Prop := ∃ ps : List Addr, H' D = some (.lst (ps.map V.ref)) ∧ Same H H' ∧ Paired (fun p (kv : Key × V) => SqT K H' p [kV kv.1, kv.2]) ps kvs
theorem LcKV.start {K : PySem.W.Frag} {H : Hp} {D : Addr} (h : H D = none) : LcKV K H D [] (upd H D (.lst [])) := ⟨[], upd_same, Same.new h, .nil⟩
theorem LcKV.step {K : PySem.W.Frag} {H H4 : Hp} {D p : Addr} {kvs : List (Key × V)} {ps : List Addr} {kv : Key × V} (h0 : H D = none) (h1 : H4 D = some (.lst (ps.map V.ref))) (s : Same H H4) (f : Paired (fun p (kv : Key × V) => SqT K H4 p [kV kv.1, kv.2]) ps kvs) (hp : SqT K H4 p [kV kv.1, kv.2]) : LcKV K H D (kvs ++ [kv]) (upd H4 D (.lst (ps.map V.ref ++ [.ref p]))) := by
  refine ⟨ps ++ [p], by rw [upd_same, List.map_append]; rfl, same_upd h0 s, ?_⟩
  exact (f.snoc hp).mono fun q kv h => tk_lst h1 _ _ h
section
variable {P : Program} {w : World} {K : PySem.W.Frag} {mg : Str → Option Value} {base : Heap}
def spWord (K : PySem.W.Frag) : Sp := fun vs H Q _ => ∃ p q v xs ys rows, vs = [.ref p, .ref q, v] ∧ CArg K H p q v xs ys rows ∧ ∀ H', Same H H' → Q (.str (wordS (upsO ys rows) (downsO ys rows))) H'
theorem scLawWord : FnScope ["one", "other", "costs_so", "ups", "downs"] ["one", "other", "costs_so"] (defScope sLawWord) := ⟨rfl, rfl, rfl, by decide +kernel, rfl, by decide +kernel, by decide +kernel⟩
theorem ok_law_word {f f1 : Addr} {fd fd1 : FuncData} (F : Df K mg "_law_word" sLawWord ["one", "other", "costs_so"] f fd) (D1 : Df K mg "_law_bends" sLawBends ["one", "other", "costs_so"] f1 fd1) (G1 : FnOk P w K mg base CX0 1 f1 fd1 ["one", "other", "costs_so"] (spLBends K)) : FnOk P w K mg base CX0 2 f fd ["one", "other", "costs_so"] (spWord K) := by
  refine F.F.ok scLawWord (fun vs H Q E h => ?_) (fun cdv A outer s H vs Q E hr h => ?_)
  · obtain ⟨p, q, v, xs, ys, rows, rfl, _⟩ := h
    rfl
  · obtain ⟨p, q, v, xs, ys, rows, rfl, C, k⟩ := h
    refine ⟨_, pss_cons (ps_asg (pe_call G1 hr (by rfl) D1.g D1.F.kp D1.b .nil pass0 (pa_cons (pv 0) (pa_cons (pv 1) (pa_cons (pv 2) pa_nil)))) (pg_tup rfl (pgs_cons (pg_name (i := 3) scLawWord.nd rfl (Or.inl rfl)) (pgs_cons (pg_name (i := 4) scLawWord.nd rfl (Or.inl rfl)) pgs_nil))))
      (pss_cons (ps_if (PW.pt (pw_and (pt_cmpR (op_neD hr.units) (pv 3) (pe_lst pa_nil) (nomark _)) (pw_and1 (pt_cmpR (op_neD hr.units) (pv 4) (pe_lst pa_nil) (nomark _))))) (pss_one (ps_ret pe_str)) pss_nil)
      (pss_cons (ps_if (pt_cmpR (op_eqD hr.units) (pv 3) (pv 4) (nomark _)) (pss_one (ps_ret pe_str)) pss_nil)
      (pss_one (ps_ret (pe_ifExp (pt_cmpR (op_eqD hr.units) (pv 3) (pe_lst pa_nil) (nomark _)) pe_str pe_str))))), ?_⟩
    refine ⟨_, rfl, _, rfl, _, rfl, p, q, v, xs, ys, rows, rfl, C, fun H1 r a b s1 hr1 ha hb => ?_⟩
    refine ⟨r, _, rfl, hr1, rfl, _, _, rfl, _, _, rfl, rfl, ?_⟩
    generalize upsO ys rows = ups at *
    generalize downsO ys rows = downs at *
    have su := shaped_list (shaped_pls ups)
    have sd := shaped_list (shaped_pls downs)
    have sn : SeqAt.shaped (.list []) = true := by decide
    refine ⟨_, rfl, (by show 0 ≤ sizeLine; decide), fun t nt => ⟨_, _, ha.same (Same.new nt), .lst (SqL.of upd_same) .nil, su, sn, _, rfl, ?_⟩⟩
    have k1 := Same.new (o := .lst []) nt
    rw [eqv_list_nil, lst_isE]
    have s2 := s1.trans k1
    have ha2 := ha.same k1
    have hb2 := hb.same k1
    generalize upd H1 t (.lst []) = H2 at *
    have fin : ¬ (ups ≠ [] ∧ downs ≠ []) → ∀ H3, Same H2 H3 → ∃ x, some (some a) = some (some x) ∧ ∃ y, some (some b) = some (some y) ∧ ∃ d e, Dp K H3 x d ∧ Dp K H3 y e ∧ SeqAt.shaped d = true ∧ SeqAt.shaped e = true ∧ ∃ z, V.bl (PyData.eqv d e) = V.bl z ∧
        if z = true then Q (.str "straight") H3 else ∃ u, some (some a) = some (some u) ∧ (0 ≤ sizeLine ∧ ∀ t, H3 t = none → ∃ d e, Dp K (upd H3 t (.lst [])) u d ∧ Dp K (upd H3 t (.lst [])) (.ref t) e ∧ SeqAt.shaped d = true ∧ SeqAt.shaped e = true ∧ ∃ z, V.bl (PyData.eqv d e) = V.bl z ∧ if z = true then Q (.str "down") (upd H3 t (.lst [])) else Q (.str "up") (upd H3 t (.lst []))) := fun no H3 s3 => by
      have ha3 := ha2.same s3
      have hb3 := hb2.same s3
      have k0 := k H3 (s2.trans s3)
      refine ⟨a, rfl, b, rfl, _, _, ha3, hb3, su, sd, _, rfl, ?_⟩
      rw [eqv_one no]
      by_cases both : ups = [] ∧ downs = []
      · rw [decide_eq_true both]
        obtain ⟨rfl, rfl⟩ := both
        exact iteT k0
      · rw [decide_eq_false both]
        refine iteF ⟨a, rfl, (by show 0 ≤ sizeLine; decide), fun t nt => ⟨_, _, ha3.same (Same.new nt), .lst (SqL.of upd_same) .nil, su, sn, _, rfl, ?_⟩⟩
        have k4 := k _ ((s2.trans s3).trans (Same.new (o := .lst []) nt))
        rw [eqv_list_nil, lst_isE]
        by_cases eu : ups = []
        · rw [decide_eq_true eu]
          subst eu
          have ed : downs ≠ [] := fun z => both ⟨rfl, z⟩
          rw [show wordS [] downs = "down" by simp [wordS, ed]] at k4
          exact iteT k4
        · rw [decide_eq_false eu]
          have ed : downs = [] := by
            by_cases z : downs = []
            · exact z
            · exact absurd ⟨eu, z⟩ no
          subst ed
          rw [show wordS ups [] = "up" by simp [wordS, eu]] at k4
          exact iteF k4
    by_cases eu : ups = []
    · rw [decide_eq_true eu]
      exact iteF (iteF (fin (fun z => z.1 eu) H2 (Same.refl H2)))
    · rw [decide_eq_false eu]
      refine iteT ⟨_, rfl, (by show 0 ≤ sizeLine; decide), fun t nt => ⟨_, _, hb2.same (Same.new nt), .lst (SqL.of upd_same) .nil, sd, sn, _, rfl, ?_⟩⟩
      have k3 := Same.new (o := .lst []) nt
      rw [eqv_list_nil, lst_isE]
      by_cases ed : downs = []
      · rw [decide_eq_true ed]
        exact iteF (fin (fun z => z.2 ed) _ k3)
      · rw [decide_eq_false ed]
        have k4 := k _ (s2.trans k3)
        rw [show wordS ups downs = "mixed" by simp [wordS, eu, ed]] at k4
        exact iteT k4
end
end CS
set_option Elab.async false
set_option maxRecDepth 100000
set_option maxHeartbeats 8000000
set_option linter.unusedVariables false
set_option pp.maxSteps 400
namespace CS
open PySem L2
section
variable {P : Program} {w : World} {K : PySem.W.Frag} {mg : Str → Option Value} {base : Heap}
abbrev nsLCost : List Str := ["one", "other", "costs_so", "steps", "rows", "spot", "mark", "heft", "columns", "near", "far"]
theorem scLawCost : FnScope nsLCost ["one", "other", "costs_so", "steps"] (defScope sLawCost) := ⟨rfl, rfl, rfl, by decide +kernel, rfl, by decide +kernel, by decide +kernel⟩
/-- where the numbers of a share stand, as the law has it: what is owed by one turn of the list that dict(..) takes -/
def plcUpTo (ms : List Int) (i : Nat) (kvs : List (Key × V)) : Prop := kvs.length = i ∧ ∀ (j : Nat) (k : Int), (ms.take i)[j]? = some k → valV (mergeK [] kvs) (.inl k : Key) = some (.int (j : Int))
theorem plcUpTo.next {ms : List Int} {i : Nat} {m : Int} {kvs : List (Key × V)} (nd : ms.Nodup) (h : plcUpTo ms i kvs) (hi : ms[i]? = some m) : plcUpTo ms (i + 1) (kvs ++ [((.inl m : Key), V.int (i : Int))]) := by
  refine ⟨by rw [List.length_append, h.1]; rfl, ?_⟩
  have e : mergeK [] (kvs ++ [((.inl m : Key), V.int (i : Int))]) = putK (mergeK [] kvs) (.inl m : Key) (.int (i : Int)) := by
    unfold mergeK
    rw [List.foldl_append]
    rfl
  rw [e]
  exact plc_put nd hi h.2
theorem ok_law_cost {f f1 f2 : Addr} {fd fd1 fd2 : FuncData} (F : Df K mg "_law_cost" sLawCost ["one", "other", "costs_so", "steps"] f fd) (D1 : Df K mg "_law_sum" sLawSum ["some"] f1 fd1) (G1 : FnOk P w K mg base CX0 3 f1 fd1 ["some"] (spSum K)) (D2 : Df K mg "_law_times" sLawTimes ["one", "other"] f2 fd2) (G2 : FnOk P w K mg base CX0 2 f2 fd2 ["one", "other"] (spF2 K (fun _ _ => True) fmul)) (T : Bt mg) (menum : mg "enumerate" = none) : FnOk P w K mg base CX0 4 f fd ["one", "other", "costs_so", "steps"] (spCost K) := by
  refine F.F.ok scLawCost (fun vs H Q E h => ?_) (fun cdv A outer s H vs Q E hr h => ?_)
  · obtain ⟨p, q, v, t, xs, ys, rows, ts, rfl, _⟩ := h
    rfl
  · obtain ⟨p, q, v, t, xs, ys, rows, ts, rfl, C, hT, tab, ix, iy, k⟩ := h
    have hu := hu_of hr
    refine ⟨_, pss_cons (ps_set (i := 4) scLawCost.nd rfl (Or.inr rfl) (pe_callTy (call_dictP rfl) (by rfl) T.dict (by decide +kernel) (pa_cons (pe_lc (own := [("spot", 5), ("mark", 6), ("heft", 7)]) (g := gTup K 2 (gCons (gName 5) (gCons (gTup K 2 (gCons (gName 6) (gCons (gName 7) gNil))) gNil))) (tt := tYes) rfl scLawCost.nd (pi_enumT (by rfl) menum (pa_cons (pv 0) pa_nil)) (blkOk_by (N := nsLCost) (sc := defScope sLawCost) (by decide +kernel)) (fun _ _ _ _ _ => pg_tup rfl (pgs_cons (pg_name (i := 5) scLawCost.nd rfl (Or.inl rfl)) (pgs_cons (pg_tup rfl (pgs_cons (pg_name (i := 6) scLawCost.nd rfl (Or.inl rfl)) (pgs_cons (pg_name (i := 7) scLawCost.nd rfl (Or.inl rfl)) pgs_nil))) pgs_nil))) (fun _ _ _ _ _ => pts_nil) (fun _ _ _ _ _ => pe_tup (pa_cons (pv 6) (pa_cons (pv 5) pa_nil)))) pa_nil)))
      (pss_cons (ps_set (i := 8) scLawCost.nd rfl (Or.inr rfl) (pe_callTy (call_dictP rfl) (by rfl) T.dict (by decide +kernel) (pa_cons (pe_lc (own := [("spot", 5), ("mark", 6), ("heft", 7)]) (g := gTup K 2 (gCons (gName 5) (gCons (gTup K 2 (gCons (gName 6) (gCons (gName 7) gNil))) gNil))) (tt := tYes) rfl scLawCost.nd (pi_enumT (by rfl) menum (pa_cons (pv 1) pa_nil)) (blkOk_by (N := nsLCost) (sc := defScope sLawCost) (by decide +kernel)) (fun _ _ _ _ _ => pg_tup rfl (pgs_cons (pg_name (i := 5) scLawCost.nd rfl (Or.inl rfl)) (pgs_cons (pg_tup rfl (pgs_cons (pg_name (i := 6) scLawCost.nd rfl (Or.inl rfl)) (pgs_cons (pg_name (i := 7) scLawCost.nd rfl (Or.inl rfl)) pgs_nil))) pgs_nil))) (fun _ _ _ _ _ => pts_nil) (fun _ _ _ _ _ => pe_tup (pa_cons (pv 6) (pa_cons (pv 5) pa_nil)))) pa_nil)))
      (pss_one (ps_ret (pe_call G1 hr (by rfl) D1.g D1.F.kp D1.b .nil pass0 (pa_cons (pe_lc (own := [("near", 9), ("far", 10), ("heft", 7)]) (g := gTup K 3 (gCons (gName 9) (gCons (gName 10) (gCons (gName 7) gNil)))) (tt := tYes) rfl scLawCost.nd (pi_tup (pv 3)) (blkOk_by (N := nsLCost) (sc := defScope sLawCost) (by decide +kernel)) (fun _ _ _ _ _ => pg_tup rfl (pgs_cons (pg_name (i := 9) scLawCost.nd rfl (Or.inl rfl)) (pgs_cons (pg_name (i := 10) scLawCost.nd rfl (Or.inl rfl)) (pgs_cons (pg_name (i := 7) scLawCost.nd rfl (Or.inl rfl)) pgs_nil)))) (fun _ _ _ _ _ => pts_nil) (fun _ _ _ _ _ => pe_call G2 (hr.mono (by decide)) (by rfl) D2.g D2.F.kp D2.b .nil pass0 (pa_cons (pv 7) (pa_cons (pe_tup (pa_cons (pe_ix (r := rIxT K) ix_tup (pe_ix (r := rIxT K) ix_tup (pv 2) (pe_dget hu (pv 4) (pv 9) (fun _ _ => rfl)) (fun _ _ => rfl)) (pe_dget hu (pv 8) (pv 10) (fun _ _ => rfl)) (fun _ _ => rfl)) (pa_cons pe_int pa_nil))) pa_nil)))) pa_nil))))), ?_⟩
    obtain ⟨hx, hy, sx, sy, hd, ok⟩ := C
    have nx : (xs.map (·.1)).Nodup := sx.2.2.imp fun e => Int.ne_of_lt e
    have ny : (ys.map (·.1)).Nodup := sy.2.2.imp fun e => Int.ne_of_lt e
    have lx := sx.1
    have ly := sy.1
    have l16 := tab.few
    obtain ⟨vx, hvx, hPx⟩ := id hx
    refine ⟨_, rfl, p, vx, rfl, hvx, fun D hD => lc_it (walk_enT (K := K) (a := p) (xs := vx)) (fun i H' => ∃ kvs, LcKV K H D kvs H' ∧ plcUpTo (xs.map (·.1)) i kvs) ⟨[], LcKV.start hD, rfl, fun j k h => by simp at h⟩ (fun i H' _ ⟨_, ⟨_, _, s, _⟩, _⟩ => s.tup hvx) ?_ ?_⟩
    · rintro i u H' H2 lt ⟨kvs, ⟨ps, h1, s1, hf⟩, up⟩ ⟨TT, a, b, rfl, nT, rfl, ha, hb⟩
      dsimp only at ha hb
      cases ha
      obtain ⟨qq, r, m, z, rfl, hxi, hq, hz⟩ := hPx.get hb
      have li : i < xs.length := (List.getElem?_eq_some_iff.mp hxi).1
      have k2 := Same.new (o := .tup [V.int (i : Nat), V.ref qq]) nT
      refine ⟨TT, _, rfl, SqT.of upd_same, rfl, _, _, rfl, _, _, rfl, ⟨qq, _, rfl, k2.tup (s1.tup hq), rfl, _, _, rfl, _, _, rfl, rfl, rfl, rfl, ?_⟩⟩
      dsimp only [tYes]
      rw [if_pos rfl]
      refine ⟨_, rfl, _, rfl, (by show 2 ≤ sizeLine; decide), fun t3 n3 => ?_⟩
      have k3 := k2.trans (Same.new (o := .tup [V.int m, V.int (i : Nat)]) n3)
      have hl := hf.length
      refine ⟨_, k3 _ _ h1, small1000 ?_, _, LcKV.step (kv := ((.inl m : Key), V.int (i : Int))) hD (k3 _ _ h1) (s1.trans k3) (hf.mono fun q kv h => k3.tup h) (SqT.of upd_same), up.next nx (by rw [List.getElem?_map, hxi]; rfl)⟩
      rw [List.length_map, hl, up.1]
      omega
    rintro H1 ⟨kvs, ⟨ps, h1, s1, hf⟩, up⟩
    rw [hPx.len] at up
    refine ⟨D, ps, kvs, rfl, SqL.of h1, hf, fun d1 nd1 => ?_⟩
    have k1 := Same.new (o := .dK (mergeK [] kvs)) nd1
    have P1 : PlcAt (upd H1 d1 (.dK (mergeK [] kvs))) d1 (xs.map (·.1)) := ⟨_, upd_same, fun j m e => up.2 j m (by rw [List.take_of_length_le (by rw [List.length_map]; exact Nat.le_refl _)]; exact e)⟩
    have s2 := s1.trans k1
    generalize upd H1 d1 (.dK (mergeK [] kvs)) = H2 at *
    obtain ⟨vy, hvy, hPy⟩ := hy.tk (tk_same s2)
    refine ⟨_, rfl, q, vy, rfl, hvy, fun D2 hD2 => lc_it (walk_enT (K := K) (a := q) (xs := vy)) (fun i H' => ∃ kvs, LcKV K H2 D2 kvs H' ∧ plcUpTo (ys.map (·.1)) i kvs) ⟨[], LcKV.start hD2, rfl, fun j k h => by simp at h⟩ (fun i H' _ ⟨_, ⟨_, _, s, _⟩, _⟩ => s.tup hvy) ?_ ?_⟩
    · rintro i u H' H3 lt ⟨kvs, ⟨ps, h1, s1, hf⟩, up⟩ ⟨TT, a, b, rfl, nT, rfl, ha, hb⟩
      dsimp only at ha hb
      cases ha
      obtain ⟨qq, r, m, z, rfl, hxi, hq, hz⟩ := hPy.get hb
      have li : i < ys.length := (List.getElem?_eq_some_iff.mp hxi).1
      have k2 := Same.new (o := .tup [V.int (i : Nat), V.ref qq]) nT
      refine ⟨TT, _, rfl, SqT.of upd_same, rfl, _, _, rfl, _, _, rfl, ⟨qq, _, rfl, k2.tup (s1.tup hq), rfl, _, _, rfl, _, _, rfl, rfl, rfl, rfl, ?_⟩⟩
      dsimp only [tYes]
      rw [if_pos rfl]
      refine ⟨_, rfl, _, rfl, (by show 2 ≤ sizeLine; decide), fun t3 n3 => ?_⟩
      have k3 := k2.trans (Same.new (o := .tup [V.int m, V.int (i : Nat)]) n3)
      have hl := hf.length
      refine ⟨_, k3 _ _ h1, small1000 ?_, _, LcKV.step (kv := ((.inl m : Key), V.int (i : Int))) hD2 (k3 _ _ h1) (s1.trans k3) (hf.mono fun q kv h => k3.tup h) (SqT.of upd_same), up.next ny (by rw [List.getElem?_map, hxi]; rfl)⟩
      rw [List.length_map, hl, up.1]
      omega
    rintro H3 ⟨kvs2, ⟨ps2, g1, s3, hf2⟩, up2⟩
    rw [hPy.len] at up2
    refine ⟨D2, ps2, kvs2, rfl, SqL.of g1, hf2, fun d2 nd2 => ?_⟩
    have k2 := Same.new (o := .dK (mergeK [] kvs2)) nd2
    have P2 : PlcAt (upd H3 d2 (.dK (mergeK [] kvs2))) d2 (ys.map (·.1)) := ⟨_, upd_same, fun j m e => up2.2 j m (by rw [List.take_of_length_le (by rw [List.length_map]; exact Nat.le_refl _)]; exact e)⟩
    have P1' := P1.same (s3.trans k2)
    have s4 := s2.trans (s3.trans k2)
    generalize upd H3 d2 (.dK (mergeK [] kvs2)) = H4 at *
    obtain ⟨vs, hp, hP⟩ := hT.tk (tk_same s4)
    refine ⟨_, rfl, t, rfl, ⟨_, hp⟩, fun D3 hD3 => lc_tup (K := K) (a := t) (xs := vs) (fun i H' => LcF K H4 D3 ((ts.take i).map fun a => scl a.2.2 (costAt xs ys rows a.1 a.2.1)) H') (LcF.start hD3) (fun i H' _ ⟨_, _, s6, _⟩ => s6.tup hp) ?_ ?_⟩
    · rintro i u H' hi ⟨us, h1, s6, hf⟩
      obtain ⟨a, r, x, y, z, rfl, hti, ha, hz⟩ := hP.get hi
      have hi2 : i < ts.length := (List.getElem?_eq_some_iff.mp hti).1
      have hm := List.mem_of_getElem? hti
      have g := tab.good _ hm
      have mx := tab.start_mem ix hm
      have my := tab.end_mem iy hm
      obtain ⟨row, e1, e2, e3⟩ := cost_get ok (ixOf_get mx).2 (ixOf_get my).2
      obtain ⟨c, cs, b, ec, hc, hcb, hb⟩ := costD_row (hd.same (s4.trans s6)) e1
      refine ⟨a, _, rfl, s6.tup ha, rfl, _, _, rfl, _, _, rfl, _, _, rfl, rfl, rfl, ?_⟩
      dsimp only [tYes]
      rw [if_pos rfl]
      refine ⟨_, rfl, _, rfl, _, rfl, _, rfl, d1, _, rfl, (P1'.same s6).get mx, ?_⟩
      refine ⟨c, cs, _, _, ec, rfl, hc, atI_nat hcb, ?_⟩
      refine ⟨_, rfl, _, rfl, d2, _, rfl, (P2.same s6).get my, ?_⟩
      refine ⟨b, _, _, _, rfl, rfl, hb, atI_nat (by rw [List.getElem?_map, e2]; rfl), ?_⟩
      refine ⟨(by show 2 ≤ sizeLine; decide), fun t0 n0 => ?_⟩
      have k0 := Same.new (o := .tup [V.int (costAt xs ys rows x y), V.int 1]) n0
      refine ⟨r, t0, z, (costAt xs ys rows x y, 1), rfl, k0.tup (s6.tup hz), FT.new (x := (costAt xs ys rows x y, 1)), g.2.2.2.2.1, fr_one _, (tab.small _ hm).up (by decide), sz_one (n := 1900) (lt_up (show (costAt xs ys rows x y).natAbs < 2 ^ 10 from Nat.lt_of_le_of_lt e3 (by decide)) (by decide)) (by decide), trivial, fun t2 nt => ?_⟩
      rw [scl_mul]
      have k1 := k0.trans (Same.new (o := .tup [V.int (scl z (costAt xs ys rows x y)).1, V.int (scl z (costAt xs ys rows x y)).2]) nt)
      refine ⟨us, k1 _ _ h1, small1000 ?_, ?_⟩
      · rw [hf.len, List.length_map, List.length_take]
        omega
      · show LcF K H4 D3 _ _
        rw [take_snoc hti, List.map_append]
        exact LcF.step hD3 (k1 _ _ h1) (s6.trans k1) (hf.tk (tk_same k1)) FT.new
    · rintro H6 ⟨us, h1, s6, hf⟩
      rw [hP.len, List.take_length] at hf
      refine ⟨D3, us, _, rfl, SqL.of h1, hf, fun z hz => ?_, by rw [List.length_map]; omega, fun H7 r s7 hr7 => k _ r (s4.trans (s6.trans s7)) hr7⟩
      obtain ⟨a, ha, rfl⟩ := List.mem_map.mp hz
      have g := tab.good _ ha
      obtain ⟨_, _, _, e3⟩ := cost_get ok (ixOf_get (tab.start_mem ix ha)).2 (ixOf_get (tab.end_mem iy ha)).2
      exact ⟨scl_fr g.2.2.2.2.1 _, (scl_sz (m := 10) g.2.2.2.2.1 (tab.small _ ha) (Nat.lt_of_le_of_lt e3 (by decide))).up (by decide)⟩
end
end CS
set_option Elab.async false
set_option maxRecDepth 100000
set_option maxHeartbeats 4000000
set_option linter.unusedVariables false
set_option pp.maxSteps 400
/-! the steps that the law draws are a table -/
namespace CS
open PySem L2
/-- a fraction as a number -/
def val (x : Fx) : Rat := (x.1 : Rat) / (x.2 : Rat)
theorem cast_ne {b : Int} (h : b ≠ 0) : (b : Rat) ≠ 0 := fun z => h (by exact_mod_cast z)
theorem val_low {t b : Int} (hb : b ≠ 0) : val (low t b) = (t : Rat) / (b : Rat) := by
  have h1 := low_cross (t := t) hb
  have h2 := (low_fr (t := t) hb).ne
  have h3 : ((low t b).1 : Rat) * (b : Rat) = (t : Rat) * ((low t b).2 : Rat) := by exact_mod_cast h1
  have n1 := cast_ne hb
  have n2 := cast_ne h2
  unfold val
  grind
theorem val_add {x y : Fx} (hx : Fr x) (hy : Fr y) : val (fadd x y) = val x + val y := by
  unfold fadd
  rw [val_low (dd hx hy)]
  have n1 := cast_ne hx.ne
  have n2 := cast_ne hy.ne
  unfold val
  simp only [Rat.intCast_add, Rat.intCast_mul]
  grind
theorem val_sub {x y : Fx} (hx : Fr x) (hy : Fr y) : val (fsub x y) = val x - val y := by
  unfold fsub
  rw [val_low (dd hx hy)]
  have n1 := cast_ne hx.ne
  have n2 := cast_ne hy.ne
  unfold val
  simp only [Rat.intCast_sub, Rat.intCast_mul]
  grind
theorem val_mul {x y : Fx} (hx : Fr x) (hy : Fr y) : val (fmul x y) = val x * val y := by
  unfold fmul
  rw [val_low (dd hx hy)]
  have n1 := cast_ne hx.ne
  have n2 := cast_ne hy.ne
  unfold val
  simp only [Rat.intCast_mul]
  grind
theorem val_scl {x : Fx} (hx : Fr x) (k : Int) : val (scl x k) = val x * (k : Rat) := by
  unfold scl
  rw [val_low hx.ne]
  have n1 := cast_ne hx.ne
  unfold val
  simp only [Rat.intCast_mul]
  grind
theorem val_zero {x : Fx} (hx : Fr x) (h : val x = 0) : x = (0, 1) := by
  refine fr_zero hx ?_
  have n1 := cast_ne hx.ne
  unfold val at h
  have : (x.1 : Rat) = 0 := by grind
  exact_mod_cast this
/-! tables from pairs of numbers to fractions -/
abbrev Tb2 := List ((Int × Int) × Fx)
def lk2 : Tb2 → Int × Int → Fx
  | [], _ => (0, 1)
  | (j, y) :: f, k => if j = k then y else lk2 f k
def ups2 : Tb2 → Int × Int → Fx → Tb2
  | [], k, v => [(k, v)]
  | (j, y) :: f, k, v => if j = k then (k, v) :: f else (j, y) :: ups2 f k v
theorem ups2_mem {f : Tb2} {k : Int × Int} {v : Fx} : ∀ {a : (Int × Int) × Fx}, a ∈ ups2 f k v → a = (k, v) ∨ (a ∈ f ∧ (a.1 ≠ k ∨ a ∈ f)) := by
  induction f with
  | nil => intro a h; exact .inl (by simpa [ups2] using h)
  | cons p f ih =>
    intro a h
    unfold ups2 at h
    by_cases e : p.1 = k
    · rw [if_pos e] at h
      rcases List.mem_cons.mp h with q | q
      · exact .inl q
      · exact .inr ⟨List.mem_cons_of_mem _ q, .inr (List.mem_cons_of_mem _ q)⟩
    · rw [if_neg e] at h
      rcases List.mem_cons.mp h with q | q
      · exact .inr ⟨by rw [q]; exact List.mem_cons_self, .inl (by rw [q]; exact e)⟩
      · rcases ih q with z | z
        · exact .inl z
        · exact .inr ⟨List.mem_cons_of_mem _ z.1, .inr (List.mem_cons_of_mem _ z.1)⟩
theorem ups2_keys (f : Tb2) (k : Int × Int) (v : Fx) (j : Int × Int) : j ∈ (ups2 f k v).map (·.1) ↔ j = k ∨ j ∈ f.map (·.1) := by
  induction f with
  | nil => simp [ups2]
  | cons p f ih =>
    unfold ups2
    by_cases e : p.1 = k
    · rw [if_pos e]
      simp [e]
    · rw [if_neg e]
      simp only [List.map_cons, List.mem_cons, ih]
      exact or_left_comm
theorem ups2_nodup {f : Tb2} (k : Int × Int) (v : Fx) (h : (f.map (·.1)).Nodup) : ((ups2 f k v).map (·.1)).Nodup := by
  induction f with
  | nil => simp [ups2]
  | cons p f ih =>
    rw [List.map_cons, List.nodup_cons] at h
    unfold ups2
    by_cases e : p.1 = k
    · rw [if_pos e, List.map_cons, List.nodup_cons]
      exact ⟨by rw [← e]; exact h.1, h.2⟩
    · rw [if_neg e, List.map_cons, List.nodup_cons]
      refine ⟨fun z => ?_, ih h.2⟩
      rcases (ups2_keys f k v p.1).mp z with q | q
      · exact e q
      · exact h.1 q
theorem ups2_len (f : Tb2) (k : Int × Int) (v : Fx) : (ups2 f k v).length ≤ f.length + 1 := by
  induction f with
  | nil => simp [ups2]
  | cons p f ih =>
    unfold ups2
    by_cases e : p.1 = k
    · rw [if_pos e]; simp
    · rw [if_neg e]; simp; omega
theorem lk2_mem {f : Tb2} {a : (Int × Int) × Fx} (nd : (f.map (·.1)).Nodup) (h : a ∈ f) : lk2 f a.1 = a.2 := by
  induction f with
  | nil => cases h
  | cons p f ih =>
    rw [List.map_cons, List.nodup_cons] at nd
    unfold lk2
    rcases List.mem_cons.mp h with q | q
    · rw [q, if_pos rfl]
    · rw [if_neg fun e => nd.1 (by rw [show p.1 = a.1 from e]; exact List.mem_map.mpr ⟨a, q, rfl⟩)]
      exact ih nd.2 q
theorem lk2_or (f : Tb2) (k : Int × Int) : lk2 f k = (0, 1) ∨ (k, lk2 f k) ∈ f := by
  induction f with
  | nil => exact .inl rfl
  | cons p f ih =>
    unfold lk2
    by_cases e : p.1 = k
    · rw [if_pos e]
      exact .inr (by rw [← e]; exact List.mem_cons_self)
    · rw [if_neg e]
      exact ih.imp id (List.mem_cons_of_mem _)
/-- how far the steps from k drift -/
def wsum (f : Tb2) (k : Int) : Rat := (f.map fun a => if a.1.1 = k then val a.2 * ((a.1.2 : Rat) - (k : Rat)) else 0).sum
theorem wsum_cons (p : (Int × Int) × Fx) (f : Tb2) (k : Int) : wsum (p :: f) k = (if p.1.1 = k then val p.2 * ((p.1.2 : Rat) - (k : Rat)) else 0) + wsum f k := by
  simp [wsum, List.sum_cons]
theorem val01 : val ((0, 1) : Fx) = 0 := by
  unfold val
  simp
  grind
theorem wsum_put {f : Tb2} (hf : ∀ a ∈ f, Fr a.2) {z : Fx} (hz : Fr z) (j : Int × Int) (k : Int) : wsum (ups2 f j (fadd (lk2 f j) z)) k = wsum f k + (if j.1 = k then val z * ((j.2 : Rat) - (k : Rat)) else 0) := by
  induction f with
  | nil =>
    unfold ups2 lk2
    rw [wsum_cons]
    simp only [wsum, List.map_nil, List.sum_nil]
    rw [val_add fr01 hz, val01]
    split <;> grind
  | cons p f ih =>
    unfold ups2 lk2
    by_cases e : p.1 = j
    · rw [if_pos e, if_pos e, wsum_cons, wsum_cons]
      subst e
      rw [val_add (hf p List.mem_cons_self) hz]
      dsimp only
      split <;> grind
    · rw [if_neg e, if_neg e, wsum_cons, wsum_cons, ih fun a ha => hf a (List.mem_cons_of_mem _ ha)]
      grind
/-! what holds of the table while the law draws -/
structure Hft (M G : List Int) (near : Int) (j c : Nat) (f : Tb2) : Prop where
  nd : (f.map (·.1)).Nodup
  len : f.length ≤ c
  ok : ∀ a ∈ f, Fr a.2 ∧ 0 ≤ a.2.1 ∧ a.1.2 ∈ G ∧ ((a.1.1 ∈ M ∧ a.1.1 ≠ near ∧ Sz 80 a.2) ∨ (a.1.1 = near ∧ Sz (1 + 18 * j) a.2))
theorem fadd_nonneg {x y : Fx} (hx : Fr x) (hy : Fr y) (px : 0 ≤ x.1) (py : 0 ≤ y.1) : 0 ≤ (fadd x y).1 := by
  have s := (low_sign (t := x.1 * y.2 + y.1 * x.2) (dd0 hx hy)).2
  have h1 : 0 ≤ x.1 * y.2 := Int.mul_nonneg px (Int.le_of_lt hy.pos)
  have h2 : 0 ≤ y.1 * x.2 := Int.mul_nonneg py (Int.le_of_lt hx.pos)
  unfold fadd
  exact Int.not_lt.mp fun z => absurd (s.mp z) (by omega)
theorem Hft.put {M G : List Int} {near far : Int} {j c : Nat} {f : Tb2} (h : Hft M G near j c f) {z : Fx} (hz : Fr z) (pz : 0 ≤ z.1) (sz : Sz 17 z) (hf : far ∈ G) : Hft M G near (j + 1) (c + 1) (ups2 f (near, far) (fadd (lk2 f (near, far)) z)) := by
  refine ⟨ups2_nodup _ _ h.nd, Nat.le_trans (ups2_len _ _ _) (Nat.succ_le_succ h.len), fun a ha => ?_⟩
  rcases ups2_mem ha with rfl | ⟨q, _⟩
  · have old : Fr (lk2 f (near, far)) ∧ 0 ≤ (lk2 f (near, far)).1 ∧ Sz (1 + 18 * j) (lk2 f (near, far)) := by
      rcases lk2_or f (near, far) with e | m
      · rw [e]
        exact ⟨fr01, by decide, sz01 (by omega)⟩
      · obtain ⟨a1, a2, a3, a4⟩ := h.ok _ m
        rcases a4 with ⟨_, ne, _⟩ | ⟨_, s⟩
        · exact absurd rfl ne
        · exact ⟨a1, a2, s⟩
    exact ⟨fadd_fr old.1 hz, fadd_nonneg old.1 hz old.2.1 pz, hf, .inr ⟨rfl, (fadd_sz old.1 hz old.2.2 sz).up (by omega)⟩⟩
  · obtain ⟨a1, a2, a3, a4⟩ := h.ok a q
    exact ⟨a1, a2, a3, a4.imp id fun b => ⟨b.1, b.2.up (by omega)⟩⟩
theorem Hft.next {M G : List Int} {near near2 : Int} {j c : Nat} {f : Tb2} (h : Hft M G near j c f) (hj : j ≤ 4) (n1 : near2 ≠ near) (n2 : near2 ∉ M) : Hft (M ++ [near]) G near2 0 c f := by
  refine ⟨h.nd, h.len, fun a ha => ?_⟩
  obtain ⟨a1, a2, a3, a4⟩ := h.ok a ha
  refine ⟨a1, a2, a3, .inl ?_⟩
  rcases a4 with ⟨m, _, s⟩ | ⟨e, s⟩
  · exact ⟨List.mem_append_left _ m, fun z => n2 (z ▸ m), s⟩
  · exact ⟨by rw [e]; simp, fun z => n1 (z ▸ e), s.up (by omega)⟩
/-- the two parts of a heft leave no drift -/
theorem halves {near lo hi : Int} (h1 : lo ≤ near) (h2 : near ≤ hi) {z : Fx} (hz : Fr z) {wd : Int} (hw : wd = if 1 < hi - lo then hi - lo else 1) :
    let up := low (near - lo) wd
    val (fmul z (fsub (1, 1) up)) * ((lo : Rat) - (near : Rat)) + val (fmul z up) * ((hi : Rat) - (near : Rat)) = 0 := by
  have w0 : 0 < wd := by rw [hw]; split <;> omega
  have wn : wd ≠ 0 := by omega
  have f1 : Fr (low (near - lo) wd) := low_fr wn
  dsimp only
  rw [val_mul hz (fsub_fr (fr_one 1) f1), val_mul hz f1, val_sub (fr_one 1) f1, val_low wn]
  have one : val ((1, 1) : Fx) = 1 := by
    unfold val
    simp
    grind
  rw [one]
  have nw := cast_ne wn
  by_cases c : 1 < hi - lo
  · rw [if_pos c] at hw
    have e1 : (wd : Rat) = (hi : Rat) - (lo : Rat) := by rw [hw]; exact Rat.intCast_sub ..
    have e2 : ((near - lo : Int) : Rat) = (near : Rat) - (lo : Rat) := Rat.intCast_sub ..
    rw [e2]
    grind
  · rw [if_neg c] at hw
    have e1 : (wd : Rat) = 1 := by rw [hw]; rfl
    have e2 : ((near - lo : Int) : Rat) = (near : Rat) - (lo : Rat) := Rat.intCast_sub ..
    rw [e2, e1]
    by_cases c2 : hi = lo
    · have c3 : near = lo := by omega
      rw [c3, c2]
      grind
    · have c3 : hi = lo + 1 := by omega
      have e3 : (hi : Rat) = (lo : Rat) + 1 := by rw [c3]; exact Rat.intCast_add ..
      rw [e3]
      grind
theorem part_facts {near lo hi : Int} (h1 : lo ≤ near) (h2 : near ≤ hi) (b1 : -10 ≤ lo) (b2 : hi ≤ 10) {wd : Int} (hw : wd = if 1 < hi - lo then hi - lo else 1) {z : Fx} (hz : Fr z) (pz : 0 < z.1) (sz : Sz 10 z) :
    let up := low (near - lo) wd
    Fr up ∧ Sz 5 up ∧ Fr (fsub (1, 1) up) ∧ Sz 7 (fsub (1, 1) up) ∧ (Fr (fmul z (fsub (1, 1) up)) ∧ 0 ≤ (fmul z (fsub (1, 1) up)).1 ∧ Sz 17 (fmul z (fsub (1, 1) up))) ∧ (Fr (fmul z up) ∧ 0 ≤ (fmul z up).1 ∧ Sz 17 (fmul z up)) := by
  have w0 : 0 < wd := by rw [hw]; split <;> omega
  have wn : wd ≠ 0 := by omega
  have f1 : Fr (low (near - lo) wd) := low_fr wn
  have s1 : Sz 5 (low (near - lo) wd) := low_sz wn (by have : (2 : Nat) ^ 5 = 32 := rfl; omega) (by have : (2 : Nat) ^ 5 = 32 := rfl; rw [hw]; split <;> omega)
  have f2 := fsub_fr (fr_one 1) f1
  have s2 : Sz 7 (fsub (1, 1) (low (near - lo) wd)) := fsub_sz (m := 1) (fr_one 1) f1 (sz_one (by decide) (by decide)) s1
  have up0 : 0 ≤ (low (near - lo) wd).1 := by
    have := (low_sign (t := near - lo) w0).2
    exact Int.not_lt.mp fun q => absurd (this.mp q) (by omega)
  have up1 : (low (near - lo) wd).1 ≤ (low (near - lo) wd).2 := by
    have cr := low_cross (t := near - lo) wn
    have le : (near - lo) * (low (near - lo) wd).2 ≤ wd * (low (near - lo) wd).2 := Int.mul_le_mul_of_nonneg_right (by rw [hw]; split <;> omega) (Int.le_of_lt f1.pos)
    rw [← cr] at le
    rw [Int.mul_comm] at le
    exact Int.le_of_mul_le_mul_left le w0
  have less0 : 0 ≤ (fsub (1, 1) (low (near - lo) wd)).1 := by
    unfold fsub
    have := (low_sign (t := 1 * (low (near - lo) wd).2 - (low (near - lo) wd).1 * 1) (dd0 (fr_one 1) f1)).2
    exact Int.not_lt.mp fun q => absurd (this.mp q) (by omega)
  have mul0 : ∀ u : Fx, Fr u → 0 ≤ u.1 → 0 ≤ (fmul z u).1 := fun u fu pu => by
    unfold fmul
    have := (low_sign (t := z.1 * u.1) (dd0 hz fu)).2
    have p := Int.mul_nonneg (Int.le_of_lt pz) pu
    exact Int.not_lt.mp fun q => absurd (this.mp q) (by omega)
  exact ⟨f1, s1, f2, s2, ⟨fmul_fr hz f2, mul0 _ f2 less0, fmul_sz hz f2 sz s2⟩, fmul_fr hz f1, mul0 _ f1 up0, (fmul_sz hz f1 sz s1).up (by decide)⟩
/-! the table in the end -/
def stepsOf (f : Tb2) (qs : List (Int × Int)) : List Stp := (qs.filter fun q => decide (lk2 f q ≠ (0, 1))).map fun q => (q.1, q.2, lk2 f q)
theorem perm_sum {α : Type} (g : α → Rat) {l m : List α} (h : l.Perm m) : (l.map g).sum = (m.map g).sum := by
  induction h with
  | nil => rfl
  | cons x _ ih => simp only [List.map_cons, List.sum_cons, ih]
  | swap x y l => simp only [List.map_cons, List.sum_cons]; grind
  | trans _ _ a b => exact a.trans b
theorem val_fold (k : Int) : ∀ (zs : List (Int × Fx)) (a : Fx), Fr a → (∀ z ∈ zs, Fr z.2) → Fr (zs.foldl (fun a kx => if k = kx.1 then fadd a kx.2 else a) a) ∧ val (zs.foldl (fun a kx => if k = kx.1 then fadd a kx.2 else a) a) = val a + (zs.map fun z => if k = z.1 then val z.2 else 0).sum
  | [], a, fa, _ => ⟨fa, by simp; grind⟩
  | z :: zs, a, fa, hz => by
    have fz := hz z (by simp)
    have rest : ∀ y ∈ zs, Fr y.2 := fun y hy => hz y (List.mem_cons_of_mem _ hy)
    rw [List.foldl_cons, List.map_cons, List.sum_cons]
    by_cases e : k = z.1
    · rw [if_pos e, if_pos e]
      obtain ⟨h1, h2⟩ := val_fold k zs _ (fadd_fr fa fz) rest
      refine ⟨h1, ?_⟩
      rw [h2, val_add fa fz]
      grind
    · rw [if_neg e, if_neg e]
      obtain ⟨h1, h2⟩ := val_fold k zs a fa rest
      refine ⟨h1, ?_⟩
      rw [h2]
      grind
theorem steps_tab {M G : List Int} {near : Int} {j c : Nat} {f : Tb2} (h : Hft M G near j c f) (hj : j ≤ 4) (hc : c ≤ 16) (hM : (near :: M).length ≤ 8) (hG : G.length ≤ 8) (bM : ∀ x ∈ near :: M, -100 ≤ x ∧ x ≤ 100) (bG : ∀ y ∈ G, -100 ≤ y ∧ y ≤ 100) (fair : ∀ k, wsum f k = 0)
    {qs : List (Int × Int)} (hp : qs.Perm (f.map (·.1))) (hs : qs.Pairwise PrLt) : Tab (stepsOf f qs) := by
  have inf : ∀ a ∈ stepsOf f qs, ((a.1, a.2.1), a.2.2) ∈ f ∧ a.2.2 ≠ (0, 1) := fun a ha => by
    obtain ⟨q, hq, rfl⟩ := List.mem_map.mp ha
    obtain ⟨_, h2⟩ := List.mem_filter.mp hq
    have ne : lk2 f q ≠ (0, 1) := of_decide_eq_true h2
    rcases lk2_or f q with e | m
    · exact absurd e ne
    · exact ⟨m, ne⟩
  have from_ : ∀ a ∈ stepsOf f qs, a.1 ∈ near :: M := fun a ha => by
    rcases (h.ok _ (inf a ha).1).2.2.2 with z | z
    · exact List.mem_cons_of_mem _ z.1
    · exact List.mem_cons.mpr (.inl z.1)
  have to_ : ∀ a ∈ stepsOf f qs, a.2.1 ∈ G := fun a ha => (h.ok _ (inf a ha).1).2.2.1
  have frs : ∀ a ∈ stepsOf f qs, Fr a.2.2 := fun a ha => (h.ok _ (inf a ha).1).1
  refine ⟨?_, fun a ha => ?_, fun a ha => ?_, ?_, ⟨_, hM, from_⟩, ⟨_, hG, to_⟩, fun k => ?_⟩
  · have := List.length_filter_le (fun q => decide (lk2 f q ≠ (0, 1))) qs
    have l1 := hp.length_eq
    have l2 := h.len
    unfold stepsOf
    rw [List.length_map] at l1 ⊢
    omega
  · obtain ⟨m, ne⟩ := inf a ha
    have b1 := bM _ (from_ a ha)
    have b2 := bG _ (to_ a ha)
    have o := h.ok _ m
    have p : 0 ≤ a.2.2.1 := o.2.1
    refine ⟨b1.1, b1.2, b2.1, b2.2, frs a ha, ?_⟩
    have : a.2.2.1 ≠ 0 := fun z => ne (fr_zero (frs a ha) z)
    omega
  · rcases (h.ok _ (inf a ha).1).2.2.2 with z | z
    · exact z.2.2
    · exact z.2.up (by omega)
  · have e : spots (stepsOf f qs) = qs.filter fun q => decide (lk2 f q ≠ (0, 1)) := by
      unfold spots stepsOf
      rw [List.map_map]
      exact List.map_id _
    rw [e]
    exact hs.filter _
  · rw [lk_gat]
    have fz : ∀ z ∈ drifts (stepsOf f qs), Fr z.2 := fun z hz => by
      obtain ⟨a, ha, rfl⟩ := List.mem_map.mp hz
      exact scl_fr (frs a ha) _
    obtain ⟨v1, v2⟩ := val_fold k (drifts (stepsOf f qs)) (lk [] k) fr01 fz
    refine val_zero v1 ?_
    rw [v2]
    have l0 : val (lk [] k) = 0 := val01
    rw [l0]
    have g : ((drifts (stepsOf f qs)).map fun z => if k = z.1 then val z.2 else 0).sum = (qs.map fun q => if q.1 = k then val (lk2 f q) * ((q.2 : Rat) - (k : Rat)) else 0).sum := by
      have fq : ∀ q ∈ qs, Fr (lk2 f q) := fun q hq => by
        rcases lk2_or f q with e | m
        · rw [e]; exact fr01
        · exact (h.ok _ m).1
      clear hp hs inf from_ to_ frs fz v1 v2
      induction qs with
      | nil => rfl
      | cons q qs ih =>
        have ih' := ih fun x hx => fq x (List.mem_cons_of_mem _ hx)
        unfold stepsOf drifts at ih' ⊢
        rw [List.map_cons, List.sum_cons, ← ih']
        by_cases e : lk2 f q = (0, 1)
        · rw [List.filter_cons_of_neg (by simp [e]), e, val01]
          split <;> grind
        · rw [List.filter_cons_of_pos (by simp [e]), List.map_cons, List.map_cons, List.map_cons, List.sum_cons]
          dsimp only
          rw [val_scl (fq q List.mem_cons_self)]
          by_cases e2 : q.1 = k
          · rw [if_pos e2.symm, if_pos e2, Rat.intCast_sub, e2]
          · rw [if_neg (Ne.symm e2), if_neg e2]
    rw [g, perm_sum _ hp, List.map_map]
    have z : wsum f k = 0 := fair k
    unfold wsum at z
    have e : (f.map ((fun q : Int × Int => if q.1 = k then val (lk2 f q) * ((q.2 : Rat) - (k : Rat)) else 0) ∘ fun a => a.1)) = f.map fun a => if a.1.1 = k then val a.2 * ((a.1.2 : Rat) - (k : Rat)) else 0 := by
      refine List.map_congr_left fun a ha => ?_
      show (if a.1.1 = k then val (lk2 f a.1) * _ else 0) = _
      rw [lk2_mem h.nd ha]
    rw [e, z]
    grind
end CS
set_option Elab.async false
set_option maxRecDepth 100000
set_option maxHeartbeats 4000000
set_option linter.unusedVariables false
/-! The road (a strict order, rows that can be compared, the rule of the layer) is that of HandS.SortOrd and HandS.SortRule for pairs, which this text imports and widens to rows of any length.
sorted(xs), xs a list of tuples that begin with d ints (and may go on with other objects, where the ints tell them apart) -/
namespace CS
open PySem PySem.Spec PyProof.Rows L2
def lexL : List Int → List Int → Bool
  | [], [] => false
  | [], _ :: _ => true
  | _ :: _, [] => false
  | x :: r, y :: t => if x = y then lexL r t else decide (x < y)
theorem lexL_self : ∀ l, lexL l l = false
  | [] => rfl
  | x :: r => by unfold lexL; rw [if_pos rfl]; exact lexL_self r
theorem lexL_asym : ∀ l m, lexL l m = true → lexL m l = false
  | [], [], h => rfl
  | [], _ :: _, h => rfl
  | _ :: _, [], h => by cases h
  | x :: r, y :: t, h => by
    unfold lexL at h ⊢
    by_cases e : x = y
    · rw [if_pos e] at h; rw [if_pos e.symm]; exact lexL_asym r t h
    · rw [if_neg e] at h; rw [if_neg (fun z => e z.symm)]
      have := of_decide_eq_true h
      exact decide_eq_false (by omega)
theorem lexL_tr : ∀ x y z, lexL y x = false → lexL z y = false → lexL z x = false
  | [], _, [], _, _ => rfl
  | [], [], _ :: _, _, _ => rfl
  | [], _ :: _, _ :: _, _, _ => rfl
  | _ :: _, [], _, h, _ => by cases h
  | _ :: _, _ :: _, [], _, h => by cases h
  | a :: r, b :: t, c :: u, h1, h2 => by
    unfold lexL at h1 h2 ⊢
    by_cases e1 : b = a
    · rw [if_pos e1] at h1
      by_cases e2 : c = b
      · rw [if_pos e2] at h2
        rw [if_pos (e2.trans e1)]
        exact lexL_tr r t u h1 h2
      · rw [if_neg e2] at h2
        rw [if_neg (fun z => e2 (z.trans e1.symm))]
        have := of_decide_eq_false h2
        exact decide_eq_false (by omega)
    · rw [if_neg e1] at h1
      have h1 := of_decide_eq_false h1
      by_cases e2 : c = b
      · rw [if_neg (fun z => e1 (e2.symm.trans z))]
        exact decide_eq_false (by omega)
      · rw [if_neg e2] at h2
        have h2 := of_decide_eq_false h2
        rw [if_neg (by omega)]
        exact decide_eq_false (by omega)
theorem swo_L {α : Type} (k : α → List Int) : SrtO.Swo fun x y => lexL (k x) (k y) := ⟨fun x y h => lexL_asym _ _ h, fun x y z h1 h2 => lexL_tr _ _ _ h1 h2⟩
/-- us are the ints ns -/
def IsI : List Value → List Int → Prop
  | [], [] => True
  | u :: us, n :: ns => (∃ t, u = .int n t) ∧ IsI us ns
  | _, _ => False
theorem IsI.of : ∀ {ns : List Int} {us : List Value}, Vals (ns.map V.int) us → IsI us ns
  | [], us, h => by cases h; trivial
  | n :: ns, us, h => by
    rw [List.map_cons] at h
    cases h with
    | cons r t => exact ⟨r, IsI.of t⟩
/-- v is a tuple of the ints ns and of the objects rs -/
def RowAt (h : Heap) (v : Value) (ns : List Int) (rs : List Addr) : Prop :=
  ∃ a o us n, v = .ref a ∧ h.get? a = some o ∧ o.cls = .type "tuple" ∧ o.data = .seq (us ++ rs.map Value.ref).toArray n ∧ IsI us ns
section
variable {prog : Program} {w : World} {A : Around} {E : Value → Shared → Prop} {s : Shared} {Q : Bool → Shared → Prop}
theorem self_rest {b : Bool} : ∀ (rs : List Addr) (i : Nat), Q false s → PySem.W.KatLex prog w A b false Q ((rs.map Value.ref).zip (rs.map Value.ref)) i s
  | [], i, h => PySem.W.kat_nil h
  | r :: rs, i, h => by
    refine PySem.W.kat_cons ?_
    unfold eqBool
    refine wpAny_holding ?_
    rw [if_pos (by simp)]
    refine wpAny_bind (wpAny_rule (wpAny_pure ?_))
    exact PySem.W.kat_yes (self_rest rs (i + 1) h)
theorem rows_lex {b : Bool} {rs rs' : List Addr} : ∀ (us us' : List Value) (ns ns' : List Int) (i : Nat), IsI us ns → IsI us' ns' → ns.length = ns'.length → (ns = ns' → rs = rs') → Q (lexL ns ns') s →
    PySem.W.KatLex prog w A b false Q ((us ++ rs.map Value.ref).zip (us' ++ rs'.map Value.ref)) i s
  | [], [], [], [], i, _, _, _, ht, h => by
    rw [ht rfl]
    exact self_rest rs' i h
  | u :: us, v :: us', x :: ns, y :: ns', i, h1, h2, hl, ht, h => by
    obtain ⟨⟨t, rfl⟩, h1⟩ := h1
    obtain ⟨⟨t', rfl⟩, h2⟩ := h2
    refine PySem.W.kat_cons (SeqAt.EqAt.int_int x t y t' prog w _ _ ?_)
    refine PySem.W.kat_go (fun e => ?_) (fun e => ?_)
    · have ex : x = y := by simpa using e
      unfold lexL at h
      rw [if_pos ex] at h
      exact PySem.W.kat_yes (rows_lex us us' ns ns' (i + 1) h1 h2 (by simpa using hl) (fun q => ht (by rw [ex, q])) h)
    · have ex : ¬ x = y := by simpa using e
      unfold lexL at h
      rw [if_neg ex] at h
      exact PySem.W.kat_no (oneLt_any_int h)
  | [], _, _ :: _, _, _, h, _, _, _, _ => h.elim
  | _ :: _, _, [], _, _, h, _, _, _, _ => h.elim
  | _, [], _, _ :: _, _, _, h, _, _, _ => h.elim
  | _, _ :: _, _, [], _, _, h, _, _, _ => h.elim
end
section
variable {prog : Program} {w : World} {A : Around} {E : Value → Shared → Prop} {s : Shared}
theorem RowAt.keeps {h h' : Heap} {v : Value} {ns : List Int} {rs : List Addr} (x : RowAt h v ns rs) (kp : ∀ b o, h.get? b = some o → o.cls = .type "tuple" → h'.get? b = some o) : RowAt h' v ns rs := by
  obtain ⟨a, o, us, n, e, h1, h2, h3, h4⟩ := x
  exact ⟨a, o, us, n, e, kp a o h1 h2, h2, h3, h4⟩
/-- what is asked of the rows: ints of one number, other objects of one number, told apart by the ints (or without others) -/
structure SortsOk (h : Heap) (vs : List Value) (k : Value → List Int) (d m : Nat) : Prop where
  pos : 1 ≤ d
  row : ∀ v ∈ vs, ∃ rs : List Addr, RowAt h v (k v) rs ∧ (k v).length = d ∧ rs.length = m
  tie : ∀ v ∈ vs, ∀ u ∈ vs, k v = k u → v = u ∨ m = 0
theorem SortsOk.keeps {h h' : Heap} {vs : List Value} {k : Value → List Int} {d m : Nat} (x : SortsOk h vs k d m) (kp : ∀ b o, h.get? b = some o → o.cls = .type "tuple" → h'.get? b = some o) : SortsOk h' vs k d m :=
  ⟨x.pos, fun v hv => let ⟨rs, h1, h2⟩ := x.row v hv; ⟨rs, h1.keeps kp, h2⟩, x.tie⟩
theorem IsI.len : ∀ {us : List Value} {ns : List Int}, IsI us ns → us.length = ns.length
  | [], [], _ => rfl
  | _ :: us, _ :: ns, h => by simp [IsI.len h.2]
  | [], _ :: _, h => h.elim
  | _ :: _, [], h => h.elim
theorem IsI.head {us rs : List Value} {ns : List Int} (h : IsI us ns) (hd : 1 ≤ ns.length) : ∃ x t, (us ++ rs)[0]? = some (Value.int x t) := by
  cases us with
  | nil => cases ns with
    | nil => simp at hd
    | cons n ns => exact h.elim
  | cons u us => cases ns with
    | nil => exact h.elim
    | cons n ns =>
      obtain ⟨⟨t, rfl⟩, _⟩ := h
      exact ⟨n, t, rfl⟩
theorem rows_cmp {vs : List Value} {k : Value → List Int} {d m : Nat} (R : SortsOk s.heap vs k d m) : SrtO.Cmp prog w A s (tuples' true) (fun p => p.1 ∈ vs) (SrtO.lt2 fun v u => lexL (k v) (k u)) := by
  intro p q hm hm'
  obtain ⟨rs, ⟨a, o, us, n, e, ho, _, hd, hi⟩, l1, l2⟩ := R.row _ hm
  obtain ⟨rs', ⟨a', o', us', n', e', ho', _, hd', hi'⟩, l1', l2'⟩ := R.row _ hm'
  have ht := R.tie _ hm _ hm'
  show wpAny (model prog w) A (keyLt' (tuples' true) p.1 q.1) (fun r s' => s' = s ∧ r = lexL (k p.1) (k q.1)) (fun _ _ => False) s
  generalize k p.1 = x at hi l1 ht ⊢
  generalize k q.1 = y at hi' l1' ht ⊢
  rw [e, e'] at ht ⊢
  refine PySem.W.kat_lt ho hd ho' hd' ?_
  have sz : (us ++ rs.map Value.ref).toArray.size = (us' ++ rs'.map Value.ref).toArray.size := by
    simp [hi.len, hi'.len, l1, l1', l2, l2']
  rw [sz, show decide ((us' ++ rs'.map Value.ref).toArray.size < (us' ++ rs'.map Value.ref).toArray.size) = false from decide_eq_false (Nat.lt_irrefl _)]
  show PySem.W.KatLex prog w A true false _ ((us ++ rs.map Value.ref).zip (us' ++ rs'.map Value.ref)) 0 s
  refine rows_lex us us' x y 0 hi hi' (by rw [l1, l1']) (fun exy => ?_) ⟨rfl, rfl⟩
  rcases ht exy with z | z
  · cases z
    rw [ho] at ho'
    cases ho'
    rw [hd] at hd'
    injection hd' with g1 g2
    have g1 : us ++ rs.map Value.ref = us' ++ rs'.map Value.ref := by simpa using congrArg Array.toList g1
    have g3 := (List.append_inj g1 (by rw [hi.len, hi'.len, l1, l1'])).2
    exact (List.map_inj_right fun a b h => by injection h).mp g3
  · rw [List.length_eq_zero_iff.mp (l2.trans z), List.length_eq_zero_iff.mp (l2'.trans z)]
theorem rows_firsts {h : Heap} : ∀ {vs : List Value}, (∀ v ∈ vs, ∃ ns rs, RowAt h v ns rs ∧ 1 ≤ ns.length) → ∃ fs, PySem.W.KatTups h vs fs ∧ fs.length = vs.length ∧ ∀ f ∈ fs, ∃ x t, f = Value.int x t
  | [], _ => ⟨[], PySem.W.KatTups.nil, rfl, fun f hf => by cases hf⟩
  | v :: vs, hv => by
    obtain ⟨fs, h1, h2, h3⟩ := rows_firsts (vs := vs) fun u hu => hv u (List.mem_cons_of_mem _ hu)
    obtain ⟨ns, rs, ⟨a, o, us, n, e, ho, hc, hd, hi⟩, hl⟩ := hv v List.mem_cons_self
    obtain ⟨x, t, hx⟩ := hi.head (rs := rs.map Value.ref) hl
    subst e
    refine ⟨.int x t :: fs, PySem.W.KatTups.cons ho hc hd (by simpa using hx) h1, by simp [h2], fun f hf => ?_⟩
    rcases List.mem_cons.mp hf with z | z
    · exact ⟨x, t, z⟩
    · exact h3 f z
theorem rows_sortable {a : Addr} {vs : List Value} {k : Value → List Int} {d m : Nat} (h0 : 0 < vs.length) (R : SortsOk s.heap vs k d m) (ha : ∀ o, s.heap.get? a = some o → o.cls ≠ .type "tuple") :
    SrtO.SortableO prog w A s a vs fun v u => lexL (k v) (k u) := by
  intro h1 keep
  have R1 : SortsOk h1 vs k d m := R.keeps fun b o e c => keep b o (fun z => by subst z; exact ha o e c) e
  obtain ⟨fs, f1, f2, f3⟩ := rows_firsts fun v hv => by
    obtain ⟨rs, g1, g2, _⟩ := R1.row v hv
    exact ⟨_, rs, g1, by rw [g2]; exact R1.pos⟩
  refine ⟨tuples' true, fun Q E hq => PySem.W.kat_kind (T := .type "int") f1 (by omega) (fun f hm => ?_) (by rfl) ?_, rows_cmp R1⟩
  · obtain ⟨x, t, rfl⟩ := f3 f hm
    exact PySem.W.Looks.now
  · rw [show (Value.type "int" != Value.type "tuple") = true by first | decide +kernel | rfl | decide]
    exact hq
end
/-- x before y, by the ints that they begin with -/
abbrev ltR (k : V → List Int) (x y : V) : Bool := lexL (k x) (k y)
/-- sorted(xs): xs a list of tuples, each d ints and m other objects -/
def rSortR (K : PySem.W.Frag) : List V → Hp → VK → Prop := fun vs H Q => ∃ (a : Addr) (xs : List V) (k : V → List Int) (d m : Nat), vs = [V.ref a] ∧ SqL K H a xs ∧ 1 ≤ d ∧
  (∀ x ∈ xs, ∃ (t : Addr) (rs : List Addr), x = V.ref t ∧ SqT K H t ((k x).map V.int ++ rs.map V.ref) ∧ (k x).length = d ∧ rs.length = m) ∧ (∀ x ∈ xs, ∀ y ∈ xs, k x = k y → x = y ∨ m = 0) ∧
  ∀ ys p, SrtO.Srtd (ltR k) ys → SrtO.Stb (ltR k) ys xs → H p = none → Q (.ref p) (upd H p (.lst ys))
section
variable {X : Cx}
theorem backV_inj {u v : Value} {a : Addr} (h1 : u = Value.ref a) (h2 : backV u = backV v) (h3 : ∃ b, v = Value.ref b) : u = v := by
  obtain ⟨b, rfl⟩ := h3
  subst h1
  have : V.ref a = V.ref b := h2
  cases this
  rfl
theorem vals_appI {ns : List Int} {rs : List Addr} {us : List Value} (h : Vals (ns.map V.int ++ rs.map V.ref) us) : ∃ us', us = us' ++ rs.map Value.ref ∧ IsI us' ns := by
  induction ns generalizing us with
  | nil => exact ⟨[], refs_at (show Vals (rs.map V.ref) us from h), trivial⟩
  | cons n ns ih =>
    rw [List.map_cons, List.cons_append] at h
    cases h with
    | cons r t =>
      obtain ⟨us', e, hi⟩ := ih t
      exact ⟨_ :: us', by rw [e]; rfl, r, hi⟩
theorem cr_sortR : CallR X (.builtin "sorted") (rSortR X.K) := by
  intro pins s σ H vs us Q I r ⟨a, xs, k, d, m, ex, hs, hd, hx, ht, q⟩
  subst ex
  obtain ⟨its, rv, hl, hz⟩ := I.list hs
  obtain ⟨u, rfl, ru⟩ := vals1 r
  obtain rfl : u = Value.ref a := ru
  obtain ⟨e1, e2⟩ := refs_back rv fun x hm => by
    obtain ⟨t, _, e, _⟩ := hx x hm
    exact ⟨t, e⟩
  have mem : ∀ v ∈ its, backV v ∈ xs := fun v hv => by rw [e1]; exact List.mem_map.mpr ⟨v, hv, rfl⟩
  have R : SortsOk s.heap its (fun v => k (backV v)) d m := by
    refine ⟨hd, fun v hv => ?_, fun v hv u hu e => ?_⟩
    · obtain ⟨t, rs, e, hq, l1, l2⟩ := hx _ (mem v hv)
      obtain ⟨b, rfl⟩ := e2 v hv
      cases e
      obtain ⟨us, rr, ⟨o, g1, g2, n, g3⟩, _⟩ := I.tuple hq
      obtain ⟨us', rfl, hi⟩ := vals_appI rr
      exact ⟨rs, ⟨t, o, us', n, rfl, g1, g2, g3, hi⟩, l1, l2⟩
    · obtain ⟨b, hb⟩ := e2 v hv
      rcases ht _ (mem v hv) _ (mem u hu) e with z | z
      · exact .inl (backV_inj hb z (e2 u hu))
      · exact .inr z
  refine SrtO.sorted_ord (swo_L fun v => k (backV v)) hl.isList (by rw [← rv.length]; exact hz) (fun h2 h1 b hb kk => ?_) fun out h1 h2 => ?_
  · refine rows_sortable (s := { s with heap := h1 }) (by omega) (R.keeps fun b o e _ => (kk b o e).2) fun o e c => ?_
    have e' : some o = some (seqObj "list" its.toArray 0) := e.symm.trans hb
    cases e'
    exact absurd (Value.type.inj c) (by decide)
  · have h3 : ∀ u ∈ out, ∃ a, u = Value.ref a := fun u hu => e2 u (h2.perm.mem_iff.mp hu)
    obtain ⟨n, hn⟩ := sortedAll_at s.heap its out.toArray
    have hb : SrtO.Stb (ltR k) (out.map backV) xs := by
      rw [e1]
      exact SrtO.Stb.map (swo_L k) backV h2
    refine ⟨.ref (s.heap.objs.size + 1), upd H (s.heap.objs.size + 1) (.lst (out.map backV)), I.laid (t' := s.toks) (fun b o e => sortedAll_old e) (Nat.le_succ _) ⟨by rw [hb.len]; exact hz, out, n, vals_back h3, hn⟩, rfl, q _ _ (SrtO.srtd_map h1) hb (I.hok.fresh (Nat.le_succ _))⟩
end
/-! ### sorted(d), the keys of d tuples of d ints -/
/-- the ints that the tuple at v is -/
def intsAt (H : Hp) : V → List Int
  | .ref a => match H a with
    | some (.tup xs) => xs.filterMap fun x => match x with
      | .int i => some i
      | _ => none
    | _ => []
  | _ => []
theorem intsAt_of {H : Hp} {a : Addr} {ns : List Int} (h : H a = some (.tup (ns.map V.int))) : intsAt H (.ref a) = ns := by
  unfold intsAt
  simp only [h]
  clear h
  induction ns with
  | nil => rfl
  | cons n ns ih => exact congrArg (n :: ·) ih
def rSortDT : List V → Hp → VK → Prop := fun vs H Q => ∃ (a : Addr) (kvs : List (List Key × V)) (d : Nat), vs = [V.ref a] ∧ Rd H a (.dT kvs) ∧ 1 ≤ d ∧ (∀ kv ∈ kvs, ∃ ns : List Int, kv.1 = ns.map Sum.inl ∧ ns.length = d) ∧
  ∀ (bs : List Addr) (ys : List V) (p : Addr), IsKeys H kvs bs → SrtO.Srtd (ltR (intsAt H)) ys → SrtO.Stb (ltR (intsAt H)) ys (bs.map V.ref) → H p = none → Q (.ref p) (upd H p (.lst ys))
theorem keys_at {H : Hp} {kvs : List (List Key × V)} {bs : List Addr} (h : IsKeys H kvs bs) : ∀ b ∈ bs, ∃ kv ∈ kvs, H b = some (.tup (kv.1.map kV)) := by
  unfold IsKeys at h
  induction h with
  | nil => intro b hb; cases hb
  | @cons p b ps bs r t ih =>
    intro c hc
    rcases List.mem_cons.mp hc with e | e
    · exact ⟨p, List.mem_cons_self, by rw [e]; exact r⟩
    · obtain ⟨kv, m, q⟩ := ih c e
      exact ⟨kv, List.mem_cons_of_mem _ m, q⟩
theorem backs : ∀ bs : List Addr, (bs.map Value.ref).map backV = bs.map V.ref
  | [] => rfl
  | b :: bs => by rw [List.map_cons, List.map_cons, backs bs]; rfl
section
variable {X : Cx}
theorem cr_sortDT (hcalm : X.calm = true) : CallR X (.builtin "sorted") rSortDT := by
  intro pins s σ H xs us Q I r ⟨a, kvs, d, ex, hd, h1d, hk, q⟩
  subst ex
  obtain ⟨u, rfl, rx⟩ := vals1 r
  cases rx
  obtain ⟨z, lo, ks, pr, o, es, ep, ho, hx, hdt, he, hn⟩ := (show ObjOk X.prog X.w H s.heap a (.dT kvs) from hd.ok I.hok)
  have l1 : es.size = ks.length := size_of_entries he
  have l2 : kvs.length = ks.length := Paired.length pr
  have hI : IsKeys H kvs (ks.map fun x => x.2.1) := isKeys_of pr
  refine Calls.call_function_entry kind_sorted plain_sorted entry_sorted (args_sorted1 _) ?_
  unfold Builtin.«sorted»
  refine wpAny_bind (m := checkCount "sorted" 1 1 _) (wpAny_pure ?_)
  refine wpAny_bind (PySem.W.kdu_collect (A := X.A.in1) (kdl_raw lo hx hdt) (I.ok.hd hcalm) ho (by omega) fun h1 tk acc kp it => ?_)
  have ea : acc.toList = (ks.map fun x => x.2.1).map Value.ref := by
    rw [List.map_map]
    have hl : acc.toList.length = ks.length := by rw [Array.length_toList, it.1]; exact l1
    apply List.ext_getElem?
    intro j
    rw [List.getElem?_map]
    cases hj : acc.toList[j]? with
    | none => rw [List.getElem?_eq_none (by have := List.getElem?_eq_none_iff.mp hj; omega)]; rfl
    | some v =>
      obtain ⟨en, hen, hv⟩ := it.2 j v (by rw [← Array.getElem?_toList]; exact hj)
      have qe := entry_at he j
      rw [hen] at qe
      cases hb : ks[j]? with
      | none => rw [hb] at qe; cases qe
      | some b =>
        rw [hb] at qe
        rw [hv, show en = entryOfKey (tupleKind (mixKind X.prog X.w)) b from Option.some.inj qe]
        rfl
  have I1 : Inv X pins σ H { s with heap := h1, toks := tk } := I.kept kp
  have hz : acc.toList.length ≤ sizeLine := by rw [ea, List.length_map, List.length_map]; omega
  have R : SortsOk h1 acc.toList (fun v => intsAt H (backV v)) d 0 := by
    refine ⟨h1d, fun v hv => ?_, fun _ _ _ _ _ => .inr rfl⟩
    rw [ea] at hv
    obtain ⟨b, hb, rfl⟩ := List.mem_map.mp hv
    obtain ⟨kv, hm, e⟩ := keys_at hI b hb
    obtain ⟨ns, en, hl⟩ := hk kv hm
    have e : H b = some (.tup (ns.map V.int)) := by rw [e, en, List.map_map]; rfl
    have ei : intsAt H (backV (Value.ref b)) = ns := intsAt_of e
    obtain ⟨_, its, rr, ob, g1, g2, n, g3⟩ := (show ObjOk X.prog X.w H h1 b (.tup (ns.map V.int)) from I1.hok b _ e)
    refine ⟨[], ⟨b, ob, its, n, rfl, g1, g2, by simpa using g3, ?_⟩, by rw [ei]; exact hl, rfl⟩
    rw [ei]
    exact IsI.of rr
  refine wpAny_bind (wpAny_newList ?_ hz)
  have hoL : (h1.push (seqObj "list" acc.toList.toArray 0)).get? h1.objs.size = some (seqObj "list" acc.toList.toArray 0) := Heap.get?_push_size _ rfl
  show wpAny _ _ _ _ _ { s with heap := h1.push (seqObj "list" acc.toList.toArray 0), toks := tk }
  have R2 : SortsOk (h1.push (seqObj "list" acc.toList.toArray 0)) acc.toList (fun v => intsAt H (backV v)) d 0 := R.keeps fun b o e _ => Heap.get?_push_of_some _ e
  refine wpAny_bind (wpAny_holding (wpAny_call_entry slot_list_sort ⟨_, hoL, rfl⟩ entry_list_sort
    (SrtO.list_sort_ord (s := { s with heap := h1.push (seqObj "list" acc.toList.toArray 0), toks := tk }) (swo_L fun v => intsAt H (backV v)) hoL hz (fun h2 => rows_sortable (by omega) R2 fun o e c => ?_) fun out g1 g2 => ⟨_, rfl, ?_⟩) (args_list_sort _)))
  · have e' : some o = some (seqObj "list" acc.toList.toArray 0) := e.symm.trans hoL
    cases e'
    exact absurd (Value.type.inj c) (by decide)
  obtain ⟨n, hn⟩ := sortedHeap_at (vs := acc.toList) (out := out.toArray) hoL
  have h3 : ∀ u ∈ out, ∃ a, u = Value.ref a := fun u hu => by
    have := g2.perm.mem_iff.mp hu
    rw [ea] at this
    obtain ⟨b, _, rfl⟩ := List.mem_map.mp this
    exact ⟨b, rfl⟩
  have hb : SrtO.Stb (ltR (intsAt H)) (out.map backV) ((ks.map fun x => x.2.1).map V.ref) := by
    rw [← backs, ← ea]
    exact SrtO.Stb.map (swo_L (intsAt H)) backV g2
  refine wpAny_pure ⟨_, rfl, .ref h1.objs.size, upd H h1.objs.size (.lst (out.map backV)), I1.laid (t' := tk) (fun b u e => ?_) (Nat.le_refl _)
    (show ObjOk X.prog X.w _ _ _ (.lst (out.map backV)) from ⟨by rw [hb.len, ← backs, ← ea, List.length_map]; exact hz, out, n, vals_back h3, hn⟩), rfl, q _ _ _ hI (SrtO.srtd_map g1) hb (I1.hok.fresh (Nat.le_refl _))⟩
  have hlt : b < h1.objs.size := Heap.lt_size e
  rw [sortedHeap_old (Nat.ne_of_lt hlt) (by rw [size_push']; exact Nat.lt_succ_of_lt hlt)]
  exact Heap.get?_push_of_some _ e
end
end CS
set_option Elab.async false
set_option maxRecDepth 100000
set_option maxHeartbeats 4000000
set_option linter.unusedVariables false
set_option pp.maxSteps 400
namespace CS
open PySem L2
/-- a pair of numbers as a key -/
def k2 (p : Int × Int) : List Key := [Sum.inl p.1, Sum.inl p.2]
theorem k2_inj {p q : Int × Int} (h : k2 p = k2 q) : p = q := by
  unfold k2 at h
  injection h with h1 h2
  injection h2 with h3 _
  exact Prod.ext (Sum.inl.inj h1) (Sum.inl.inj h3)
section
variable {κ : Type} [DecidableEq κ]
theorem putG1 {k : κ} {u v : V} {kvs : List (κ × V)} (hn : ∀ p ∈ kvs, p.1 ≠ k) : putK ((k, u) :: kvs) k v = (k, v) :: kvs := by
  unfold putK
  rw [if_pos (by simp)]
  rw [List.map_cons, if_pos rfl]
  refine congrArg _ ?_
  refine (List.map_congr_left fun p hp => ?_).trans (List.map_id _)
  rw [if_neg (hn p hp)]
  rfl
theorem putG2 {j k : κ} {u v : V} {kvs : List (κ × V)} (h : j ≠ k) : putK ((j, u) :: kvs) k v = (j, u) :: putK kvs k v := by
  unfold putK
  by_cases q : (kvs.any fun kv => decide (kv.1 = k)) = true
  · rw [if_pos (by rw [List.any_cons, q, Bool.or_true]), if_pos q, List.map_cons, if_neg h]
  · rw [if_neg (by rw [List.any_cons, Bool.or_eq_true]; exact fun z => z.elim (fun y => h (of_decide_eq_true y)) q), if_neg q]
    rfl
end
inductive DP2 (K : PySem.W.Frag) (H : Hp) : List (List Key × V) → Tb2 → Prop where
  | nil : DP2 K H [] []
  | cons {p : Int × Int} {r : Addr} {x : Fx} {kvs : List (List Key × V)} {f : Tb2} (h : FT K H r x) (t : DP2 K H kvs f) : DP2 K H ((k2 p, .ref r) :: kvs) ((p, x) :: f)
section
variable {K : PySem.W.Frag} {H H' : Hp}
theorem DP2.tk (e : TK K H H') : ∀ {kvs : List (List Key × V)} {f : Tb2}, DP2 K H kvs f → DP2 K H' kvs f
  | _, _, .nil => .nil
  | _, _, .cons a b => .cons (e _ _ a) (DP2.tk e b)
theorem DP2.keys : ∀ {kvs : List (List Key × V)} {f : Tb2}, DP2 K H kvs f → kvs.map (·.1) = f.map fun a => k2 a.1
  | _, _, .nil => rfl
  | _, _, .cons _ b => by simp [b.keys]
theorem DP2.len {kvs : List (List Key × V)} {f : Tb2} (h : DP2 K H kvs f) : kvs.length = f.length := by
  have := congrArg List.length h.keys
  simpa using this
theorem DP2.get : ∀ {kvs : List (List Key × V)} {f : Tb2}, DP2 K H kvs f → ∀ q : Int × Int, (∃ r, valV kvs (k2 q) = some (.ref r) ∧ FT K H r (lk2 f q)) ∨ (valV kvs (k2 q) = none ∧ lk2 f q = (0, 1) ∧ q ∉ f.map (·.1))
  | _, _, .nil, q => .inr ⟨rfl, rfl, by simp⟩
  | _, _, @DP2.cons _ _ p r x kvs f a b, q => by
    by_cases e : p = q
    · subst e
      exact .inl ⟨r, valV_pos rfl, by unfold lk2; rw [if_pos rfl]; exact a⟩
    · have ne : ¬ k2 p = k2 q := fun z => e (k2_inj z)
      rcases b.get q with ⟨r', h1, h2⟩ | ⟨h1, h2, h3⟩
      · exact .inl ⟨r', by rw [valV_neg ne]; exact h1, by unfold lk2; rw [if_neg e]; exact h2⟩
      · refine .inr ⟨by rw [valV_neg ne]; exact h1, by unfold lk2; rw [if_neg e]; exact h2, ?_⟩
        rw [List.map_cons, List.mem_cons]
        exact fun z => z.elim (fun y => e y.symm) h3
theorem DP2.put {kvs : List (List Key × V)} {f : Tb2} (h : DP2 K H kvs f) (hn : (f.map (·.1)).Nodup) {q : Int × Int} {r : Addr} {x : Fx} (hr : FT K H r x) : DP2 K H (putK kvs (k2 q) (.ref r)) (ups2 f q x) := by
  induction h with
  | nil =>
    show DP2 K H [(k2 q, .ref r)] [(q, x)]
    exact .cons hr .nil
  | @cons p r' y kvs f a b ih =>
    rw [List.map_cons, List.nodup_cons] at hn
    unfold ups2
    by_cases e : p = q
    · subst e
      rw [if_pos rfl, putG1 fun kv hkv ek => ?_]
      · exact .cons hr b
      · have m : kv.1 ∈ kvs.map (·.1) := List.mem_map.mpr ⟨kv, hkv, rfl⟩
        rw [b.keys, ek] at m
        obtain ⟨z, hz, ez⟩ := List.mem_map.mp m
        exact hn.1 (List.mem_map.mpr ⟨z, hz, k2_inj ez⟩)
    · rw [if_neg e, putG2 fun z => e (k2_inj z)]
      exact .cons a (ih hn.2)
/-- the value that .get(.., (0, 1)) finds -/
theorem DP2.get_or {kvs : List (List Key × V)} {f : Tb2} {D b aN : Addr} (h : DP2 K H kvs f) (hD : H D = some (.dT kvs)) {q : Int × Int} (hb : H b = some (.tup [.int q.1, .int q.2])) (hN : FT K H aN (0, 1)) : ∃ (o : Option V) (r : Addr), DGet H D (.ref b) o ∧ o.getD (.ref aN) = .ref r ∧ FT K H r (lk2 f q) := by
  have g : DGet H D (.ref b) (valV kvs (k2 q)) := DGet.t hD hb
  rcases h.get q with ⟨r, h1, h2⟩ | ⟨h1, h2, _⟩
  · exact ⟨_, r, g, by rw [h1]; rfl, h2⟩
  · exact ⟨_, aN, g, by rw [h1]; rfl, by rw [h2]; exact hN⟩
theorem tk_dT {D : Addr} {xs ys : List (List Key × V)} (h : H D = some (.dT xs)) : TK K H (upd H D (.dT ys)) := fun p zs hp => by
  have ne : ∀ u, H p = some u → (∀ kvs, u ≠ .dT kvs) → p ≠ D := fun u e n z => by
    rw [z, h] at e
    cases e
    exact n xs rfl
  rcases hp with (hp | ⟨o, hp⟩) | hp
  · exact .inl (.inl (by rw [upd_ne (ne _ hp fun _ z => nomatch z)]; exact hp))
  · exact .inl (.inr ⟨o, by rw [upd_ne (ne _ hp fun _ z => nomatch z)]; exact hp⟩)
  · exact .inr hp
/-! the sorted keys -/
def prOf (ns : List Int) : Int × Int := (ns.getD 0 0, ns.getD 1 0)
def KeyAt (H : Hp) (v : V) (q : Int × Int) : Prop := ∃ b, v = .ref b ∧ H b = some (.tup [.int q.1, .int q.2])
theorem KeyAt.ints {v : V} {q : Int × Int} (h : KeyAt H v q) : intsAt H v = [q.1, q.2] := by
  obtain ⟨b, rfl, hb⟩ := h
  exact intsAt_of (ns := [q.1, q.2]) hb
theorem keys_are : ∀ {kvs : List (List Key × V)} {f : Tb2} {bs : List Addr}, DP2 K H kvs f → IsKeys H kvs bs → (bs.map V.ref).map (fun v => prOf (intsAt H v)) = f.map (·.1) ∧ ∀ v ∈ bs.map V.ref, ∃ q ∈ f.map (·.1), KeyAt H v q
  | _, _, _, .nil, h => by
    cases h
    exact ⟨rfl, fun v hv => nomatch hv⟩
  | _, _, _, @DP2.cons _ _ p r x kvs f a b, h => by
    cases h with
    | cons h1 h2 =>
    obtain ⟨e1, e2⟩ := keys_are b h2
    have at_ : KeyAt H (V.ref _) p := ⟨_, rfl, h1⟩
    refine ⟨?_, fun v hv => ?_⟩
    · rw [List.map_cons, List.map_cons, List.map_cons, e1, at_.ints]
      rfl
    · rw [List.map_cons] at hv
      rcases List.mem_cons.mp hv with q | q
      · exact ⟨p, by simp, q ▸ at_⟩
      · obtain ⟨z, hz, hk⟩ := e2 v q
        exact ⟨z, by rw [List.map_cons]; exact List.mem_cons_of_mem _ hz, hk⟩
theorem lex_pr {a b : Int × Int} (h : lexL [b.1, b.2] [a.1, a.2] = false) (ne : a ≠ b) : PrLt a b := by
  unfold PrLt
  simp only [lexL] at h
  by_cases e : b.1 = a.1
  · rw [if_pos e] at h
    by_cases e2 : b.2 = a.2
    · exact absurd (Prod.ext e.symm e2.symm) ne
    · rw [if_neg e2] at h
      have := of_decide_eq_false h
      omega
  · rw [if_neg e] at h
    have := of_decide_eq_false h
    omega
theorem keys_sorted {kvs : List (List Key × V)} {f : Tb2} {bs : List Addr} {ys : List V} (h : DP2 K H kvs f) (nd : (f.map (·.1)).Nodup) (hk : IsKeys H kvs bs) (h1 : SrtO.Srtd (ltR (intsAt H)) ys) (h2 : SrtO.Stb (ltR (intsAt H)) ys (bs.map V.ref)) :
    ∃ qs : List (Int × Int), qs.Perm (f.map (·.1)) ∧ qs.Pairwise PrLt ∧ qs.length = ys.length ∧ ∀ (i : Nat) (v : V), ys[i]? = some v → ∃ q, qs[i]? = some q ∧ q ∈ f.map (·.1) ∧ KeyAt H v q := by
  obtain ⟨e1, e2⟩ := keys_are h hk
  have mem : ∀ v ∈ ys, ∃ q ∈ f.map (·.1), KeyAt H v q := fun v hv => e2 v (h2.perm.mem_iff.mp hv)
  have perm : (ys.map fun v => prOf (intsAt H v)).Perm (f.map (·.1)) := by
    rw [← e1]
    exact h2.perm.map _
  refine ⟨ys.map fun v => prOf (intsAt H v), perm, ?_, by rw [List.length_map], fun i v hv => ?_⟩
  · have nd2 : (ys.map fun v => prOf (intsAt H v)).Nodup := perm.nodup_iff.mpr nd
    rw [List.pairwise_map]
    have nd3 : ys.Pairwise fun a b => prOf (intsAt H a) ≠ prOf (intsAt H b) := List.pairwise_map.mp nd2
    refine ((List.Pairwise.and h1 nd3).imp_of_mem ?_)
    intro a b ha hb ⟨z1, z2⟩
    obtain ⟨qa, _, ka⟩ := mem a ha
    obtain ⟨qb, _, kb⟩ := mem b hb
    unfold ltR at z1
    rw [ka.ints, kb.ints] at z1
    rw [ka.ints, kb.ints] at z2 ⊢
    exact lex_pr z1 z2
  · obtain ⟨q, hq, kq⟩ := mem v (List.mem_of_getElem? hv)
    refine ⟨q, ?_, hq, kq⟩
    rw [List.getElem?_map, hv]
    show some (prOf (intsAt H v)) = some q
    rw [kq.ints]
    rfl
end
/-- how the heap stands while the law draws its steps: the state, the numbers to choose among at g, those to go through at p, the table at D -/
structure Ls (K : PySem.W.Frag) (H0 : Hp) (d c l D g p : Addr) (gs ms : List Int) (kk : Nat) (kvs : List (List Key × V)) (f : Tb2) (H : Hp) : Prop where
  S : StAt H d c l kk
  fm : Fm d l H0 H
  D0 : H0 D = none
  nd : D ≠ d
  nc : D ≠ c
  nl : D ≠ l
  gd : g ≠ d
  gl : g ≠ l
  gD : g ≠ D
  pd : p ≠ d
  pl : p ≠ l
  pD : p ≠ D
  hg : H g = some (.lst (gs.map V.int))
  hp : H p = some (.lst (ms.map V.int))
  hD : H D = some (.dT kvs)
  dp : DP2 K H kvs f
section
variable {K : PySem.W.Frag} {H0 H H' : Hp} {d c l D g p : Addr} {gs ms : List Int} {kk : Nat} {kvs : List (List Key × V)} {f : Tb2}
theorem Ls.same (L : Ls K H0 d c l D g p gs ms kk kvs f H) (s : Same H H') : Ls K H0 d c l D g p gs ms kk kvs f H' :=
  { L with S := L.S.same s, fm := L.fm.same s, hg := s _ _ L.hg, hp := s _ _ L.hp, hD := s _ _ L.hD, dp := L.dp.tk (tk_same s) }
theorem Ls.draw {k' : Nat} (L : Ls K H0 d c l D g p gs ms kk kvs f H) (S' : StAt H' d c l k') (fm : Fm d l H H') : Ls K H0 d c l D g p gs ms k' kvs f H' :=
  { L with S := S', fm := L.fm.trans fm, hg := fm _ _ L.hg L.gd L.gl, hp := fm _ _ L.hp L.pd L.pl, hD := fm _ _ L.hD L.nd L.nl, dp := L.dp.tk (tk_fm fm L.S) }
theorem Ls.put {q : Int × Int} {r : Addr} {x : Fx} (L : Ls K H0 d c l D g p gs ms kk kvs f H) (hn : (f.map (·.1)).Nodup) (hr : FT K H r x) : Ls K H0 d c l D g p gs ms kk (putK kvs (k2 q) (.ref r)) (ups2 f q x) (upd H D (.dT (putK kvs (k2 q) (.ref r)))) :=
  { L with S := L.S.upd L.nd L.nc L.nl, fm := L.fm.upd L.D0, hg := by rw [upd_ne L.gD]; exact L.hg, hp := by rw [upd_ne L.pD]; exact L.hp, hD := upd_same, dp := (L.dp.put hn hr).tk (tk_dT L.hD) }
end
/-- some weight is there -/
def Pos2 (f : Tb2) : Prop := ∃ a ∈ f, 0 < a.2.1
theorem pos2_new {f : Tb2} {q : Int × Int} {z : Fx} (hf : ∀ a ∈ f, Fr a.2 ∧ 0 ≤ a.2.1) (hz : Fr z) (pz : 0 < z.1) : Pos2 (ups2 f q (fadd (lk2 f q) z)) := by
  have old : Fr (lk2 f q) ∧ 0 ≤ (lk2 f q).1 := by
    rcases lk2_or f q with e | m
    · rw [e]; exact ⟨fr01, by decide⟩
    · exact hf _ m
  induction f with
  | nil => exact ⟨_, by unfold ups2; exact List.mem_cons_self, fadd_pos old.1 hz old.2 (Int.le_of_lt pz) (.inr pz)⟩
  | cons p f ih =>
    unfold lk2 at old ⊢
    by_cases e : p.1 = q
    · rw [if_pos e] at old ⊢
      unfold ups2
      rw [if_pos e]
      exact ⟨_, List.mem_cons_self, fadd_pos old.1 hz old.2 (Int.le_of_lt pz) (.inr pz)⟩
    · rw [if_neg e] at old ⊢
      unfold ups2
      rw [if_neg e]
      obtain ⟨b, hb, pb⟩ := ih (fun a ha => hf a (List.mem_cons_of_mem _ ha)) old
      exact ⟨b, List.mem_cons_of_mem _ hb, pb⟩
theorem pos2_keep {f : Tb2} {q : Int × Int} {z : Fx} (h : Pos2 f) (hf : ∀ a ∈ f, Fr a.2 ∧ 0 ≤ a.2.1) (hz : Fr z) (pz : 0 ≤ z.1) : Pos2 (ups2 f q (fadd (lk2 f q) z)) := by
  induction f with
  | nil =>
    obtain ⟨a, ha, _⟩ := h
    cases ha
  | cons p f ih =>
    obtain ⟨a, ha, pa⟩ := h
    have fp := hf p List.mem_cons_self
    unfold lk2 ups2
    by_cases e : p.1 = q
    · rw [if_pos e, if_pos e]
      rcases List.mem_cons.mp ha with w | w
      · subst w
        exact ⟨_, List.mem_cons_self, fadd_pos fp.1 hz fp.2 pz (.inl pa)⟩
      · exact ⟨a, List.mem_cons_of_mem _ w, pa⟩
    · rw [if_neg e, if_neg e]
      rcases List.mem_cons.mp ha with w | w
      · exact ⟨p, List.mem_cons_self, w ▸ pa⟩
      · obtain ⟨b, hb, pb⟩ := ih ⟨a, w, pa⟩ fun a ha => hf a (List.mem_cons_of_mem _ ha)
        exact ⟨b, List.mem_cons_of_mem _ hb, pb⟩
theorem steps_some {f : Tb2} {qs : List (Int × Int)} (nd : (f.map (·.1)).Nodup) (h : Pos2 f) (hp : qs.Perm (f.map (·.1))) : stepsOf f qs ≠ [] := by
  obtain ⟨a, ha, pa⟩ := h
  have mq : a.1 ∈ qs := hp.mem_iff.mpr (List.mem_map.mpr ⟨a, ha, rfl⟩)
  have e := lk2_mem nd ha
  have ne : lk2 f a.1 ≠ (0, 1) := fun z => by
    rw [e] at z
    rw [z] at pa
    exact absurd pa (by decide)
  have m : (a.1.1, a.1.2, lk2 f a.1) ∈ stepsOf f qs := List.mem_map.mpr ⟨a.1, List.mem_filter.mpr ⟨mq, decide_eq_true ne⟩, rfl⟩
  exact List.ne_nil_of_mem m
end CS
set_option Elab.async false
set_option maxRecDepth 100000
set_option maxHeartbeats 16000000
set_option linter.unusedVariables false
set_option pp.maxSteps 400
namespace CS
open PySem L2
theorem addK_iff (ns : List Int) (m a : Int) : a ∈ addK ns m ↔ a ∈ ns ∨ a = m := by
  refine ⟨addK_mem, fun h => ?_⟩
  unfold addK
  split
  · next c => exact h.elim id fun e => e ▸ c
  · exact h.elim (List.mem_append_left _) fun e => by rw [e]; simp
theorem Hft.wide {M G : List Int} {near : Int} {j c c' : Nat} {f : Tb2} (h : Hft M G near j c f) (l : c ≤ c') : Hft M G near j c' f := ⟨h.nd, Nat.le_trans h.len l, h.ok⟩
theorem Hft.parts {M G : List Int} {near : Int} {j c : Nat} {f : Tb2} (h : Hft M G near j c f) : (∀ a ∈ f, Fr a.2) ∧ (∀ a ∈ f, Fr a.2 ∧ 0 ≤ a.2.1) := ⟨fun a ha => (h.ok a ha).1, fun a ha => ⟨(h.ok a ha).1, (h.ok a ha).2.1⟩⟩
/-- a list of numbers that is being made at D -/
def LcI (H : Hp) (D : Addr) (zs : List Int) (H' : Hp) : Prop := H' D = some (.lst (zs.map V.int)) ∧ Same H H'
section
variable {P : Program} {w : World} {K : PySem.W.Frag} {mg : Str → Option Value} {base : Heap}
def spSteps (K : PySem.W.Frag) : Sp := fun vs H Q _ => ∃ (d c l : Addr) (k : Nat) (m : Int), vs = [.ref d, .int m] ∧ StAt H d c l k ∧ k ≤ 50000 ∧ 0 < m ∧ m ≤ 4 ∧
  ∀ H' r ts k', k' ≤ k + 100 → StAt H' d c l k' → Fm d l H H' → TbAt K H' r ts → Tab ts → ts ≠ [] → Q (.ref r) H'
abbrev nsSteps : List Str := ["state", "many", "grid", "mark", "hefts", "near", "k", "low", "high", "heft", "wide", "up", "far", "part", "pair"]
theorem scLawSteps : FnScope nsSteps ["state", "many"] (defScope sLawSteps) := ⟨rfl, rfl, rfl, by decide +kernel, rfl, by decide +kernel, by decide +kernel⟩
theorem ok_law_steps {f : Addr} {fd : FuncData} (F : Df K mg "_law_steps" sLawSteps ["state", "many"] f fd) (T : Bt mg) (mmax : mg "max" = none)
    {f1 : Addr} {fd1 : FuncData} (D1 : Df K mg "_law_marks" sLawMarks ["state", "many", "most"] f1 fd1) (G1 : FnOk P w K mg base CX0 3 f1 fd1 ["state", "many", "most"] spMarks)
    {f2 : Addr} {fd2 : FuncData} (D2 : Df K mg "_law_draw" sDraw ["state", "many"] f2 fd2) (G2 : FnOk P w K mg base CX0 2 f2 fd2 ["state", "many"] spDraw)
    {f3 : Addr} {fd3 : FuncData} (D3 : Df K mg "_law_of" sLawOf ["state", "some"] f3 fd3) (G3 : FnOk P w K mg base CX0 3 f3 fd3 ["state", "some"] (spOneOf K))
    {f4 : Addr} {fd4 : FuncData} (D4 : Df K mg "_law_heft" sLawHeft ["state"] f4 fd4) (G4 : FnOk P w K mg base CX0 3 f4 fd4 ["state"] (spHeft K))
    {f5 : Addr} {fd5 : FuncData} (D5 : Df K mg "_law_ratio" sLawRatio ["top", "bottom"] f5 fd5) (G5 : FnOk P w K mg base CX0 1 f5 fd5 ["top", "bottom"] spLowP)
    {f6 : Addr} {fd6 : FuncData} (D6 : Df K mg "_law_less" sLawLess ["one", "other"] f6 fd6) (G6 : FnOk P w K mg base CX0 2 f6 fd6 ["one", "other"] (spF2 K (fun _ _ => True) fsub))
    {f7 : Addr} {fd7 : FuncData} (D7 : Df K mg "_law_plus" sLawPlus ["one", "other"] f7 fd7) (G7 : FnOk P w K mg base CX0 2 f7 fd7 ["one", "other"] (spF2 K (fun _ _ => True) fadd))
    {f8 : Addr} {fd8 : FuncData} (D8 : Df K mg "_law_times" sLawTimes ["one", "other"] f8 fd8) (G8 : FnOk P w K mg base CX0 2 f8 fd8 ["one", "other"] (spF2 K (fun _ _ => True) fmul)) : FnOk P w K mg base CX0 4 f fd ["state", "many"] (spSteps K) := by
  refine F.F.ok scLawSteps (fun vs H Q E h => ?_) (fun cdv A outer s H vs Q E hr h => ?_)
  · obtain ⟨d, c, l, k, m, rfl, _⟩ := h
    rfl
  · obtain ⟨d, c, l, k0, m, rfl, S, hk0, m0, m4, k⟩ := h
    have hu := hu_of hr
    refine ⟨_, pss_cons (ps_set (i := 2) scLawSteps.nd rfl (Or.inl rfl) (pe_callB (call_sortedDI rfl) (by rfl) T.sorted (by decide +kernel) (pa_cons (pe_callTy (call_dictP rfl) (by rfl) T.dict (by decide +kernel) (pa_cons (pe_lc (own := [("mark", 3)]) (g := gName 3) (tt := tYes) rfl scLawSteps.nd (pi_list (pe_op op_cat (pe_lst (pa_cons (pe_un un_neg pe_int) (pa_cons pe_int pa_nil))) (pe_call G1 hr (by rfl) D1.g D1.F.kp D1.b .nil pass0 (pa_cons (pv 0) (pa_cons pe_int (pa_cons pe_int pa_nil)))))) (blkOk_by (N := nsSteps) (sc := defScope sLawSteps) (by decide +kernel)) (fun _ _ _ _ _ => pg_name (i := 3) scLawSteps.nd rfl (Or.inl rfl)) (fun _ _ _ _ _ => pts_nil) (fun _ _ _ _ _ => pe_tup (pa_cons (pv 3) (pa_cons pe_bl pa_nil)))) pa_nil)) pa_nil)))
      (pss_cons (ps_set (i := 4) scLawSteps.nd rfl (Or.inr rfl) pe_dnewT)
      (pss_cons (ps_for PassesOwn.never rfl (pi_list (pe_call G1 hr (by rfl) D1.g D1.F.kp D1.b .nil pass0 (pa_cons (pv 0) (pa_cons (pv 1) (pa_cons pe_int pa_nil))))) (pg_name (i := 5) scLawSteps.nd rfl (Or.inr rfl)) (pss_one
        (ps_for PassesOwn.never rfl (pi_range1 rfl T.range (pa_cons (pe_op op_add pe_int (pe_call G2 (hr.mono (by decide)) (by rfl) D2.g D2.F.kp D2.b .nil pass0 (pa_cons (pv 0) (pa_cons pe_int pa_nil)))) pa_nil)) (pg_name (i := 6) scLawSteps.nd rfl (Or.inl rfl))
          (pss_cons (ps_set (i := 7) scLawSteps.nd rfl (Or.inl rfl) (pe_call G3 hr (by rfl) D3.g D3.F.kp D3.b .nil pass0 (pa_cons (pv 0) (pa_cons (pe_lc (own := [("mark", 3)]) (g := gName 3) (tt := _) rfl scLawSteps.nd (pi_list (pv 2)) (blkOk_by (N := nsSteps) (sc := defScope sLawSteps) (by decide +kernel)) (fun _ _ _ _ _ => pg_name (i := 3) scLawSteps.nd rfl (Or.inl rfl)) (fun _ _ _ _ _ => pts_one (pt_cmpR op_le (pv 3) (pv 5) (nomark _))) (fun _ _ _ _ _ => pv 3)) pa_nil))))
          (pss_cons (ps_set (i := 8) scLawSteps.nd rfl (Or.inl rfl) (pe_call G3 hr (by rfl) D3.g D3.F.kp D3.b .nil pass0 (pa_cons (pv 0) (pa_cons (pe_lc (own := [("mark", 3)]) (g := gName 3) (tt := _) rfl scLawSteps.nd (pi_list (pv 2)) (blkOk_by (N := nsSteps) (sc := defScope sLawSteps) (by decide +kernel)) (fun _ _ _ _ _ => pg_name (i := 3) scLawSteps.nd rfl (Or.inl rfl)) (fun _ _ _ _ _ => pts_one (pt_cmpR op_ge (pv 3) (pv 5) (nomark _))) (fun _ _ _ _ _ => pv 3)) pa_nil))))
          (pss_cons (ps_par (i := 9) (j := 10) (by rfl) scLawSteps.nd rfl rfl (by decide) rfl rfl (pa_cons (pe_call G4 hr (by rfl) D4.g D4.F.kp D4.b .nil pass0 (pa_cons (pv 0) pa_nil)) (pa_cons (pe_callB (call_max2 rfl) (by rfl) mmax (by decide +kernel) (pa_cons pe_int (pa_cons (pe_op op_sub (pv 8) (pv 7)) pa_nil))) pa_nil)) (by rfl))
          (pss_cons (ps_set (i := 11) scLawSteps.nd rfl (Or.inl rfl) (pe_call G5 (hr.mono (by decide)) (by rfl) D5.g D5.F.kp D5.b .nil pass0 (pa_cons (pe_op op_sub (pv 5) (pv 7)) (pa_cons (pv 10) pa_nil))))
          (pss_one (ps_for PassesOwn.never rfl (pi_tup (pe_tup (pa_cons (pe_tup (pa_cons (pv 7) (pa_cons (pe_call G6 (hr.mono (by decide)) (by rfl) D6.g D6.F.kp D6.b .nil pass0 (pa_cons (pe_tup (pa_cons pe_int (pa_cons pe_int pa_nil))) (pa_cons (pv 11) pa_nil))) pa_nil))) (pa_cons (pe_tup (pa_cons (pv 8) (pa_cons (pv 11) pa_nil))) pa_nil)))) (pg_tup rfl (pgs_cons (pg_name (i := 12) scLawSteps.nd rfl (Or.inl rfl)) (pgs_cons (pg_name (i := 13) scLawSteps.nd rfl (Or.inl rfl)) pgs_nil)))
            (pss_one (ps_dput hu (pv 4) (pe_tup (pa_cons (pv 5) (pa_cons (pv 12) pa_nil))) (pe_call G7 (hr.mono (by decide)) (by rfl) D7.g D7.F.kp D7.b .nil pass0 (pa_cons (pe_dget2 hu (pv 4) (pe_tup (pa_cons (pv 5) (pa_cons (pv 12) pa_nil))) (pe_tup (pa_cons pe_int (pa_cons pe_int pa_nil))) ⟨rfl, rfl, rfl, rfl⟩) (pa_cons (pe_call G8 (hr.mono (by decide)) (by rfl) D8.g D8.F.kp D8.b .nil pass0 (pa_cons (pv 9) (pa_cons (pv 13) pa_nil))) pa_nil))) rfl))))))))))
          )
      (pss_one (ps_ret (pe_callTy call_tuple_of (by rfl) T.tuple (by decide +kernel) (pa_cons (pe_lc (own := [("pair", 14)]) (g := gName 14) (tt := tTest (tOp (rNeD K) (tDGet (tVar 4) (tVar 14)) (tTup (tCons (tC (.int 0)) (tCons (tC (.int 1)) tNil))))) rfl scLawSteps.nd (pi_list (pe_callB (cr_sortDT rfl) (by rfl) T.sorted (by decide +kernel) (pa_cons (pv 4) pa_nil))) (blkOk_by (N := nsSteps) (sc := defScope sLawSteps) (by decide +kernel)) (fun _ _ _ _ _ => pg_name (i := 14) scLawSteps.nd rfl (Or.inl rfl)) (fun _ _ _ _ _ => pts_one (pt_cmpR (op_neD hr.units) (pe_dget hu (pv 4) (pv 14) (fun _ _ => rfl)) (pe_tup (pa_cons pe_int (pa_cons pe_int pa_nil))) (nomark _))) (fun _ _ _ _ _ => pe_op (r := rCatT K) op_catT (pv 14) (pe_tup (pa_cons (pe_dget hu (pv 4) (pv 14) (fun _ _ => rfl)) pa_nil)))) pa_nil)))))), ?_⟩
    refine ⟨_, rfl, (by show 2 ≤ sizeLine; decide), fun t0 n0 => ?_⟩
    have s0 := Same.new (o := .lst [V.int (-10), V.int 10]) n0
    have N0 := S.neD n0
    have h0 : (upd H t0 (.lst [V.int (-10), V.int 10])) t0 = some (.lst [V.int (-10), V.int 10]) := upd_same
    have S0 := S.same s0
    have F0 : Fm d l H (upd H t0 (.lst [V.int (-10), V.int 10])) := same_fm s0
    generalize upd H t0 (.lst [V.int (-10), V.int 10]) = Hz at *
    refine ⟨_, rfl, d, c, l, k0, 4, 9, rfl, S0, by omega, by decide, by decide, by decide, by decide, fun H1 t1 ns k1 hk1 asc lo len pos S1 fm1 nt ht => ?_⟩
    have h01 : H1 t0 = some (.lst [V.int (-10), V.int 10]) := fm1 _ _ h0 N0.1 N0.2.2
    refine ⟨t0, t1, _, _, rfl, rfl, h01, ht, ?_, fun t2 n2 => ?_⟩
    · rw [List.length_map]
      exact Nat.le_trans (show 2 + ns.length ≤ 1000 by omega) (by decide)
    obtain ⟨all, eall⟩ : ∃ all : List Int, all = -10 :: 10 :: ns := ⟨_, rfl⟩
    have e2 : ([V.int (-10), V.int 10] ++ ns.map V.int) = all.map V.int := by rw [eall]; rfl
    rw [e2]
    have s2 := Same.new (o := .lst (all.map V.int)) n2
    have F2 : Fm d l H (upd H1 t2 (.lst (all.map V.int))) := (F0.trans fm1).same s2
    have S2 := S1.same s2
    have h2 : (upd H1 t2 (.lst (all.map V.int))) t2 = some (.lst (all.map V.int)) := upd_same
    have lall : all.length ≤ 6 := by rw [eall]; simp; omega
    generalize upd H1 t2 (.lst (all.map V.int)) = H2 at *
    refine ⟨t2, rfl, ⟨_, SqL.of h2⟩, fun D0 nD0 => lc_list (K := K) (a := t2) (xs := all.map V.int) (fun i H' => ∃ kvs ks, LcKV K H2 D0 kvs H' ∧ kvs.length = i ∧ (mergeK [] kvs).map (·.1) = ks.map Sum.inl ∧ ks.Nodup ∧ ks.length ≤ i ∧ ∀ x, x ∈ ks ↔ x ∈ all.take i) ⟨[], [], LcKV.start nD0, rfl, rfl, List.nodup_nil, Nat.le_refl _, fun x => by simp⟩ (fun i H' _ ⟨_, _, ⟨_, _, s, _⟩, _⟩ => SqL.of (s _ _ h2)) ?_ ?_⟩
    · rintro i v H' hi ⟨kvs, ks, ⟨ps, g1, g2, g3⟩, g4, g5, g6, g7, g8⟩
      rw [List.getElem?_map] at hi
      obtain ⟨z, hzi, rfl⟩ : ∃ z, all[i]? = some z ∧ v = V.int z := by
        cases e : all[i]? with
        | none => rw [e] at hi; cases hi
        | some z => rw [e] at hi; exact ⟨z, rfl, (Option.some.inj hi).symm⟩
      have li : i < all.length := (List.getElem?_eq_some_iff.mp hzi).1
      refine ⟨rfl, ?_⟩
      dsimp only [tYes]
      rw [if_pos rfl]
      refine ⟨_, rfl, (by show 2 ≤ sizeLine; decide), fun t3 n3 => ?_⟩
      have k3 := Same.new (o := .tup [V.int z, V.bl true]) n3
      have hl := g3.length
      refine ⟨_, k3 _ _ g1, small1000 (by rw [List.length_map]; omega), kvs ++ [((.inl z : Key), V.bl true)], addK ks z, LcKV.step (kv := ((.inl z : Key), V.bl true)) nD0 (k3 _ _ g1) (g2.trans k3) (g3.mono fun q kv h => k3.tup h) (SqT.of upd_same), by rw [List.length_append, g4]; rfl, ?_, addK_nodup g6, by have := addK_len ks z; omega, fun x => ?_⟩
      · have e : mergeK [] (kvs ++ [((.inl z : Key), V.bl true)]) = putK (mergeK [] kvs) (.inl z : Key) (.bl true) := by
          unfold mergeK
          rw [List.foldl_append]
          rfl
        rw [e]
        exact keys_put g5
      · rw [addK_iff, take_snoc hzi, List.mem_append, List.mem_singleton, g8]
    rintro H3 ⟨kvs, ks, ⟨ps, g1, g2, g3⟩, g4, g5, g6, g7, g8⟩
    rw [List.length_map] at g7 g8
    rw [List.take_length] at g8
    refine ⟨D0, ps, kvs, rfl, SqL.of g1, g3, fun dd nd => ?_⟩
    have k4 := Same.new (o := .dK (mergeK [] kvs)) nd
    refine ⟨dd, _, ks, rfl, .inl upd_same, g5, by omega, fun gs g perm srt ng => ?_⟩
    have k5 := Same.new (o := .lst (gs.map V.int)) ng
    have s35 := g2.trans (k4.trans k5)
    have hg : (upd (upd H3 dd (.dK (mergeK [] kvs))) g (.lst (gs.map V.int))) g = some (.lst (gs.map V.int)) := upd_same
    have nH2g : H2 g = none := by
      cases e : H2 g with
      | none => rfl
      | some u =>
        rw [(g2.trans k4) _ _ e] at ng
        cases ng
    have S5 := S2.same s35
    have F5 := F2.same s35
    have Ng := S2.neD nH2g
    have gmem : ∀ x, x ∈ gs ↔ x ∈ all := fun x => by rw [perm.mem_iff, g8]
    have gl6 : gs.length ≤ 6 := by rw [perm.length_eq]; omega
    have gbound : ∀ x ∈ gs, -10 ≤ x ∧ x ≤ 10 := fun x hx => by
      have := (gmem x).mp hx
      rw [eall] at this
      rcases List.mem_cons.mp this with q | q
      · omega
      · rcases List.mem_cons.mp q with q | q
        · omega
        · have := lo x q
          omega
    have gm10 : (-10 : Int) ∈ gs := (gmem _).mpr (by rw [eall]; simp)
    have gp10 : (10 : Int) ∈ gs := (gmem _).mpr (by rw [eall]; simp)
    generalize upd (upd H3 dd (.dK (mergeK [] kvs))) g (.lst (gs.map V.int)) = H5 at *
    clear g1 g2 g3 g4 g5 g6 g7 g8 perm srt ng nd k4 k5 s35 kvs ks ps
    intro D nD
    have k6 := Same.new (o := .dT []) nD
    have ND := S5.neD nD
    have D0 : H D = none := F5.none nD ND.1 ND.2.2
    have gneD : g ≠ D := fun z => by
      rw [z, nD] at hg
      cases hg
    have h6 : (upd H5 D (.dT [])) D = some (.dT []) := upd_same
    have S6 := S5.same k6
    have F6 := F5.same k6
    have hg6 := k6 _ _ hg
    generalize upd H5 D (.dT []) = H6 at *
    refine ⟨_, rfl, _, rfl, d, c, l, k1, m, 9, rfl, S6, by omega, m0, by omega, by decide, by decide, fun H7 p ms kB hkB ascm lom lenm posm S7 fm7 np hp => ?_⟩
    have pned : p ≠ d ∧ p ≠ c ∧ p ≠ l := S6.neD np
    have pneD : p ≠ D := fun z => by
      rw [z, h6] at np
      cases np
    have L7 : Ls K H d c l D g p gs ms kB [] [] H7 := ⟨S7, F6.trans fm7, D0, ND.1, ND.2.1, ND.2.2, Ng.1, Ng.2.2, gneD, pned.1, pned.2.2, pneD, fm7 _ _ hg6 Ng.1 Ng.2.2, hp, fm7 _ _ h6 ND.1 ND.2.2, .nil⟩
    clear fm7 S7 hp np
    refine ⟨p, rfl, ⟨_, SqL.of L7.hp⟩, for_list (K := K) (a := p) (xs := ms.map V.int) (fun i σ H' => ∃ kvs f kk v5 v6 v7 v8 v9 v10 v11 v12 v13, σ = [some (.ref d), some (.int m), some (.ref g), none, some (.ref D), v5, v6, v7, v8, v9, v10, v11, v12, v13, none] ∧ Ls K H d c l D g p gs ms kk kvs f H' ∧ kk ≤ kB + 9 * i ∧ (∀ X, X ∉ ms.take i → Hft (ms.take i) gs X 0 (4 * i) f) ∧ (∀ x, wsum f x = 0) ∧ (0 < i → Pos2 f))
      ⟨[], [], kB, none, none, none, none, none, none, none, none, none, rfl, L7, by omega, fun X _ => ⟨List.nodup_nil, Nat.le_refl _, fun a ha => nomatch ha⟩, fun x => rfl, fun z => absurd z (Nat.lt_irrefl 0)⟩ (fun i σ H' _ ⟨_, _, _, _, _, _, _, _, _, _, _, _, _, L, _⟩ => SqL.of L.hp) ?_ ?_⟩
    · rintro i v σ H8 hi ⟨kvs, f, kk, v5, v6, v7, v8, v9, v10, v11, v12, v13, rfl, L, hkk, hft, ws, ps⟩
      rw [List.getElem?_map] at hi
      obtain ⟨near, hni, rfl⟩ : ∃ z, ms[i]? = some z ∧ v = V.int z := by
        cases e : ms[i]? with
        | none => rw [e] at hi; cases hi
        | some z => rw [e] at hi; exact ⟨z, rfl, (Option.some.inj hi).symm⟩
      have li : i < ms.length := (List.getElem?_eq_some_iff.mp hni).1
      have nb := lom near (List.mem_of_getElem? hni)
      have nott : near ∉ ms.take i := fun z => by
        have nd := ascm.imp fun e => Int.ne_of_lt e
        obtain ⟨j, hj, e⟩ := List.getElem_of_mem z
        rw [List.length_take] at hj
        rw [List.getElem_take] at e
        exact List.pairwise_iff_getElem.mp nd j i (by omega) li (by omega) (e.trans (List.getElem?_eq_some_iff.mp hni).2.symm)
      have i4 : i < 4 := by omega
      refine ⟨_, rfl, d, c, l, kk, 2, rfl, L.S, by decide, by decide, by omega, fun r H9 r0 r1 S9 fm9 => ?_⟩
      have L9 := L.draw S9 fm9
      refine ⟨_, _, rfl, rfl, _, rfl, by omega, by omega, ?_⟩
      refine for_range (lo := 0) (n := (1 + r).toNat) (fun i2 σ H' => ∃ kvs f kk v6 v7 v8 v9 v10 v11 v12 v13, σ = [some (.ref d), some (.int m), some (.ref g), none, some (.ref D), some (.int near), v6, v7, v8, v9, v10, v11, v12, v13, none] ∧ Ls K H d c l D g p gs ms kk kvs f H' ∧ kk ≤ kB + 9 * i + 1 + 4 * i2 ∧ Hft (ms.take i) gs near (2 * i2) (4 * i + 2 * i2) f ∧ (∀ x, wsum f x = 0) ∧ (0 < i + i2 → Pos2 f))
        ⟨kvs, f, _, v6, v7, v8, v9, v10, v11, v12, v13, rfl, L9, by omega, hft near nott, ws, ps⟩ ?_ ?_
      · rintro i2 σ Ha hi2 ⟨kvs, f, kk, v6, v7, v8, v9, v10, v11, v12, v13, rfl, L, hkk, hf, ws, ps⟩
        have i22 : i2 < 2 := by omega
        refine ⟨_, rfl, _, rfl, g, rfl, ⟨_, SqL.of L.hg⟩, fun D1 n1 => lc_list (K := K) (a := g) (xs := gs.map V.int) (fun j H' => LcI Ha D1 ((gs.take j).filter fun x => decide (x ≤ near)) H') ⟨upd_same, Same.new n1⟩ (fun j H' _ h => SqL.of (h.2 _ _ L.hg)) ?_ ?_⟩
        · rintro j v H' hj ⟨b1, b2⟩
          rw [List.getElem?_map] at hj
          obtain ⟨x, hxj, rfl⟩ : ∃ z, gs[j]? = some z ∧ v = V.int z := by
            cases e : gs[j]? with
            | none => rw [e] at hj; cases hj
            | some z => rw [e] at hj; exact ⟨z, rfl, (Option.some.inj hj).symm⟩
          refine ⟨rfl, _, rfl, _, rfl, _, _, rfl, rfl, _, rfl, ?_⟩
          dsimp only
          by_cases cx : x ≤ near
          · rw [if_pos (decide_eq_true cx)]
            refine ⟨_, rfl, _, b1, small1000 ?_, ?_, same_upd n1 b2⟩
            · rw [List.length_map]
              have := List.length_filter_le (fun x => decide (x ≤ near)) (gs.take j)
              rw [List.length_take] at this
              omega
            · rw [upd_same, take_snoc hxj, List.filter_append, List.filter_cons_of_pos (by simp [cx]), List.map_append]
              rfl
          · rw [if_neg (by simp [cx])]
            refine ⟨?_, b2⟩
            rw [take_snoc hxj, List.filter_append, List.filter_cons_of_neg (by simp [cx])]
            show H' D1 = some (.lst ((_ ++ []).map V.int))
            rw [List.append_nil]
            exact b1
        rintro Hb ⟨b1, b2⟩
        rw [List.length_map, List.take_length] at b1
        have Lb := L.same b2
        have N1 := L.S.neD n1
        have lf := List.length_filter_le (fun x => decide (x ≤ near)) gs
        refine ⟨d, c, l, D1, kk, _, rfl, Lb.S, by omega, b1, N1.1, N1.2.2, List.length_pos_of_mem (List.mem_filter.mpr ⟨gm10, decide_eq_true (by omega)⟩), by omega, fun lo_ Hc hlo Sc fc => ?_⟩
        obtain ⟨lom_, lole⟩ := List.mem_filter.mp hlo
        have lole := of_decide_eq_true lole
        have Lc := Lb.draw Sc fc
        refine ⟨_, rfl, _, rfl, g, rfl, ⟨_, SqL.of Lc.hg⟩, fun D2 n2 => lc_list (K := K) (a := g) (xs := gs.map V.int) (fun j H' => LcI Hc D2 ((gs.take j).filter fun x => decide (near ≤ x)) H') ⟨upd_same, Same.new n2⟩ (fun j H' _ h => SqL.of (h.2 _ _ Lc.hg)) ?_ ?_⟩
        · rintro j v H' hj ⟨b1, b2⟩
          rw [List.getElem?_map] at hj
          obtain ⟨x, hxj, rfl⟩ : ∃ z, gs[j]? = some z ∧ v = V.int z := by
            cases e : gs[j]? with
            | none => rw [e] at hj; cases hj
            | some z => rw [e] at hj; exact ⟨z, rfl, (Option.some.inj hj).symm⟩
          refine ⟨rfl, _, rfl, _, rfl, _, _, rfl, rfl, _, rfl, ?_⟩
          dsimp only
          by_cases cx : near ≤ x
          · rw [if_pos (decide_eq_true cx)]
            refine ⟨_, rfl, _, b1, small1000 ?_, ?_, same_upd n2 b2⟩
            · rw [List.length_map]
              have := List.length_filter_le (fun x => decide (near ≤ x)) (gs.take j)
              rw [List.length_take] at this
              omega
            · rw [upd_same, take_snoc hxj, List.filter_append, List.filter_cons_of_pos (by simp [cx]), List.map_append]
              rfl
          · rw [if_neg (by simp [cx])]
            refine ⟨?_, b2⟩
            rw [take_snoc hxj, List.filter_append, List.filter_cons_of_neg (by simp [cx])]
            show H' D2 = some (.lst ((_ ++ []).map V.int))
            rw [List.append_nil]
            exact b1
        rintro Hd ⟨c1, c2⟩
        rw [List.length_map, List.take_length] at c1
        have Ld := Lc.same c2
        have N2 := Lc.S.neD n2
        have lf2 := List.length_filter_le (fun x => decide (near ≤ x)) gs
        refine ⟨d, c, l, D2, kk + 1, _, rfl, Ld.S, by omega, c1, N2.1, N2.2.2, List.length_pos_of_mem (List.mem_filter.mpr ⟨gp10, decide_eq_true (by omega)⟩), by omega, fun hi_ He hhi Se fe => ?_⟩
        obtain ⟨him_, hile⟩ := List.mem_filter.mp hhi
        have hile := of_decide_eq_true hile
        have Le := Ld.draw Se fe
        refine ⟨_, rfl, d, c, l, kk + 1 + 1, rfl, Le.S, by omega, fun hh Hf z fz pz sz Sf ff hhz => ?_⟩
        have Lf := Le.draw Sf ff
        refine ⟨_, rfl, _, rfl, _, _, rfl, rfl, _, _, rfl, _, _, rfl, ?_⟩
        have lb := gbound lo_ lom_
        have hb := gbound hi_ him_
        obtain ⟨wd, ewd⟩ : ∃ wd : Int, wd = if 1 < hi_ - lo_ then hi_ - lo_ else 1 := ⟨_, rfl⟩
        have efix : (if hi_ - lo_ > 1 then hi_ - lo_ else 1) = wd := ewd.symm
        rw [efix]
        have wd0 : 0 < wd := by rw [ewd]; split <;> omega
        have wd20 : wd ≤ 20 := by rw [ewd]; split <;> omega
        refine ⟨_, rfl, _, rfl, _, _, rfl, rfl, _, rfl, _, _, rfl, wd0, lt_up (n := 4000) (show (near - lo_).natAbs < 2 ^ 10 by omega) (by decide), lt_up (n := 4000) (show wd.natAbs < 2 ^ 10 by omega) (by decide), fun ua nua => ?_⟩
        obtain ⟨up, eup⟩ : ∃ up, up = low (near - lo_) wd := ⟨_, rfl⟩
        have halv := halves lole hile fz ewd
        have fact := part_facts lole hile lb.1 hb.2 ewd fz pz sz
        dsimp only at halv fact
        rw [← eup] at halv fact ⊢
        obtain ⟨fu, su, fl, sl, ⟨y1, y2, y3⟩, ⟨x1, x2, x3⟩⟩ := fact
        have s1 := Same.new (o := .tup [V.int up.1, V.int up.2]) nua
        have hup : FT K (upd Hf ua (.tup [V.int up.1, V.int up.2])) ua up := FT.new
        have Lg := Lf.same s1
        have hzg := s1.tup hhz
        generalize upd Hf ua (.tup [V.int up.1, V.int up.2]) = Hg at *
        -- the two parts
        refine ⟨_, rfl, (by show 2 ≤ sizeLine; decide), fun ta na => ⟨_, rfl, ta, ua, (1, 1), up, rfl, FT.new (x := (1, 1)), (Same.new na).tup hup, fr_one 1, fu, sz_one (by decide) (by decide), su.up (by decide), trivial, fun tb nb2 => ⟨(by show 2 ≤ sizeLine; decide), fun tc nc => ?_⟩⟩⟩
        have s2 := (Same.new (o := .tup [V.int 1, V.int 1]) na).trans ((Same.new (o := .tup [V.int (fsub (1, 1) up).1, V.int (fsub (1, 1) up).2]) nb2).trans (Same.new (o := .tup [V.int lo_, V.ref tb]) nc))
        have hl1 : FT K (upd (upd (upd Hg ta (.tup [V.int 1, V.int 1])) tb (.tup [V.int (fsub (1, 1) up).1, V.int (fsub (1, 1) up).2])) tc (.tup [V.int lo_, V.ref tb])) tb (fsub (1, 1) up) := (Same.new nc).tup FT.new
        have hc1 : SqT K (upd (upd (upd Hg ta (.tup [V.int 1, V.int 1])) tb (.tup [V.int (fsub (1, 1) up).1, V.int (fsub (1, 1) up).2])) tc (.tup [V.int lo_, V.ref tb])) tc [V.int lo_, V.ref tb] := SqT.of upd_same
        have Lh := Lg.same s2
        have hzh := s2.tup hzg
        have huph := s2.tup hup
        generalize upd (upd (upd Hg ta (.tup [V.int 1, V.int 1])) tb (.tup [V.int (fsub (1, 1) up).1, V.int (fsub (1, 1) up).2])) tc (.tup [V.int lo_, V.ref tb]) = Hh at *
        refine ⟨_, rfl, _, rfl, (by show 2 ≤ sizeLine; decide), fun td ntd => ⟨(by show 2 ≤ sizeLine; decide), fun te nte => ?_⟩⟩
        have s3 := (Same.new (o := .tup [V.int hi_, V.ref ua]) ntd).trans (Same.new (o := .tup [V.ref tc, V.ref td]) nte)
        have Li := Lh.same s3
        have hzi := s3.tup hzh
        have hupi := s3.tup huph
        have hli := s3.tup hl1
        have hci := s3.tup hc1
        have hdi : SqT K (upd (upd Hh td (.tup [V.int hi_, V.ref ua])) te (.tup [V.ref tc, V.ref td])) td [V.int hi_, V.ref ua] := (Same.new nte).tup (SqT.of upd_same)
        have hte : SqT K (upd (upd Hh td (.tup [V.int hi_, V.ref ua])) te (.tup [V.ref tc, V.ref td])) te [V.ref tc, V.ref td] := SqT.of upd_same
        generalize upd (upd Hh td (.tup [V.int hi_, V.ref ua])) te (.tup [V.ref tc, V.ref td]) = Hi at *
        obtain ⟨f1, ef1⟩ : ∃ f1, f1 = ups2 f (near, lo_) (fadd (lk2 f (near, lo_)) (fmul z (fsub (1, 1) up))) := ⟨_, rfl⟩
        obtain ⟨f2, ef2⟩ : ∃ f2, f2 = ups2 f1 (near, hi_) (fadd (lk2 f1 (near, hi_)) (fmul z up)) := ⟨_, rfl⟩
        have hf1 : Hft (ms.take i) gs near (2 * i2 + 1) (4 * i + 2 * i2 + 1) f1 := by rw [ef1]; exact hf.put y1 y2 y3 lom_
        have hf2 : Hft (ms.take i) gs near (2 * i2 + 1 + 1) (4 * i + 2 * i2 + 1 + 1) f2 := by rw [ef2]; exact hf1.put x1 x2 x3 him_
        have ws2 : ∀ x, wsum f2 x = 0 := fun x => by
          rw [ef2, wsum_put hf1.parts.1 x1, ef1, wsum_put hf.parts.1 y1, ws]
          dsimp only
          by_cases e : near = x
          · rw [if_pos e, if_pos e]
            rw [← e]
            grind
          · rw [if_neg e, if_neg e]
            grind
        have ps2 : Pos2 f2 := by
          by_cases e : 0 < (fmul z (fsub (1, 1) up)).1
          · rw [ef2]
            refine pos2_keep ?_ hf1.parts.2 x1 x2
            rw [ef1]
            exact pos2_new hf.parts.2 y1 e
          · have e0 : fmul z (fsub (1, 1) up) = (0, 1) := fr_zero y1 (by omega)
            have vz : 0 < (fmul z up).1 := by
              refine Int.lt_iff_le_and_ne.mpr ⟨x2, fun q => ?_⟩
              have e1 : fmul z up = (0, 1) := fr_zero x1 q.symm
              have w1 := val_mul fz fl
              have w2 := val_mul fz fu
              rw [e0, val_sub (fr_one 1) fu] at w1
              rw [e1] at w2
              rw [val01] at w1 w2
              have one : val ((1, 1) : Fx) = 1 := by
                unfold val
                simp
                grind
              rw [one] at w1
              have vz0 : val z = 0 := by grind
              have := val_zero fz vz0
              rw [this] at pz
              exact absurd pz (by decide)
            rw [ef2]
            exact pos2_new hf1.parts.2 x1 vz
        obtain ⟨fI, fI0, fI1, fI2⟩ : ∃ fI : Nat → Tb2, fI 0 = f ∧ fI 1 = f1 ∧ fI 2 = f2 := ⟨fun j => if j = 0 then f else if j = 1 then f1 else f2, rfl, rfl, rfl⟩
        refine ⟨te, rfl, ⟨_, hte⟩, for_tup (K := K) (a := te) (xs := [V.ref tc, V.ref td]) (fun j σ H' => ∃ kvs va vb, σ = [some (.ref d), some (.int m), some (.ref g), none, some (.ref D), some (.int near), some (.int (0 + (i2 : Int))), some (.int lo_), some (.int hi_), some (.ref hh), some (.int wd), some (.ref ua), va, vb, none] ∧ Ls K H d c l D g p gs ms (kk + 1 + 1 + 2) kvs (fI j) H' ∧ TK K Hi H') ⟨kvs, v12, v13, rfl, by rw [fI0]; exact Li, fun _ _ h => h⟩ (fun j σ H' _ ⟨_, _, _, _, _, t⟩ => t _ _ hte) ?_ ?_⟩
        · rintro j v σ Hj hj ⟨kvs, va, vb, rfl, L, tk⟩
          have case : ∃ (far : Int) (pt : Addr) (q : Addr) (u : Fx) (fa fb : Tb2), v = .ref q ∧ SqT K Hj q [V.int far, V.ref pt] ∧ FT K Hj pt u ∧ Fr u ∧ Sz 7 u ∧ Fr (fmul z u) ∧ Sz 17 (fmul z u) ∧ fI j = fa ∧ fI (j + 1) = fb ∧ fb = ups2 fa (near, far) (fadd (lk2 fa (near, far)) (fmul z u)) ∧ (fa.map (·.1)).Nodup ∧ fa.length ≤ 900 ∧ Fr (lk2 fa (near, far)) ∧ Sz 1000 (lk2 fa (near, far)) := by
            have any : ∀ {j' c' : Nat} {fa : Tb2}, Hft (ms.take i) gs near j' c' fa → j' ≤ 5 → c' ≤ 900 → ∀ q, (fa.map (·.1)).Nodup ∧ fa.length ≤ 900 ∧ Fr (lk2 fa q) ∧ Sz 1000 (lk2 fa q) := fun {j' c' fa} h hj' hc' q => by
              refine ⟨h.nd, Nat.le_trans h.len hc', ?_⟩
              rcases lk2_or fa q with e | mm
              · rw [e]; exact ⟨fr01, sz01 (by decide)⟩
              · obtain ⟨a1, _, _, a4⟩ := h.ok _ mm
                refine ⟨a1, ?_⟩
                rcases a4 with w | w
                · exact w.2.2.up (by decide)
                · exact w.2.up (by omega)
            clear L
            match j, hj with
            | 0, hj =>
              cases hj
              obtain ⟨b1, b2, b3, b4⟩ := any hf (by omega) (by omega) (near, lo_)
              exact ⟨lo_, tb, tc, fsub (1, 1) up, f, f1, rfl, tk _ _ hci, tk _ _ hli, fl, sl, y1, y3, fI0, fI1, ef1, b1, b2, b3, b4⟩
            | 1, hj =>
              cases hj
              obtain ⟨b1, b2, b3, b4⟩ := any hf1 (by omega) (by omega) (near, hi_)
              exact ⟨hi_, ua, td, up, f1, f2, rfl, tk _ _ hdi, tk _ _ hupi, fu, su.up (by decide), x1, x3, fI1, fI2, ef2, b1, b2, b3, b4⟩
            | j + 2, hj => exact absurd hj (by simp)
          obtain ⟨far, pt, q, u, fa, fb, rfl, hq, hpt, gu, zu, gm, zm, efa, efb, eb, nda, lna, frl, szl⟩ := case
          rw [efa] at L
          have hzj := tk _ _ hzi
          refine ⟨q, _, rfl, hq, rfl, _, _, rfl, _, _, rfl, rfl, ?_⟩
          refine ⟨_, rfl, D, rfl, .inr ⟨_, .inl L.hD⟩, _, rfl, _, rfl, (by show 2 ≤ sizeLine; decide), fun t1 m1 => ⟨(by show 2 ≤ sizeLine; decide), fun t2 m2 => ?_⟩⟩
          have q1 := Same.new (o := .tup [V.int near, V.int far]) m1
          have q2 := Same.new (o := .tup [V.int 0, V.int 1]) m2
          have q12 := q1.trans q2
          have La := L.same q12
          obtain ⟨o, a, g1, g2, g3⟩ := La.dp.get_or (q := (near, far)) La.hD (q2 _ _ upd_same) (FT.new (x := (0, 1)))
          have hz2 := q12.tup hzj
          have hpt2 := q12.tup hpt
          generalize upd (upd Hj t1 (.tup [V.int near, V.int far])) t2 (.tup [V.int 0, V.int 1]) = Hk at *
          refine ⟨o, g1, ?_⟩
          rw [g2]
          refine ⟨_, rfl, _, rfl, hh, pt, z, u, rfl, hz2, hpt2, fz, gu, sz.up (by decide), zu.up (by decide), trivial, fun t3 m3 => ?_⟩
          have q3 := Same.new (o := .tup [V.int (fmul z u).1, V.int (fmul z u).2]) m3
          refine ⟨a, t3, _, fmul z u, rfl, q3.tup g3, FT.new, frl, gm, szl.up (by decide), zm.up (by decide), trivial, fun t4 m4 => ?_⟩
          have q4 := Same.new (o := .tup [V.int (fadd (lk2 fa (near, far)) (fmul z u)).1, V.int (fadd (lk2 fa (near, far)) (fmul z u)).2]) m4
          refine ⟨_, rfl, _, rfl, _, rfl, (by show 2 ≤ sizeLine; decide), fun t5 m5 => ?_⟩
          have q5 := Same.new (o := .tup [V.int near, V.int far]) m5
          have Lz := La.same (q3.trans (q4.trans q5))
          have hr4 := q5.tup (FT.new (K := K) (H := upd Hk t3 (.tup [V.int (fmul z u).1, V.int (fmul z u).2])) (r := t4) (x := fadd (lk2 fa (near, far)) (fmul z u)))
          have tk2 : TK K Hj _ := tk_same (q12.trans (q3.trans (q4.trans q5)))
          refine ⟨D, _, rfl, DPut.t (k := k2 (near, far)) Lz.hD upd_same (small1000 (by rw [Lz.dp.len]; omega)), ?_⟩
          refine ⟨putK kvs (k2 (near, far)) (.ref t4), _, _, rfl, ?_, fun a xs h => tk_dT Lz.hD _ _ (tk2 _ _ (tk _ _ h))⟩
          rw [efb, eb]
          exact Lz.put nda hr4
        · rintro σ Hj ⟨kvs, va, vb, rfl, L, tk⟩
          have L : Ls K H d c l D g p gs ms (kk + 1 + 1 + 2) kvs f2 Hj := by
            rw [← fI2]
            exact L
          exact ⟨kvs, f2, _, _, _, _, _, _, _, _, _, rfl, L, by omega, by
            have := hf2
            rw [show 2 * (i2 + 1) = 2 * i2 + 1 + 1 by omega, show 4 * i + (2 * i2 + 1 + 1) = 4 * i + 2 * i2 + 1 + 1 by omega]
            exact this, ws2, fun _ => ps2⟩
      · rintro σ Ha ⟨kvs, f, kk, v6, v7, v8, v9, v10, v11, v12, v13, rfl, L, hkk, hf, ws, ps⟩
        have n2 : (1 + r).toNat ≤ 2 := by omega
        have n1 : 0 < (1 + r).toNat := by omega
        refine ⟨kvs, f, kk, _, _, _, _, _, _, _, _, _, rfl, L, by omega, fun X hX => ?_, ws, fun _ => ps (by omega)⟩
        rw [take_snoc hni] at hX ⊢
        rw [List.mem_append, not_or] at hX
        exact (hf.next (by omega) (fun e => hX.2 (by rw [e]; simp)) hX.1).wide (by omega)
    · rintro σ H8 ⟨kvs, f, kk, v5, v6, v7, v8, v9, v10, v11, v12, v13, rfl, L, hkk, hft, ws, ps⟩
      rw [List.length_map] at hkk hft ps
      rw [List.take_length] at hft
      have out : (50 : Int) ∉ ms := fun z => by
        have := lom 50 z
        omega
      have hf := hft 50 out
      have ps1 := ps posm
      have lm : ms.length ≤ 4 := by omega
      have ldp := L.dp.len
      have lfl := hf.len
      refine ⟨_, rfl, D, kvs, 2, rfl, .inl L.hD, by decide, fun kv hkv => ?_, fun bs ys t isk sr st nt2 => ?_⟩
      · have mm : kv.1 ∈ kvs.map (·.1) := List.mem_map.mpr ⟨kv, hkv, rfl⟩
        rw [L.dp.keys] at mm
        obtain ⟨a, _, ea⟩ := List.mem_map.mp mm
        exact ⟨[a.1.1, a.1.2], ea.symm, rfl⟩
      obtain ⟨qs, qp, qa, ql, qat⟩ := keys_sorted L.dp hf.nd isk sr st
      have tab := steps_tab hf (by decide) (by omega) (by rw [List.length_cons]; omega) (by omega) (fun x hx => by
        rcases List.mem_cons.mp hx with e | e
        · omega
        · have := lom x e
          omega) (fun y hy => by have := gbound y hy; omega) ws qp qa
      have some_ := steps_some hf.nd ps1 qp
      have q1 := Same.new (o := .lst ys) nt2
      have L2' := L.same q1
      have ht2 : (upd H8 t (.lst ys)) t = some (.lst ys) := upd_same
      have qat2 : ∀ (i : Nat) (v : V), ys[i]? = some v → ∃ q, qs[i]? = some q ∧ q ∈ f.map (·.1) ∧ KeyAt (upd H8 t (.lst ys)) v q := fun i v e => by
        obtain ⟨q, e1, e2, b, e3, e4⟩ := qat i v e
        exact ⟨q, e1, e2, b, e3, q1 _ _ e4⟩
      generalize upd H8 t (.lst ys) = H9 at *
      have lqs : qs.length ≤ 16 := by
        have := qp.length_eq
        rw [List.length_map] at this
        omega
      refine ⟨t, rfl, ⟨_, SqL.of ht2⟩, fun Dl nDl => lc_list (K := K) (a := t) (xs := ys) (fun i H' => ∃ us, H' Dl = some (.lst us) ∧ Same H9 H' ∧ StsAt K H' us (stepsOf f (qs.take i))) ⟨[], upd_same, Same.new nDl, .nil⟩ (fun i H' _ ⟨_, _, s, _⟩ => SqL.of (s _ _ ht2)) ?_ ?_⟩
      · rintro i v H' hi ⟨us, b1, b2, b3⟩
        obtain ⟨q, e1, e2, b, rfl, e4⟩ := qat2 i v hi
        have li : i < qs.length := (List.getElem?_eq_some_iff.mp e1).1
        have L3 := L2'.same b2
        have hbq := b2 _ _ e4
        have got : ∃ r, DGet H' D (.ref b) (some (.ref r)) ∧ FT K H' r (lk2 f q) := by
          rcases L3.dp.get q with ⟨r, h1, h2⟩ | ⟨_, _, h3⟩
          · exact ⟨r, by rw [← h1]; exact DGet.t (k := k2 q) L3.hD hbq, h2⟩
          · exact absurd e2 h3
        obtain ⟨r, g1, g2⟩ := got
        have lus : us.length ≤ 16 := by
          rw [b3.len]
          unfold stepsOf
          rw [List.length_map]
          have := List.length_filter_le (fun q => decide (lk2 f q ≠ (0, 1))) (qs.take i)
          rw [List.length_take] at this
          omega
        refine ⟨rfl, _, rfl, _, rfl, D, _, rfl, g1, (by show 2 ≤ sizeLine; decide), fun t6 n6 => ?_⟩
        have q6 := Same.new (o := .tup [V.int 0, V.int 1]) n6
        refine ⟨frD (lk2 f q), frD (0, 1), ftDp (q6.tup g2), ftDp (FT.new (x := (0, 1))), rfl, rfl, _, rfl, ?_⟩
        dsimp only
        rw [eqvFr]
        have L4 := L3.same q6
        have b1' := q6 _ _ b1
        have b2' := b2.trans q6
        have b3' := b3.tk (tk_same q6)
        have hbq' := q6 _ _ hbq
        have g2' := q6.tup g2
        have g1' : DGet (upd H' t6 (.tup [V.int 0, V.int 1])) D (.ref b) (some (.ref r)) := by
          rcases L4.dp.get q with ⟨r', h1, h2⟩ | ⟨_, _, h3⟩
          · rcases L3.dp.get q with ⟨r2, h1', _⟩ | ⟨_, _, h3'⟩
            · have gg : DGet (upd H' t6 (.tup [V.int 0, V.int 1])) D (.ref b) (valV kvs (k2 q)) := DGet.t (k := k2 q) L4.hD hbq'
              have e5 : valV kvs (k2 q) = some (.ref r) := by
                rcases g1 with ⟨kv', k', rd, _, _⟩ | ⟨kv', k', b', rd, eb', hb', ev'⟩
                · rcases rd with rd | ⟨_, rd⟩ <;> rw [L3.hD] at rd <;> cases rd
                · rcases rd with rd | ⟨_, rd⟩ <;> rw [L3.hD] at rd <;> cases rd
                  cases eb'
                  rw [hbq] at hb'
                  have e6 : [V.int q.1, V.int q.2] = k'.map kV := by
                    injection hb' with z
                    injection z
                  have e7 : k' = k2 q := by
                    match k', e6 with
                    | [Sum.inl x, Sum.inl y], e6 =>
                      simp only [List.map_cons, List.map_nil, kV] at e6
                      injection e6 with z1 z2
                      injection z2 with z3 _
                      injection z1 with z1
                      injection z3 with z3
                      unfold k2
                      rw [z1, z3]
                  rw [← e7]
                  exact ev'.symm
              rw [e5] at gg
              exact gg
            · exact absurd e2 h3'
          · exact absurd e2 h3
        generalize upd H' t6 (.tup [V.int 0, V.int 1]) = H'' at *
        by_cases cz : lk2 f q = (0, 1)
        · rw [if_neg (by simp [cz])]
          refine ⟨us, b1', b2', ?_⟩
          have e : stepsOf f (qs.take (i + 1)) = stepsOf f (qs.take i) := by
            unfold stepsOf
            rw [take_snoc e1, List.filter_append, List.filter_cons_of_neg (by simp [cz]), List.filter_nil, List.append_nil]
          rw [e]
          exact b3'
        · rw [if_pos (by simp [cz])]
          refine ⟨_, rfl, _, rfl, _, rfl, D, _, rfl, g1', (by show 1 ≤ sizeLine; decide), fun t7 n7 => ?_⟩
          have q7 := Same.new (o := .tup [V.ref r]) n7
          refine ⟨b, t7, [V.int q.1, V.int q.2], [V.ref r], rfl, rfl, SqT.of (q7 _ _ hbq'), SqT.of upd_same, (by simp), (by show 3 ≤ sizeLine; decide), (fun z => by cases z), fun _ t8 n8 => ?_⟩
          have q8 := q7.trans (Same.new (o := .tup ([V.int q.1, V.int q.2] ++ [V.ref r])) n8)
          refine ⟨us, q8 _ _ b1', small1000 (by omega), us ++ [.ref t8], upd_same, same_upd nDl (b2'.trans q8), ?_⟩
          have e : stepsOf f (qs.take (i + 1)) = stepsOf f (qs.take i) ++ [(q.1, q.2, lk2 f q)] := by
            unfold stepsOf
            rw [take_snoc e1, List.filter_append, List.filter_cons_of_pos (by simp [cz]), List.map_append]
            rfl
          rw [e]
          refine StsAt.tk (tk_lst (q8 _ _ b1')) ((b3'.tk (tk_same q8)).app (.cons (SqT.of upd_same) (q8.tup g2') .nil))
      · rintro H' ⟨us, b1, b2, b3⟩
        rw [← ql, List.take_length] at b3
        refine ⟨Dl, us, rfl, .inl ⟨SqL.of b1, fun tt nt3 => ?_⟩⟩
        have q9 := Same.new (o := .tup us) nt3
        have L5 := L2'.same (b2.trans q9)
        exact k _ tt _ kk (by omega) L5.S L5.fm ⟨us, SqT.of upd_same, b3.tk (tk_same q9)⟩ tab some_
end
end CS
set_option Elab.async false
set_option maxRecDepth 100000
set_option maxHeartbeats 4000000
set_option linter.unusedVariables false
/-! Calls while no repr is under way; repr of data of any depth. -/
namespace CS
open PySem PySem.Spec PyProof.Rows L2
/-- a call stands ready, and no repr is under way around it -/
structure Quiet (P : Program) (w : World) (K : PySem.W.Frag) (mg : Str → Option Value) (base : Heap) (k : Nat) (fd : FuncData) (ps : List Str) (A : Around) (outer : List Env) (s : Shared) (H : Hp) (args : Args) (us : List Value) (vs : List V) : Prop where
  still : A.guards = some []
  room : Room k A
  env : Env0 P w K mg base A outer s H
  bound : BindsTo s fd args (ps.zip us)
  vals : Vals vs us
/-- a def's promise for calls while no repr is under way -/
structure FnG (P : Program) (w : World) (K : PySem.W.Frag) (mg : Str → Option Value) (base : Heap) (CX : CXT) (k : Nat) (f : Addr) (fd : FuncData) (ps : List Str) (sp : Sp) : Prop where
  many : ∀ vs H Q E, sp vs H Q E → vs.length = ps.length
  go : ∀ {A outer s H args us vs Q E}, Quiet P w K mg base k fd ps A outer s H args us vs → sp vs H Q E → codeAny (model P w) A (.call (.ref f) args) (CR CX outer P w H s Q E) s
section
variable {P : Program} {w : World} {K : PySem.W.Frag} {mg : Str → Option Value} {base : Heap} {CX : CXT} {k : Nat} {f : Addr} {fd : FuncData} {ps N : List Str} {sp : Sp} {x qual : Str} {st : Stmt}
theorem FnG.of_any (F : FnOk P w K mg base CX k f fd ps sp) : FnG P w K mg base CX k f fd ps sp := ⟨F.len, fun q h => F.run _ _ _ _ _ _ _ _ _ q.room q.env q.bound q.vals h⟩
/-- how a body's end is the call's end -/
theorem end_of_body {scope : Scope} {cdv : Value} {A : Around} {outer : List Env} {s s' : Shared} {H : Hp} {Q : VK} {E : XK} {fl : Flow} (h : SP (cxOf CX P w K mg base N qual scope f cdv A outer s H E) [] { nx := fun _ H' => Q .non H', rt := Q } fl s') :
    ∃ u v, (fl = .ret u ∨ (fl = .next ∧ u = Value.none)) ∧ RelV v u ∧ CE outer P w H s Q u s' := by
  cases fl with
  | ret u =>
    obtain ⟨v, _, H', J, rv, q⟩ := h
    exact ⟨u, v, .inl rfl, rv, v, H', J.os, J.bare, J.base, J.hok, rv, q⟩
  | next =>
    obtain ⟨_, H', J, q⟩ := h
    exact ⟨.none, .non, .inr ⟨rfl, rfl⟩, rfl, .non, H', J.os, J.bare, J.base, J.hok, rfl, q⟩
  | brk => exact absurd h (fun ⟨_, _, _, z⟩ => z)
  | cont => exact absurd h (fun ⟨_, _, _, z⟩ => z)
/-- a def keeps its promise, if its body does, no repr being under way -/
theorem FnG.of_body (F : Fun K x qual st f fd) (S : FnScope N ps (defScope st)) (many : ∀ vs H Q E, sp vs H Q E → vs.length = ps.length)
    (body : ∀ cdv A outer s H vs Q E, A.guards = some [] → Room k (A.deeper (envOfC qual (defScope st) s.heap.objs.size f cdv)) → sp vs H Q E → ∃ t, PSs (cxOf CX P w K mg base N qual (defScope st) f cdv A outer s H E) (defBody st) t ∧ t { nx := fun _ H' => Q .non H', rt := Q } (start N vs) H) :
    FnG P w K mg base CX (k + 1) f fd ps sp := by
  obtain ⟨oc, od, kV, doc, pm, an, cdv, ct, osl, efd, at_, code⟩ := F.ex
  subst efd
  constructor
  · exact many
  intro A outer s H args us vs Q E q h
  have kept := q.env.bs
  have inn : K.In s.heap := q.env.mod.kin.keeps fun b o e => (kept b o e).1
  have nolim : s.heap.NoLimit := q.env.mod.nolimit.keeps fun b o e => (kept b o e).1
  have pars : ∀ y ∈ ps.zip us, (defScope st).names.lookup y.1 = some .local ∨ ((defScope st).names.lookup y.1 = some .cell ∧ ((cellsFrom (s.heap.objs.size + 1) (defScope st).names []).lookup y.1).isSome = true) := by
    rintro ⟨n, v⟩ hy
    exact (S.par n (List.of_mem_zip hy).1).imp id fun c => ⟨c, PySem.W.cellsFrom_some _ _ _ (.inl c)⟩
  refine codeAny_call_function q.room.depth (inn _ _ at_) rfl S.co S.gen rfl (PySem.W.codeRec_of inn code) (q.bound _ _ _ _ (wpAny_newFunctionEnv_cells S.kind pars ?_))
  rintro env rfl s1 laid
  refine ⟨nolim.keeps laid.toInCall.keep, codeAny_func ?_⟩
  obtain ⟨t, run, now⟩ := body cdv A outer s H vs Q E q.still (q.room.deeper _) h
  have I := inv_start (CX := CX) (E := E) S q.room.hd q.env (many _ _ _ _ h) q.vals laid
  refine wpAny_mono (run.run [] s1 _ H _ I now) (fun fl s' e => ?_) fun _ _ e => e
  obtain ⟨u, v, e1, _, e2⟩ := end_of_body e
  rcases e1 with rfl | ⟨rfl, rfl⟩
  · exact e2
  · exact e2
end
section
variable {X : Cx} {CX : CXT} {k : Nat} {f : Addr} {fd : FuncData} {ps : List Str} {sp : Sp} {dvs : List V} {ds : List Value} {E : XK} {x : Str} {p pos : Pos} {e : Expr} {es : List Expr} {t : TA}
/-- f(e, ..) where no repr is under way -/
theorem pe_callG (F : FnG X.prog X.w X.K X.mg X.base CX k f fd ps sp) (hq : X.A.guards = some []) (hr : Room k X.A) (hg : Gl X x) (hm : X.mg x = some (.ref f)) (hk : PySem.W.keepIn X.K (.ref f) = true) (hb : Binds X.K fd ps []) (hx : Passes CX X E) (ha : PA X (e :: es) t)
    (he : starEach (e :: es) X.env = (false, eval e X.env) :: starEach es X.env := by rfl) (hpl : (backTo pos (starEach es X.env)).any (·.1) = false := by rfl) (hdb : (x == ("__debug__" : Str)) = false := by decide) : PE X (.Call (.Name x p) (e :: es) [] pos) (tCall sp [] E t) := by
  constructor
  intro pins s σ H Q I h
  refine wpAny_Call_Name_kw (ld_glob I hg hm (PySem.W.callWith_K (h₀ := X.base) I.ok.mod.kin hk (thn (ha.run pos pins s σ H _ I h) fun us s1 ⟨vs, H1, J, rv, now⟩ => ⟨J.kIn, ?_⟩) he hpl) hdb)
  have now2 : sp vs H1 Q E := by
    have z : sp (vs ++ []) H1 Q E := now
    rw [List.append_nil] at z
    exact z
  have b2 : BindsTo s1 fd ⟨us, []⟩ (ps.zip us) := by
    have z := hb s1 us J.kIn (by rw [List.append_nil, ← rv.length]; exact F.many _ _ _ _ now2)
    rw [List.append_nil] at z
    exact z
  show wpAny _ _ (call (.ref f) us) _ _ _
  refine wpAny_call (codeAny_mono (F.go ⟨hq, hr, J.env0, b2, rv⟩ now2) fun r s' z => ?_)
  match r, z with
  | .error er, z => exact hx pins σ H1 s1 er s' J z
  | .ok (.ret u), z => exact J.after z
  | .ok .next, z => exact z.elim
  | .ok .brk, z => exact z.elim
  | .ok .cont, z => exact z.elim
/-- repr of data -/
def rShow (K : PySem.W.Frag) : List V → Hp → VK → Prop := fun xs H Q => ∃ v d, xs = [v] ∧ Dp K H v d ∧ d.showable = true ∧ d.hasDict = false ∧ d.depth ≤ 60 ∧ d.shown.length + 64 ≤ sizeLine ∧ Q (.str d.shown) H
theorem call_show (hq : X.A.guards = some []) (hu : X.A.units + 64 < cLine) : CallR X (.builtin "repr") (rShow X.K) := by
  intro pins s σ H xs us Q I r ⟨v, d, ex, hd, h1, h2, h3, h4, q⟩
  subst ex
  obtain ⟨u, rfl, rv⟩ := vals1 r
  obtain ⟨as, rd⟩ := Dp.reads I d v u hd rv
  have sz : d.shown.length ≤ sizeLine := by omega
  cases rd with
  | none =>
    refine PySem.P.repr_of_none ⟨.str _, H, I.tok _, ⟨_, rfl⟩, ?_⟩
    rw [PyData.shown_none] at q
    exact q
  | bool b =>
    refine PySem.P.repr_of_bool ⟨.str _, H, I.tok _, ⟨_, rfl⟩, ?_⟩
    rw [PyData.shown_bool] at q
    exact q
  | int i t =>
    refine PySem.P.repr_of_int (of_decide_eq_true h1) ⟨.str _, H, I.tok _, ⟨_, rfl⟩, ?_⟩
    rw [PyData.shown_int] at q
    exact q
  | str x t =>
    rw [PyData.shown_str] at q sz
    exact PySem.P.repr_of_str ⟨.str _, H, I.tok _, ⟨_, rfl⟩, q⟩ sz
  | list g1 g2 g3 g4 => exact repr_of_reads' (.list g1 g2 g3 g4) h1 (PyData.noDict_hsm h2) hq (by omega) (fun _ _ e => e) (fun h' t tk kp => ⟨.str _, H, I.kept (t' := tk) kp, ⟨_, rfl⟩, q⟩) sz
  | tuple g1 g2 g3 g4 => exact repr_of_reads' (.tuple g1 g2 g3 g4) h1 (PyData.noDict_hsm h2) hq (by omega) (fun _ _ e => e) (fun h' t tk kp => ⟨.str _, H, I.kept (t' := tk) kp, ⟨_, rfl⟩, q⟩) sz
  | dict g1 g2 g3 g4 g5 => cases hd
end
/-! the end: a law whose def is called while no repr is under way -/
theorem still_caller : callerA.guards = some [] := rfl
/-- what is tracked ahead of the law's call: its script alone -/
def scriptH (K : PySem.W.Frag) (a : Addr) (vs : List Value) (ns : List Int) : Hp := fun b => if b = a ∧ K.lookup a = none then some (.frz { cls := .type "list", data := .seq vs.toArray } (.lst (ns.map V.int))) else none
section
variable {P : Program} {w : World} {K : PySem.W.Frag} {mg mb : Str → Option Value} {k : Nat} {fa a : Addr} {fd : FuncData} {x : Str} {sp : Sp} {s₁ : Shared} {vs : List Value} {ns : List Int}
theorem scriptH_of {b : Addr} {u : HO} (e : scriptH K a vs ns b = some u) : b = a ∧ K.lookup a = none ∧ u = .frz { cls := .type "list", data := .seq vs.toArray } (.lst (ns.map V.int)) := by
  unfold scriptH at e
  split at e
  · next z => exact ⟨z.1, z.2, (Option.some.inj e).symm⟩
  · cases e
theorem scriptH_ok (ha : s₁.heap.get? a = some { cls := .type "list", data := .seq vs.toArray }) (hi : IntsAre vs ns) (hl : ns.length ≤ sizeLine) : HOk P w (scriptH K a vs ns) s₁.heap := by
  intro b u e
  obtain ⟨rfl, _, rfl⟩ := scriptH_of e
  exact ⟨ha, by rw [List.length_map]; exact hl, vs, _, vals_ints hi, ha⟩
theorem scriptH_sq (KX : K.In s₁.heap) (ha : s₁.heap.get? a = some { cls := .type "list", data := .seq vs.toArray }) (hi : IntsAre vs ns) (hl : ns.length ≤ sizeLine) : SqL K (scriptH K a vs ns) a (ns.map V.int) := by
  cases e : K.lookup a with
  | none => exact .inl (.inr ⟨_, if_pos ⟨rfl, e⟩⟩)
  | some o =>
    have g := KX a o e
    rw [ha] at g
    cases g
    have l := hi.length
    exact .inr ⟨_, vs.toArray, _, e, rfl, rfl, rfl, by rw [List.size_toArray]; omega, by simpa using vals_ints hi⟩
/-- the law's call ends with True, and what stood stands -/
theorem law_still (KX : K.In s₁.heap) (hns : s₁.heap.Ns mainGlobals mg) (hb : s₁.heap.Ns builtinsNs mb) (hbb : ∀ x : Str, x ≠ "__name__" → mb x = bootBuiltins x) (hlim : s₁.heap.NoLimit) (hg : s₁.gens = #[])
    (ha : s₁.heap.get? a = some { cls := .type "list", data := .seq vs.toArray }) (hi : IntsAre vs ns) (hl : ns.length ≤ sizeLine) (hr : Room k callerA)
    (F : ∀ base : Heap, K.In base → base.Ns mainGlobals mg → FnG P w K mg base CX0 k fa fd [x] sp) (bind : ∀ (s : Shared) (u : Value), BindsTo s fd ⟨[u], []⟩ [(x, u)])
    (hsp : ∀ H : Hp, SqL K H a (ns.map V.int) → sp [.ref a] H (fun v _ => v = .bl true) E0) :
    codeAny (model P w) callerA (.call (.ref fa) ⟨[.ref a], []⟩) (fun r s' => r = .ok (.ret (.bool true)) ∧ OldK s₁.heap s'.heap ∧ s'.os = s₁.os ∧ AllBare s'.gens) s₁ := by
  obtain ⟨H, eH⟩ : ∃ H, H = scriptH K a vs ns := ⟨_, rfl⟩
  have ok : HOk P w H s₁.heap := by rw [eH]; exact scriptH_ok ha hi hl
  have sq : SqL K H a (ns.map V.int) := by rw [eH]; exact scriptH_sq KX ha hi hl
  have only : ∀ {b u}, H b = some u → b = a ∧ K.lookup a = none ∧ u = .frz { cls := .type "list", data := .seq vs.toArray } (.lst (ns.map V.int)) := fun e => scriptH_of (by rw [← eH]; exact e)
  -- whatever is not the script's object is in the part that the call may not change
  have stays : ∀ {b : Addr} {ob : Obj}, s₁.heap.get? b = some ob → (b = a → K.lookup a ≠ none) → (hidT s₁.heap H).get? b = some ob := fun {b ob} e n => hidT_get e (by
    cases q : H b with
    | none => rfl
    | some u =>
      obtain ⟨e1, e2, _⟩ := only q
      exact absurd e2 (n e1))
  have names : ∀ {b : Addr} {m : Str → Option Value}, s₁.heap.Ns b m → (hidT s₁.heap H).Ns b m := by
    rintro b m ⟨ob, es, ep, e, ed, r⟩
    refine ⟨ob, es, ep, stays e (fun z => ?_), ed, r⟩
    subst z
    rw [ha] at e
    cases e
    cases ed
  have inn : K.In (hidT s₁.heap H) := fun b ob e => stays (KX b ob e) (fun z => by rw [← z, e]; exact fun y => nomatch y)
  obtain ⟨mc, l1, l2⟩ := hlim
  have env : Env0 P w K mg (hidT s₁.heap H) callerA [] s₁ H := by
    refine ⟨rfl, ⟨inn, names hns, ⟨mb, names hb, hbb⟩, ⟨mc, names l1, l2⟩⟩, fun b ob e => of_hidT e, Nat.le_of_eq (hidT_size _ _), trivial, fun b hb => ?_, ok, .of_eq hg⟩
    exact (List.not_mem_nil hb).elim
  have ready : Quiet P w K mg (hidT s₁.heap H) k fd [x] callerA [] s₁ H ⟨[.ref a], []⟩ [.ref a] [.ref a] := ⟨still_caller, hr, env, bind s₁ (.ref a), .cons rfl .nil⟩
  refine codeAny_mono ((F _ inn (names hns)).go ready (hsp H sq)) fun r s' z => ?_
  match r, z with
  | .error _, z => exact z.elim
  | .ok .next, z => exact z.elim
  | .ok .brk, z => exact z.elim
  | .ok .cont, z => exact z.elim
  | .ok (.ret u), ⟨v, H', os, bare, un, ok', rv, ev⟩ =>
    subst ev
    cases rv
    refine ⟨rfl, OldK.of_keep fun b ob e => ?_, os, bare⟩
    cases q : H b with
    | none => exact un.keep b ob e q (fun z => (List.not_mem_nil z).elim) (by simp)
    | some u =>
      obtain ⟨rfl, _, rfl⟩ := only q
      rw [ha] at e
      cases e
      exact (ok' _ _ (un.frzs _ _ _ q)).1
end
end CS
set_option Elab.async false
set_option maxRecDepth 100000
set_option maxHeartbeats 8000000
set_option linter.unusedVariables false
set_option pp.maxSteps 400
namespace CS
open PySem L2 StX
/-- data that repr tells: no deeper than D, no heavier than B -/
structure Sw (D B : Nat) (d : PyData) : Prop where
  ok : d.showable = true
  nd : d.hasDict = false
  dp : d.depth ≤ D
  lv : d.leavesShort 200 = true
  wt : d.weight ≤ B
theorem Sw.up {D B D' B' : Nat} {d : PyData} (h : Sw D B d) (h1 : D ≤ D') (h2 : B ≤ B') : Sw D' B' d := ⟨h.ok, h.nd, Nat.le_trans h.dp h1, h.lv, Nat.le_trans h.wt h2⟩
theorem sw_all {D B : Nat} : ∀ {ds : List PyData}, (∀ d ∈ ds, Sw D B d) → PyData.showableAll ds = true ∧ PyData.hasDictAll ds = false ∧ PyData.depthAll ds ≤ D ∧ PyData.leavesShortAll 200 ds = true ∧ PyData.weightAll ds ≤ ds.length * (B + 1)
  | [], _ => ⟨rfl, rfl, Nat.zero_le _, rfl, Nat.le_of_eq (Nat.zero_mul _).symm⟩
  | d :: ds, h => by
    have a := h d List.mem_cons_self
    obtain ⟨b1, b2, b3, b4, b5⟩ := sw_all fun x hx => h x (List.mem_cons_of_mem _ hx)
    refine ⟨by simp only [PyData.showableAll, a.ok, b1, Bool.and_self], by simp only [PyData.hasDictAll, a.nd, b2, Bool.or_self], ?_, by simp only [PyData.leavesShortAll, a.lv, b4, Bool.and_self], ?_⟩
    · have := a.dp
      simp only [PyData.depthAll]
      omega
    · have := a.wt
      simp only [PyData.weightAll, List.length_cons, Nat.add_mul]
      omega
theorem sw_tup {D B : Nat} {ds : List PyData} (h : ∀ d ∈ ds, Sw D B d) : Sw (D + 1) (ds.length * (B + 1)) (.tuple ds) := by
  obtain ⟨b1, b2, b3, b4, b5⟩ := sw_all h
  exact ⟨by simp only [PyData.showable, b1], by simp only [PyData.hasDict, b2], by simp only [PyData.depth]; omega, by simp only [PyData.leavesShort, b4], by simp only [PyData.weight]; exact b5⟩
theorem sw_lst {D B : Nat} {ds : List PyData} (h : ∀ d ∈ ds, Sw D B d) : Sw (D + 1) (ds.length * (B + 1)) (.list ds) := by
  obtain ⟨b1, b2, b3, b4, b5⟩ := sw_all h
  exact ⟨by simp only [PyData.showable, b1], by simp only [PyData.hasDict, b2], by simp only [PyData.depth]; omega, by simp only [PyData.leavesShort, b4], by simp only [PyData.weight]; exact b5⟩
theorem sw_int {i : Int} {n : Nat} (hn : n ≤ 650) (h : i.natAbs < 2 ^ n) : Sw 0 n (.int i) := by
  have h2 : i.natAbs < 2 ^ 650 := Nat.lt_of_lt_of_le h (Nat.pow_le_pow_right (by decide) hn)
  have h3 : i.natAbs.log2 < 650 := PySem.Flt.log2_lt_of (by decide) h2
  refine ⟨?_, rfl, Nat.le_refl _, ?_, ?_⟩
  · simp only [PyData.showable]
    exact decide_eq_true (by omega)
  · simp only [PyData.leavesShort]
    refine decide_eq_true ?_
    have big : (2 : Nat) ^ 650 ≤ 10 ^ 199 := by decide +kernel
    have e := PySem.int_text_length_le10 (a := i) (k := 199) (by decide) (Nat.lt_of_lt_of_le h2 big)
    show (Str.ofString (toString i)).length ≤ 200
    rw [PySem.ofString_length]
    exact e
  · simp only [PyData.weight]
    split
    · exact Nat.zero_le _
    · rename_i c
      have ne : i.natAbs ≠ 0 := fun z => c (by have : i = 0 := by omega
                                               rw [this]; rfl)
      have := (Nat.log2_lt ne).mpr h
      omega
theorem sw_show {D B : Nat} {d : PyData} (h : Sw D B d) (h1 : D ≤ 60) (h2 : B ≤ 80000) : d.showable = true ∧ d.hasDict = false ∧ d.depth ≤ 60 ∧ d.shown.length + 64 ≤ sizeLine := by
  refine ⟨h.ok, h.nd, Nat.le_trans h.dp h1, ?_⟩
  have a := PyData.shown_le 200 (by decide) d h.lv
  have b : (200 + 2) * d.weight + 200 ≤ 202 * 80000 + 200 := Nat.add_le_add_right (Nat.mul_le_mul_left 202 (Nat.le_trans h.wt h2)) 200
  have c : 202 * 80000 + 200 + 64 ≤ sizeLine := by decide
  omega
/-- the sizes of a share that may be told -/
def Told (xs : List (Int × Fx)) : Prop := ∀ a ∈ xs, Sz 650 a.2
theorem sw_fx {x : Fx} (h : Sz 650 x) : Sw 1 1302 (frD x) := by
  refine (sw_tup (D := 0) (B := 650) fun d hd => ?_).up (by decide) (Nat.le_refl _)
  simp only [List.mem_cons, List.not_mem_nil, or_false] at hd
  rcases hd with rfl | rfl
  · exact sw_int (by decide) h.1
  · exact sw_int (by decide) h.2
theorem sw_sh {xs : List (Int × Fx)} (h : Told xs) (s : Shr xs) : Sw 3 20856 (shD xs) := by
  have l8 := s.1
  refine (sw_tup (D := 2) (B := 2606) (ds := xs.map prD) fun d hd => ?_).up (by decide) (by rw [List.length_map]; omega)
  obtain ⟨a, ha, rfl⟩ := List.mem_map.mp hd
  refine (sw_tup (D := 1) (B := 1302) fun d hd => ?_).up (by decide) (Nat.le_refl _)
  simp only [List.mem_cons, List.not_mem_nil, or_false] at hd
  rcases hd with rfl | rfl
  · have := s.2.1 a ha
    exact (sw_int (n := 8) (by decide) (by have : (2 : Nat) ^ 8 = 256 := rfl; omega)).up (by decide) (by decide)
  · exact sw_fx (h a ha)
theorem sw_row {r : List Int} (l : r.length ≤ 8) (h : ∀ c ∈ r, c.natAbs ≤ 1000) : Sw 1 88 (PyData.tuple (r.map PyData.int)) := by
  have a : Sw 1 ((r.map PyData.int).length * 11) (PyData.tuple (r.map PyData.int)) := sw_tup (D := 0) (B := 10) fun d hd => by
    obtain ⟨c, hc, rfl⟩ := List.mem_map.mp hd
    have := h c hc
    exact sw_int (n := 10) (by decide) (by have : (2 : Nat) ^ 10 = 1024 := rfl; omega)
  exact a.up (Nat.le_refl _) (by rw [List.length_map]; omega)
theorem sw_rows {rows : List (List Int)} (l : rows.length ≤ 8) (h : ∀ r ∈ rows, r.length ≤ 8 ∧ ∀ c ∈ r, c.natAbs ≤ 1000) : Sw 2 712 (PyData.tuple (rows.map rowDt)) := by
  have a : Sw 2 ((rows.map rowDt).length * 89) (PyData.tuple (rows.map rowDt)) := sw_tup (D := 1) (B := 88) fun d hd => by
    obtain ⟨r, hr, rfl⟩ := List.mem_map.mp hd
    exact sw_row (h r hr).1 (h r hr).2
  exact a.up (Nat.le_refl _) (by rw [List.length_map]; omega)
theorem sw_cost {rows : List (List Int)} {n m : Nat} (ok : CostOk rows n m) (hn : n ≤ 8) (hm : m ≤ 8) : Sw 2 712 (costD rows) :=
  sw_rows (by rw [ok.len]; exact hn) fun r hr => ⟨by rw [ok.wide r hr]; exact hm, ok.small r hr⟩
theorem sw_pl {p : Nat × Nat} (h : p.1 ≤ 99 ∧ p.2 ≤ 99) : Sw 1 16 (plD p) := by
  refine (sw_tup (D := 0) (B := 7) (ds := [.int (p.1 : Int), .int (p.2 : Int)]) fun d hd => ?_).up (by decide) (Nat.le_refl _)
  simp only [List.mem_cons, List.not_mem_nil, or_false] at hd
  have : (2 : Nat) ^ 7 = 128 := rfl
  rcases hd with rfl | rfl
  · exact sw_int (by decide) (by omega)
  · exact sw_int (by decide) (by omega)
theorem bendsL_in {ms : List Int} {rows : List (List Int)} {way : Int} (hm : ms.length ≤ 99) : ∀ {n : Nat}, n ≤ 99 → ∀ p ∈ bendsL ms rows way n, p.1 ≤ 99 ∧ p.2 ≤ 99
  | 0, _, p, h => by cases h
  | n + 1, hn, p, h => by
    have e : bendsL ms rows way (n + 1) = bendsL ms rows way n ++ bendRow ms (riseL (rows.getD n []) (rows.getD (n + 1) [])) way n := rfl
    rw [e] at h
    rcases List.mem_append.mp h with q | q
    · exact bendsL_in hm (by omega) p q
    · unfold bendRow at q
      obtain ⟨j, hj, rfl⟩ := List.mem_map.mp q
      have := List.mem_range.mp (List.mem_filter.mp hj).1
      exact ⟨by show n ≤ 99; omega, by show j ≤ 99; omega⟩
theorem sw_pls {ps : List (Nat × Nat)} (h : ∀ p ∈ ps, p.1 ≤ 99 ∧ p.2 ≤ 99) (l : ps.length ≤ 64) : Sw 2 1088 (.tuple (ps.map plD)) := by
  refine (sw_tup (D := 1) (B := 16) (ds := ps.map plD) fun d hd => ?_).up (by decide) (by rw [List.length_map]; omega)
  obtain ⟨p, hp, rfl⟩ := List.mem_map.mp hd
  exact sw_pl (h p hp)
theorem sw_word (ups downs : List (Nat × Nat)) : Sw 0 20 (.str (wordS ups downs)) := by
  unfold wordS
  split <;> split <;> exact ⟨rfl, rfl, by decide, by decide +kernel, by decide +kernel⟩
theorem sw_none : Sw 0 20 PyData.none := ⟨rfl, rfl, by decide, rfl, by decide⟩
theorem sw_kindO (ups downs : List (Nat × Nat)) : Sw 0 20 (kindO ups downs) := by
  unfold kindO
  split
  · exact sw_none
  · exact sw_word _ _
theorem sw_kindD {ups downs : List (Nat × Nat)} (hu : ∀ p ∈ ups, p.1 ≤ 99 ∧ p.2 ≤ 99) (hd : ∀ p ∈ downs, p.1 ≤ 99 ∧ p.2 ≤ 99) : Sw 1 105 (kindD ups downs) := by
  have w : ∀ x : Str, Sw 0 20 (.str x) → Sw 1 105 (.tuple [.str x]) := fun x h => (sw_tup (D := 0) (B := 20) fun d hd => by rw [List.mem_singleton.mp hd]; exact h).up (by decide) (by simp)
  have one : Sw 0 20 (.str "mixed") ∧ Sw 0 20 (.str "up") ∧ Sw 0 20 (.str "down") ∧ Sw 0 20 (.str "straight") := ⟨⟨rfl, rfl, by decide, by decide +kernel, by decide +kernel⟩, ⟨rfl, rfl, by decide, by decide +kernel, by decide +kernel⟩, ⟨rfl, rfl, by decide, by decide +kernel, by decide +kernel⟩, ⟨rfl, rfl, by decide, by decide +kernel, by decide +kernel⟩⟩
  obtain ⟨o1, o2, o3, o4⟩ := one
  unfold kindD
  have two : (2 : Nat) ^ 7 = 128 := rfl
  split
  · next u us d ds =>
    have a := hu u List.mem_cons_self
    have b := hd d List.mem_cons_self
    refine (sw_tup (D := 0) (B := 20) fun d hd => ?_).up (by decide) (Nat.le_refl _)
    simp only [List.mem_cons, List.not_mem_nil, or_false] at hd
    rcases hd with rfl | rfl | rfl | rfl | rfl
    · exact o1
    · exact (sw_int (n := 7) (by decide) (by omega)).up (by decide) (by decide)
    · exact (sw_int (n := 7) (by decide) (by omega)).up (by decide) (by decide)
    · exact (sw_int (n := 7) (by decide) (by omega)).up (by decide) (by decide)
    · exact (sw_int (n := 7) (by decide) (by omega)).up (by decide) (by decide)
  · exact w _ o2
  · exact w _ o3
  · exact w _ o4
/-! what kind_paper tells is as told -/
theorem kind_sort (ups downs : List (Nat × Nat)) : sortD kindSorts (kindD ups downs) = true := by
  cases ups <;> cases downs <;> simp [kindD, sortD, kindSorts, PyData.eqv, PyData.eqvAll]
theorem kind_headD (ups downs : List (Nat × Nat)) : headD (kindD ups downs) = wordS ups downs := by
  cases ups <;> cases downs <;> simp [kindD, headD, wordS]
theorem hasPl_head (p : Nat × Nat) (ps : List (Nat × Nat)) : hasPl (p :: ps) (.tuple [.int (p.1 : Int), .int (p.2 : Int)]) = true := by
  simp [hasPl, plD, PyData.eqv, PyData.eqvAll]
theorem kind_told (ups downs : List (Nat × Nat)) : toldD ups downs (kindD ups downs) = true := by
  cases ups with
  | nil =>
    cases downs with
    | nil =>
      simp only [kindD, toldD]
      rw [if_neg (by decide +kernel), if_neg (by decide +kernel), if_neg (by decide +kernel)]
      rfl
    | cons d ds =>
      simp only [kindD, toldD]
      rw [if_neg (by decide +kernel), if_pos trivial]
      rfl
  | cons u us =>
    cases downs with
    | nil =>
      simp only [kindD, toldD]
      rw [if_neg (by decide +kernel), if_neg (by decide +kernel), if_pos trivial]
      rfl
    | cons d ds =>
      refine (show toldD (u :: us) (d :: ds) (.tuple [.str "mixed", .int (u.1 : Int), .int (u.2 : Int), .int (d.1 : Int), .int (d.2 : Int)]) = ([PyData.int (u.1 : Int), .int (u.2 : Int), .int (d.1 : Int), .int (d.2 : Int)].all wholeD && (hasPl (u :: us) (.tuple [.int (u.1 : Int), .int (u.2 : Int)]) && hasPl (d :: ds) (.tuple [.int (d.1 : Int), .int (d.2 : Int)]))) from by
        rw [toldD, if_pos rfl]
        rfl).trans ?_
      rw [hasPl_head, hasPl_head]
      rfl
theorem shaped_kind (ups downs : List (Nat × Nat)) : SeqAt.shaped (kindD ups downs) = true := by
  cases ups <;> cases downs <;> simp [kindD, SeqAt.shaped, PyData.canLay0, PyData.canLayAll0, PyData.depth, PyData.depthAll] <;> decide +kernel
theorem shaped_two (i j : Int) : SeqAt.shaped (.tuple [.int i, .int j]) = true := by
  simp [SeqAt.shaped, PyData.canLay0, PyData.canLayAll0, PyData.depth, PyData.depthAll]
theorem passE {P : Program} {w : World} {X : Cx} : Passes (L2.CX P w) X (fun _ _ _ => False) := fun _ _ _ _ _ _ _ ⟨_, _, _, _, _, _, _, _, _, _, _, _, z⟩ => z.elim
end CS
set_option Elab.async false
set_option maxRecDepth 100000
set_option maxHeartbeats 8000000
set_option linter.unusedVariables false
set_option pp.maxSteps 400
namespace CS
open PySem L2 StX
/-- what is known of all data that the law shows -/
structure Ks (xs ys : List (Int × Fx)) (rows : List (List Int)) (ups downs : List (Nat × Nat)) : Prop where
  all3 : Sw 4 62571 (.list [shD xs, shD ys, costD rows])
  due : Sw 3 4356 (.list [.tuple (ups.map plD), .tuple (downs.map plD), kindO ups downs, costD rows])
  sheet : Sw 1 105 (kindD ups downs)
theorem ks_of {K : PySem.W.Frag} {H : Hp} {p q : Addr} {v : V} {xs ys : List (Int × Fx)} {rows : List (List Int)} (C : CArg K H p q v xs ys rows) (tx : Told xs) (ty : Told ys) : Ks xs ys rows (upsO ys rows) (downsO ys rows) := by
  obtain ⟨_, _, sx, sy, _, ok⟩ := C
  have lx := sx.1
  have ly := sy.1
  have lr : rows.length ≤ 8 := by rw [ok.len]; exact lx
  have uin : ∀ p ∈ upsO ys rows, p.1 ≤ 99 ∧ p.2 ≤ 99 := bendsL_in (by rw [List.length_map]; omega) (by omega)
  have din : ∀ p ∈ downsO ys rows, p.1 ≤ 99 ∧ p.2 ≤ 99 := bendsL_in (by rw [List.length_map]; omega) (by omega)
  have ul : ∀ way, (bendsT (ys.map (·.1)) rows way).length ≤ 64 := fun way => by
    have a := bendsL_len (ys.map (·.1)) rows way (rows.length - 1)
    have b : (rows.length - 1) * (ys.map (·.1)).length ≤ 8 * 8 := Nat.mul_le_mul (by omega) (by rw [List.length_map]; exact ly)
    exact Nat.le_trans a b
  have c := sw_cost ok lx ly
  have hx := sw_sh tx sx
  have hy := sw_sh ty sy
  have hu := sw_pls uin (ul _)
  have hd := sw_pls din (ul _)
  have hk := sw_kindO (upsO ys rows) (downsO ys rows)
  have a3 : ∀ d ∈ [shD xs, shD ys, costD rows], Sw 3 20856 d := fun d hd => by
    simp only [List.mem_cons, List.not_mem_nil, or_false] at hd
    rcases hd with rfl | rfl | rfl
    · exact hx
    · exact hy
    · exact c.up (by decide) (by decide)
  have a4 : ∀ d ∈ [PyData.tuple ((upsO ys rows).map plD), PyData.tuple ((downsO ys rows).map plD), kindO (upsO ys rows) (downsO ys rows), costD rows], Sw 2 1088 d := fun d h => by
    simp only [List.mem_cons, List.not_mem_nil, or_false] at h
    rcases h with rfl | rfl | rfl | rfl
    · exact hu
    · exact hd
    · exact hk.up (by decide) (by decide)
    · exact c.up (by decide) (by decide)
  exact ⟨Sw.up (D' := 4) (B' := 62571) (sw_lst a3) (by decide) (by show 3 * 20857 ≤ 62571; decide), Sw.up (D' := 3) (B' := 4356) (sw_lst a4) (by decide) (by show 4 * 1089 ≤ 4356; decide), sw_kindD uin din⟩
theorem ite_q {b : Bool} {i : Nat} {σ : L2.St} {H : Hp} {Q : VK} {u : V} (hw : σ[i]? = some (some u)) (h : Q (if b = true then u else .non) H) : if b = true then tVar i σ H Q else tC .non σ H Q := by
  cases b
  · exact h
  · exact ⟨u, hw, h⟩
theorem kind_mixed {ups downs : List (Nat × Nat)} (h : ups ≠ [] ∧ downs ≠ []) : ∃ u us d ds, ups = u :: us ∧ downs = d :: ds ∧ kindD ups downs = .tuple [.str "mixed", .int (u.1 : Int), .int (u.2 : Int), .int (d.1 : Int), .int (d.2 : Int)] ∧ wordS ups downs = "mixed" := by
  cases ups with
  | nil => exact absurd rfl h.1
  | cons u us =>
    cases downs with
    | nil => exact absurd rfl h.2
    | cons d ds => exact ⟨u, us, d, ds, rfl, rfl, rfl, by simp [wordS]⟩
theorem kind_plain {ups downs : List (Nat × Nat)} (h : ¬ (ups ≠ [] ∧ downs ≠ [])) : kindD ups downs = .tuple [.str (wordS ups downs)] := by
  cases ups with
  | nil => cases downs <;> simp [kindD, wordS]
  | cons u us =>
    cases downs with
    | nil => simp [kindD, wordS]
    | cons d ds => exact absurd ⟨by simp, by simp⟩ h
section
variable {P : Program} {w : World} {K : PySem.W.Frag} {mg : Str → Option Value} {base : Heap}
def spRight (K : PySem.W.Frag) : Sp := fun vs H Q _ => ∃ p q v xs ys rows, vs = [.ref p, .ref q, v] ∧ CArg K H p q v xs ys rows ∧ Told xs ∧ Told ys ∧ ∀ H', Same H H' → Q (.bl true) H'
abbrev nsRight : List Str := ["one", "other", "costs_so", "ups", "downs", "word", "kept", "due", "twice", "told", "sheet"]
theorem scRight : FnScope nsRight ["one", "other", "costs_so"] (defScope sLawKindRight) := ⟨rfl, rfl, rfl, by decide +kernel, rfl, by decide +kernel, by decide +kernel⟩
theorem ok_right {f CP : Addr} {fd : FuncData} (F : Df K mg "_law_kind_right" sLawKindRight ["one", "other", "costs_so"] f fd) (T : Bt mg) (mrepr : mg "repr" = none)
    {f1 : Addr} {fd1 : FuncData} (D1 : Df K mg "_law_bends" sLawBends ["one", "other", "costs_so"] f1 fd1) (G1 : FnOk P w K mg base CX0 1 f1 fd1 ["one", "other", "costs_so"] (spLBends K))
    {f2 : Addr} {fd2 : FuncData} (D2 : Df K mg "_law_word" sLawWord ["one", "other", "costs_so"] f2 fd2) (G2 : FnOk P w K mg base CX0 2 f2 fd2 ["one", "other", "costs_so"] (spWord K))
    {f3 : Addr} {fd3 : FuncData} (D3 : Df K mg "bends_up" sBendsUp ["one", "other", "costs"] f3 fd3) (G3 : FnOk P w K mg base CX0 9 f3 fd3 ["one", "other", "costs"] (spUps K))
    {f4 : Addr} {fd4 : FuncData} (D4 : Df K mg "bends_down" sBendsDown ["one", "other", "costs"] f4 fd4) (G4 : FnOk P w K mg base CX0 9 f4 fd4 ["one", "other", "costs"] (spDowns K))
    {f5 : Addr} {fd5 : FuncData} (D5 : Df K mg "kind_of" sKindOf ["one", "other", "costs"] f5 fd5) (G5 : FnOk P w K mg base CX0 11 f5 fd5 ["one", "other", "costs"] (spKindOf K))
    {f6 : Addr} {fd6 : FuncData} (D6 : Df K mg "need_costs" sNeedCosts ["one", "other", "thing"] f6 fd6) (G6 : FnOk P w K mg base CX0 8 f6 fd6 ["one", "other", "thing"] (spNeedCosts K))
    {f7 : Addr} {fd7 : FuncData} (D7 : Df K mg "kind_paper" sKindPaper ["one", "other", "costs"] f7 fd7) (G7 : FnOk P w K mg base CX0 10 f7 fd7 ["one", "other", "costs"] (spKind K))
    {f8 : Addr} {fd8 : FuncData} (D8 : Df K mg "check_kind" sCheckKind ["one", "other", "costs", "paper"] f8 fd8) (G8 : FnOk P w K mg base (L2.CX P w) 9 f8 fd8 ["one", "other", "costs", "paper"] (spCheck K CP)) : FnG P w K mg base CX0 12 f fd ["one", "other", "costs_so"] (spRight K) := by
  refine FnG.of_body F.F scRight (fun vs H Q E h => ?_) (fun cdv A outer s H vs Q E hq hr h => ?_)
  · obtain ⟨p, q, v, xs, ys, rows, rfl, _⟩ := h
    rfl
  · obtain ⟨p, q, v, xs, ys, rows, rfl, C, tx, ty, k⟩ := h
    have hq' : (A.deeper (PyProof.Rows.envOfC "_law_kind_right" (defScope sLawKindRight) s.heap.objs.size f cdv)).guards = some [] := hq
    have hu65 : (A.deeper (PyProof.Rows.envOfC "_law_kind_right" (defScope sLawKindRight) s.heap.objs.size f cdv)).units + 65 < cLine := by have := hr.un; omega
    refine ⟨_, PSs.nox (pss_cons (ps_asg (pe_call G1 (hr.mono (by decide)) (by rfl) D1.g D1.F.kp D1.b .nil pass0 (pa_cons (pv 0) (pa_cons (pv 1) (pa_cons (pv 2) pa_nil)))) (pg_tup rfl (pgs_cons (pg_name (i := 3) scRight.nd rfl (Or.inl rfl)) (pgs_cons (pg_name (i := 4) scRight.nd rfl (Or.inl rfl)) pgs_nil))))
      (pss_cons (ps_par (i := 5) (j := 6) (by rfl) scRight.nd rfl rfl (by decide) rfl rfl (pa_cons (pe_call G2 (hr.mono (by decide)) (by rfl) D2.g D2.F.kp D2.b .nil pass0 (pa_cons (pv 0) (pa_cons (pv 1) (pa_cons (pv 2) pa_nil)))) (pa_cons (pe_callB (call_show hq' hr.units) (by rfl) mrepr (by decide +kernel) (pa_cons (pe_lst (pa_cons (pv 0) (pa_cons (pv 1) (pa_cons (pv 2) pa_nil)))) pa_nil)) pa_nil)) (by rfl))
      (pss_cons (ps_set (i := 7) scRight.nd rfl (Or.inl rfl) (pe_lst (pa_cons (pe_callTy call_tuple_of (by rfl) T.tuple (by decide +kernel) (pa_cons (pv 3) pa_nil)) (pa_cons (pe_callTy call_tuple_of (by rfl) T.tuple (by decide +kernel) (pa_cons (pv 4) pa_nil)) (pa_cons (pe_ifExp (pt_cmpR op_ne (pv 5) pe_str (nomark _)) (pv 5) pe_non) (pa_cons (pv 2) pa_nil))))))
      (pss_cons (ps_for PassesOwn.never rfl (pi_range1 rfl T.range (pa_cons pe_int pa_nil)) (pg_name (i := 8) scRight.nd rfl (Or.inl rfl))
        (pss_cons (ps_set (i := 9) scRight.nd rfl (Or.inl rfl) (pe_lst (pa_cons (pe_call G3 (hr.mono (by decide)) (by rfl) D3.g D3.F.kp D3.b .nil pass0 (pa_cons (pv 0) (pa_cons (pv 1) (pa_cons (pv 2) pa_nil)))) (pa_cons (pe_call G4 (hr.mono (by decide)) (by rfl) D4.g D4.F.kp D4.b .nil pass0 (pa_cons (pv 0) (pa_cons (pv 1) (pa_cons (pv 2) pa_nil)))) (pa_cons (pe_call G5 hr (by rfl) D5.g D5.F.kp D5.b .nil pass0 (pa_cons (pv 0) (pa_cons (pv 1) (pa_cons (pv 2) pa_nil)))) pa_nil)))))
        (pss_one (ps_if (pt_cmpR op_ne (pe_callB (call_show hq' hr.units) (by rfl) mrepr (by decide +kernel) (pa_cons (pe_op op_cat (pv 9) (pe_lst (pa_cons (pe_call G6 (hr.mono (by decide)) (by rfl) D6.g D6.F.kp D6.b .nil pass0 (pa_cons (pv 0) (pa_cons (pv 1) (pa_cons (pv 2) pa_nil)))) pa_nil))) pa_nil)) (pe_callB (call_show hq' hr.units) (by rfl) mrepr (by decide +kernel) (pa_cons (pv 7) pa_nil)) (nomark _)) (pss_one (ps_ret pe_bl)) pss_nil))))
      (pss_cons (ps_set (i := 10) scRight.nd rfl (Or.inl rfl) (pe_call G7 (hr.mono (by decide)) (by rfl) D7.g D7.F.kp D7.b .nil pass0 (pa_cons (pv 0) (pa_cons (pv 1) (pa_cons (pv 2) pa_nil)))))
      (pss_cons (ps_if (PW.pt (pw_or (pt_cmpR op_ne (pe_callB (call_show hq' hr.units) (by rfl) mrepr (by decide +kernel) (pa_cons (pe_call G7 (hr.mono (by decide)) (by rfl) D7.g D7.F.kp D7.b .nil pass0 (pa_cons (pv 0) (pa_cons (pv 1) (pa_cons (pv 2) pa_nil)))) pa_nil)) (pe_callB (call_show hq' hr.units) (by rfl) mrepr (by decide +kernel) (pa_cons (pv 10) pa_nil)) (nomark _))
          (pw_or (pt_not (pt_val (pe_callB call_isi (by rfl) T.isinstance (by decide +kernel) (pa_cons (pv 10) (pa_cons (pe_bltn (v := .ty "tuple") (by rfl) T.tuple (by decide +kernel) rfl) pa_nil))))) (pw_or1 (pt_cmpR op_ne (pe_ix ix_tup (pv 10) pe_int (fun _ _ => rfl)) (pv 5) (nomark _)))))) (pss_one (ps_ret pe_bl)) pss_nil)
      (pss_cons (ps_if (PW.pt (pw_and (pt_cmpR op_eq (pv 5) pe_str (nomark _)) (pw_and1 (PW.pt (pw_or (pt_cmpR op_ne (pe_callB call_len_seq (by rfl) T.len PySem.boot_len (pa_cons (pv 10) pa_nil)) pe_int (nomark _)) (pw_or (pt_cmpR (op_notInD hu65) (pe_slice sl_data (pv 10) (po_some pe_int) (po_some pe_int)) (pv 3) (by rfl)) (pw_or1 (pt_cmpR (op_notInD hu65) (pe_slice sl_data (pv 10) (po_some pe_int) po_none) (pv 4) (by rfl))))))))) (pss_one (ps_ret pe_bl)) pss_nil)
      (pss_cons (ps_if (PW.pt (pw_and (pt_cmpR op_ne (pv 5) pe_str (nomark _)) (pw_and1 (pt_cmpR op_ne (pe_callB call_len_seq (by rfl) T.len PySem.boot_len (pa_cons (pv 10) pa_nil)) pe_int (nomark _))))) (pss_one (ps_ret pe_bl)) pss_nil)
      (pss_one (ps_ret (pe_and (pe_cmpR op_eq (pe_call G8 (hr.mono (by decide)) (by rfl) D8.g D8.F.kp D8.b .nil passE (pa_cons (pv 0) (pa_cons (pv 1) (pa_cons (pv 2) (pa_cons (pv 10) pa_nil))))) (pv 5) (nomark _)) (pe_one (pe_cmpR op_eq (pe_callB (call_show hq' hr.units) (by rfl) mrepr (by decide +kernel) (pa_cons (pe_lst (pa_cons (pv 0) (pa_cons (pv 1) (pa_cons (pv 2) pa_nil)))) pa_nil)) (pv 6) (nomark _)))))))))))))), ?_⟩
    have ks := ks_of C tx ty
    refine ⟨_, rfl, _, rfl, _, rfl, p, q, v, xs, ys, rows, rfl, C, fun H1 r a b s1 hr1 ha hb => ?_⟩
    refine ⟨r, _, rfl, hr1, rfl, _, _, rfl, _, _, rfl, rfl, ?_⟩
    have C1 := C.same s1
    refine ⟨_, rfl, _, rfl, _, rfl, p, q, v, xs, ys, rows, rfl, C1, fun H2 s2 => ?_⟩
    have C2 := C1.same s2
    have s02 := s1.trans s2
    have ha2 := ha.same s2
    have hb2 := hb.same s2
    refine ⟨_, rfl, _, rfl, _, rfl, (by show 3 ≤ sizeLine; decide), fun t nt => ?_⟩
    obtain ⟨z1, z2, z3, z4⟩ := sw_show ks.all3 (by decide) (by decide)
    have k3 := Same.new (o := .lst [V.ref p, V.ref q, v]) nt
    have C3 := C2.same k3
    have s03 := s02.trans k3
    have ha3 := ha2.same k3
    have hb3 := hb2.same k3
    refine ⟨_, _, rfl, .lst (SqL.of upd_same) (.cons C3.1.dp (.cons C3.2.1.dp (.cons C3.2.2.2.2.1 .nil))), z1, z2, z3, z4, _, _, rfl, ?_⟩
    generalize upd H2 t (.lst [V.ref p, V.ref q, v]) = H3 at *
    clear ha hb ha2 hb2
    obtain ⟨a', us, rfl, hsa, hda⟩ := ha3.lst_inv
    obtain ⟨b', ws, rfl, hsb, hdb⟩ := hb3.lst_inv
    refine ⟨_, rfl, a', us, rfl, .inl ⟨hsa, fun l1 n1 => ?_⟩⟩
    have k4 := Same.new (o := .tup us) n1
    refine ⟨_, rfl, b', ws, rfl, .inl ⟨k4.seq hsb, fun l2 n2 => ?_⟩⟩
    have k5 := k4.trans (Same.new (o := .tup ws) n2)
    have du : Dp K (upd (upd H3 l1 (.tup us)) l2 (.tup ws)) (.ref l1) (.tuple ((upsO ys rows).map plD)) := (Dp.new_tup n1 hda).same (Same.new n2)
    have dd : Dp K (upd (upd H3 l1 (.tup us)) l2 (.tup ws)) (.ref l2) (.tuple ((downsO ys rows).map plD)) := Dp.new_tup n2 (hdb.same k4)
    have s05 := s03.trans k5
    have C5 := C3.same k5
    generalize upd (upd H3 l1 (.tup us)) l2 (.tup ws) = H5 at *
    refine ⟨_, rfl, rfl, _, rfl, ?_⟩
    refine ite_q rfl ?_
    obtain ⟨w3, ew3⟩ : ∃ w3, w3 = (if (!decide (V.str (wordS (upsO ys rows) (downsO ys rows)) = V.str "mixed")) = true then V.str (wordS (upsO ys rows) (downsO ys rows)) else .non) := ⟨_, rfl⟩
    rw [← ew3]
    have hw3 : ∀ Hx, Dp K Hx w3 (kindO (upsO ys rows) (downsO ys rows)) := fun Hx => by
      rw [ew3, word_mixed]
      unfold kindO
      by_cases c : (upsO ys rows) ≠ [] ∧ (downsO ys rows) ≠ []
      · rw [if_pos c, decide_eq_true c]
        exact .non
      · rw [if_neg c, decide_eq_false c]
        exact .str _
    refine ⟨_, rfl, (by show 4 ≤ sizeLine; decide), fun t6 n6 => ?_⟩
    have k6 := Same.new (o := .lst [V.ref l1, V.ref l2, w3, v]) n6
    have C6 := C5.same k6
    have s06 := s05.trans k6
    have due : Dp K (upd H5 t6 (.lst [V.ref l1, V.ref l2, w3, v])) (.ref t6) (.list [.tuple ((upsO ys rows).map plD), .tuple ((downsO ys rows).map plD), kindO (upsO ys rows) (downsO ys rows), costD rows]) := .lst (SqL.of upd_same) (.cons (du.same k6) (.cons (dd.same k6) (.cons (hw3 _) (.cons C6.2.2.2.2.1 .nil))))
    generalize upd H5 t6 (.lst [V.ref l1, V.ref l2, w3, v]) = H6 at *
    obtain ⟨y1, y2, y3, y4⟩ := sw_show ks.due (by decide) (by decide)
    obtain ⟨x1, x2, x3, x4⟩ := sw_show ks.sheet (by decide) (by decide)
    refine ⟨_, rfl, by decide, by decide, for_range (lo := 0) (n := 2) (fun i σ H' => ∃ v8 v9, σ = [some (.ref p), some (.ref q), some v, some (.ref a'), some (.ref b'), some (.str (wordS (upsO ys rows) (downsO ys rows))), some (.str (PyData.list [shD xs, shD ys, costD rows]).shown), some (.ref t6), v8, v9, none] ∧ Same H6 H') ⟨none, none, rfl, Same.refl H6⟩ ?_ ?_⟩
    · rintro i σ H' hi ⟨v8, v9, rfl, sI⟩
      have Ca := C6.same sI
      refine ⟨_, rfl, _, rfl, _, rfl, p, q, v, xs, ys, rows, rfl, Ca, fun Hb rb sb hrb => ?_⟩
      have Cb := Ca.same sb
      refine ⟨_, rfl, _, rfl, _, rfl, p, q, v, xs, ys, rows, rfl, Cb, fun Hc rc sc hrc => ?_⟩
      have Cc := Cb.same sc
      refine ⟨_, rfl, _, rfl, _, rfl, p, q, v, xs, ys, rows, rfl, Cc, fun Hd rd sd hrd => ⟨(by show 3 ≤ sizeLine; decide), fun t8 n8 => ?_⟩⟩
      have Cd := Cc.same sd
      have k8 := Same.new (o := .lst [rb, rc, rd]) n8
      have C8 := Cd.same k8
      have hb8 := hrb.same (sc.trans (sd.trans k8))
      have hc8 := hrc.same (sd.trans k8)
      have hd8 := hrd.same k8
      have h8 : (upd Hd t8 (.lst [rb, rc, rd])) t8 = some (.lst [rb, rc, rd]) := upd_same
      have s8 := sI.trans (sb.trans (sc.trans (sd.trans k8)))
      generalize upd Hd t8 (.lst [rb, rc, rd]) = H8 at *
      obtain ⟨hx8, hy8, sx8, sy8, hd8', ok8⟩ := id C8
      refine ⟨_, rfl, _, rfl, _, rfl, _, rfl, p, q, v, xs, ys, rows, rfl, hx8, hy8, sx8, sy8, hd8', ok8, fun H9 s9 => ⟨(by show 1 ≤ sizeLine; decide), fun t9 n9 => ?_⟩⟩
      have k9 := s9.trans (Same.new (o := .lst [v]) n9)
      refine ⟨t8, t9, _, _, rfl, rfl, k9 _ _ h8, upd_same, (by show 4 ≤ sizeLine; decide), fun t10 n10 => ?_⟩
      have k10 := k9.trans (Same.new (o := .lst ([rb, rc, rd] ++ [v])) n10)
      have told : Dp K (upd (upd H9 t9 (.lst [v])) t10 (.lst ([rb, rc, rd] ++ [v]))) (.ref t10) (.list [.tuple ((upsO ys rows).map plD), .tuple ((downsO ys rows).map plD), kindO (upsO ys rows) (downsO ys rows), costD rows]) := by
        exact .lst (SqL.of upd_same) (.cons (hb8.same k10) (.cons (hc8.same k10) (.cons (hd8.same k10) (.cons (hd8'.same k10) .nil))))
      have s10 := s8.trans k10
      generalize upd (upd H9 t9 (.lst [v])) t10 (.lst ([rb, rc, rd] ++ [v])) = H10 at *
      refine ⟨_, _, rfl, told, y1, y2, y3, y4, ?_⟩
      refine ⟨_, rfl, _, _, rfl, due.same s10, y1, y2, y3, y4, rfl, _, rfl, iteFe (by simp) ?_⟩
      exact ⟨_, _, rfl, s10⟩
    · rintro σ H' ⟨v8, v9, rfl, sI⟩
      have Ca := C6.same sI
      have fin : ∀ (Hx : Hp) (vx : V), Same H6 Hx → Dp K Hx vx (kindD (upsO ys rows) (downsO ys rows)) → CArg K Hx p q v xs ys rows := fun Hx vx s _ => C6.same s
      refine ⟨_, rfl, _, rfl, _, rfl, p, q, v, xs, ys, rows, rfl, Ca, fun Hs vs_ ss hs => ?_⟩
      have Cs := Ca.same ss
      refine ⟨_, rfl, _, rfl, _, rfl, p, q, v, xs, ys, rows, rfl, Cs, fun Ht v2 st h2 => ?_⟩
      have Ct := Cs.same st
      have hst := hs.same st
      have s0t := s06.trans (sI.trans (ss.trans st))
      refine ⟨_, _, rfl, h2, x1, x2, x3, x4, _, rfl, _, _, rfl, hst, x1, x2, x3, x4, rfl, _, rfl, iteFe (by simp) ?_⟩
      have su := shaped_list (shaped_pls (upsO ys rows))
      have sd := shaped_list (shaped_pls (downsO ys rows))
      have hus : Dp K Ht (.ref a') (.list ((upsO ys rows).map plD)) := (Dp.lst hsa hda).same (k5.trans (k6.trans (sI.trans (ss.trans st))))
      have hds : Dp K Ht (.ref b') (.list ((downsO ys rows).map plD)) := (Dp.lst hsb hdb).same (k5.trans (k6.trans (sI.trans (ss.trans st))))
      have so := kind_sort (upsO ys rows) (downsO ys rows)
      have tl := kind_told (upsO ys rows) (downsO ys rows)
      have hh := kind_headD (upsO ys rows) (downsO ys rows)
      have shk := shaped_kind (upsO ys rows) (downsO ys rows)
      have kk : ∀ H', Same Ht H' → Q (.bl true) H' := fun H' s' => k H' (s0t.trans s')
      by_cases mx : upsO ys rows ≠ [] ∧ downsO ys rows ≠ []
      · obtain ⟨u, us', d, ds', e1, e2, e3, e4⟩ := kind_mixed mx
        have hst2 := hst
        rw [e3] at hst2
        refine ⟨_, rfl, _, _, _, _, _, rfl, .ty _, hst2.ty, kit_ty (kit_tuple _ hst2.noDict), _, rfl, iteFe rfl ?_⟩
        have hst2' := hst2
        obtain ⟨sa, sxs, rfl, hss, hsd⟩ := hst2.tup_inv
        have hl := hsd.len
        cases hsd with
        | cons g1 g2 =>
        cases g1
        refine ⟨_, rfl, sa, _, 0, _, rfl, rfl, hss, atI_nat (j := 0) rfl, _, rfl, rfl, _, rfl, iteFe (by rw [e4]; simp) ?_⟩
        refine ⟨_, rfl, rfl, _, rfl, iteTe (by rw [e4]; simp) ?_⟩
        refine ⟨_, rfl, sa, _, rfl, .inr hss, rfl, _, rfl, iteFe (by rw [hl]; rfl) ?_⟩
        refine ⟨_, rfl, _, rfl, _, rfl, _, hst2', fun Hu vu su_ hvu => ?_⟩
        refine ⟨_, rfl, _, _, hvu, hus.same su_, shaped_two _ _, su, _, rfl, iteFe (by
          show (!hasPl (upsO ys rows) (.tuple [.int (u.1 : Int), .int (u.2 : Int)])) = false
          rw [e1, hasPl_head]
          rfl) ?_⟩
        refine ⟨_, rfl, _, rfl, _, hst2'.same su_, fun Hw vw sw_ hvw => ?_⟩
        refine ⟨_, rfl, _, _, hvw, hds.same (su_.trans sw_), shaped_two _ _, sd, _, rfl, iteFe (by
          show (!hasPl (downsO ys rows) (.tuple [.int (d.1 : Int), .int (d.2 : Int)])) = false
          rw [e2, hasPl_head]
          rfl) ?_⟩
        refine ⟨_, rfl, rfl, _, rfl, iteFe (by rw [e4]; simp) (iteF ?_)⟩
        have Cw := Ct.same (su_.trans sw_)
        have hw := hst.same (su_.trans sw_)
        refine ⟨_, rfl, _, rfl, _, rfl, _, rfl, p, q, v, _, xs, ys, rows, _, rfl, Cw, hw, shk, fun Hy sy_ => ⟨fun _ _ => ?_, fun _ f => absurd (tl.symm.trans f) (by decide), fun f => absurd (so.symm.trans f) (by decide)⟩⟩
        rw [hh]
        refine ⟨_, rfl, rfl, _, rfl, iteTe (by simp) ?_⟩
        refine ⟨_, rfl, _, rfl, _, rfl, (by show 3 ≤ sizeLine; decide), fun tz nz => ?_⟩
        have kz := Same.new (o := .lst [V.ref p, V.ref q, v]) nz
        have Cz := (Cw.same sy_).same kz
        refine ⟨_, _, rfl, .lst (SqL.of upd_same) (.cons Cz.1.dp (.cons Cz.2.1.dp (.cons Cz.2.2.2.2.1 .nil))), z1, z2, z3, z4, _, rfl, rfl, ?_⟩
        rw [decide_eq_true rfl]
        exact kk _ ((su_.trans sw_).trans (sy_.trans kz))
      · have e3 := kind_plain mx
        have hst2 := hst
        rw [e3] at hst2
        refine ⟨_, rfl, _, _, _, _, _, rfl, .ty _, hst2.ty, kit_ty (kit_tuple _ hst2.noDict), _, rfl, iteFe rfl ?_⟩
        obtain ⟨sa, sxs, rfl, hss, hsd⟩ := hst2.tup_inv
        have hl := hsd.len
        cases hsd with
        | cons g1 g2 =>
        cases g1
        have nm : decide (V.str (wordS (upsO ys rows) (downsO ys rows)) = V.str "mixed") = false := by rw [word_mixed]; exact decide_eq_false mx
        refine ⟨_, rfl, sa, _, 0, _, rfl, rfl, hss, atI_nat (j := 0) rfl, _, rfl, rfl, _, rfl, iteFe (by simp) ?_⟩
        refine ⟨_, rfl, rfl, _, rfl, iteFe nm (iteF ?_)⟩
        refine ⟨_, rfl, rfl, _, rfl, iteTe (by rw [nm]; rfl) ?_⟩
        refine ⟨_, rfl, sa, _, rfl, .inr hss, rfl, _, rfl, iteFe (by rw [hl]; rfl) ?_⟩
        refine ⟨_, rfl, _, rfl, _, rfl, _, rfl, p, q, v, _, xs, ys, rows, _, rfl, Ct, hst, shk, fun Hy sy_ => ⟨fun _ _ => ?_, fun _ f => absurd (tl.symm.trans f) (by decide), fun f => absurd (so.symm.trans f) (by decide)⟩⟩
        rw [hh]
        refine ⟨_, rfl, rfl, _, rfl, iteTe (by simp) ?_⟩
        refine ⟨_, rfl, _, rfl, _, rfl, (by show 3 ≤ sizeLine; decide), fun tz nz => ?_⟩
        have kz := Same.new (o := .lst [V.ref p, V.ref q, v]) nz
        have Cz := (Ct.same sy_).same kz
        refine ⟨_, _, rfl, .lst (SqL.of upd_same) (.cons Cz.1.dp (.cons Cz.2.1.dp (.cons Cz.2.2.2.2.1 .nil))), z1, z2, z3, z4, _, rfl, rfl, ?_⟩
        rw [decide_eq_true rfl]
        exact kk _ ((sy_.trans kz))
end
end CS
set_option Elab.async false
set_option maxRecDepth 100000
set_option maxHeartbeats 4000000
set_option linter.unusedVariables false
set_option pp.maxSteps 400
/-! displays of plain things as data; the sides of a drawn table -/
namespace CS
open PySem L2
theorem smallL {n : Nat} (h : n ≤ 1000) : n ≤ sizeLine := Nat.le_trans h (by decide)
def tLit (K : PySem.W.Frag) (d : PyData) : TE := fun _ H Q => ∀ H' v, Same H H' → Dp K H' v d → Q v H'
def tLL (K : PySem.W.Frag) (ds : List PyData) : TE := fun _ H Q => ∀ H' p vs, Same H H' → H' p = some (.lst vs) → DpAll K H' vs ds → Q (.ref p) H'
def tLits (K : PySem.W.Frag) (ds : List PyData) : TA := fun _ H Q => ∀ H' vs, Same H H' → DpAll K H' vs ds → Q vs H'
section
variable {X : Cx} {e : Expr} {es : List Expr} {d : PyData} {ds : List PyData} {pos : Pos} {k : Nat}
theorem pe_imp {t t' : TE} (he : PE X e t) (h : ∀ σ H Q, t' σ H Q → t σ H Q) : PE X e t' := ⟨fun pins s σ H Q I q => he.run pins s σ H Q I (h σ H Q q)⟩
theorem pa_imp {t t' : TA} (ha : PA X es t) (h : ∀ σ H Q, t' σ H Q → t σ H Q) : PA X es t' := ⟨fun pos pins s σ H Q I q => ha.run pos pins s σ H Q I (h σ H Q q)⟩
theorem li_int {i : Int} (he : PE X e (tC (.int i))) : PE X e (tLit X.K (.int i)) := pe_imp he fun σ H Q q => q H _ (Same.refl H) (.int i)
theorem li_neg {i : Int} (he : PE X e (tC (.int i))) : PE X (.UnaryOp .USub e pos) (tLit X.K (.int (-i))) := pe_imp (pe_un un_neg he) fun σ H Q q => ⟨i, rfl, q H _ (Same.refl H) (.int (-i))⟩
theorem li_str {x : Str} (he : PE X e (tC (.str x))) : PE X e (tLit X.K (.str x)) := pe_imp he fun σ H Q q => q H _ (Same.refl H) (.str x)
theorem la_nil : PA X [] (tLits X.K []) := pa_imp pa_nil fun σ H Q q => q H [] (Same.refl H) .nil
theorem la_cons (he : PE X e (tLit X.K d)) (ha : PA X es (tLits X.K ds)) (hs : starEach (e :: es) X.env = (false, eval e X.env) :: starEach es X.env := by rfl) : PA X (e :: es) (tLits X.K (d :: ds)) :=
  pa_imp (pa_cons he ha hs) fun σ H Q q H1 v s1 h1 H2 vs s2 h2 => q H2 _ (s1.trans s2) (.cons (h1.same s2) h2)
theorem li_tup (ha : PA X es (tLits X.K ds)) (l : ds.length ≤ 1000) : PE X (.Tuple es k pos) (tLit X.K (.tuple ds)) :=
  pe_imp (pe_tup ha) fun σ H Q q H1 vs s1 hv => ⟨smallL (by rw [hv.len]; exact l), fun p np => q _ _ (s1.trans (Same.new np)) (Dp.new_tup np hv)⟩
theorem li_lst (ha : PA X es (tLits X.K ds)) (l : ds.length ≤ 1000) : PE X (.List es pos) (tLL X.K ds) :=
  pe_imp (pe_lst ha) fun σ H Q q H1 vs s1 hv => ⟨smallL (by rw [hv.len]; exact l), fun p np => q _ p vs (s1.trans (Same.new np)) upd_same (hv.same (Same.new np))⟩
end
/-! the sides of a table are shares -/
theorem cfold_some (j : Int) : ∀ (zs : List (Int × Fx)) (a : Fx), zs.foldl (fun a kx => if j = kx.1 then fadd a kx.2 else a) a = (zs.filter fun z => decide (j = z.1)).foldl (fun a kx => if j = kx.1 then fadd a kx.2 else a) a
  | [], a => rfl
  | z :: zs, a => by
    by_cases e : j = z.1
    · rw [List.filter_cons_of_pos (by simp [e]), List.foldl_cons, List.foldl_cons, cfold_some j zs]
    · rw [List.filter_cons_of_neg (by simp [e]), List.foldl_cons, if_neg e, cfold_some j zs]
theorem side_shr {zs xs : List (Int × Fx)} {L : List Int} (hL : L.length ≤ 8) (h : ∀ z ∈ zs, z.1 ∈ L ∧ -100 ≤ z.1 ∧ z.1 ≤ 100 ∧ Fr z.2 ∧ 0 < z.2.1 ∧ Sz 80 z.2) (few : ∀ j, (zs.filter fun z => decide (j = z.1)).length ≤ 8) (is : IsS (gat [] zs) xs) : Shr xs ∧ Told xs := by
  have key : ∀ a ∈ xs, lk (gat [] zs) a.1 = a.2 ∧ a.1 ∈ zs.map (·.1) := fun a ha => by
    have m := (is.2 a.1 a.2).mp ha
    refine ⟨m.1, ?_⟩
    by_cases c : a.1 ∈ zs.map (·.1)
    · exact c
    · have e : lk (gat [] zs) a.1 = zs.foldl (fun b kx => if a.1 = kx.1 then fadd b kx.2 else b) (0, 1) := lk_gat zs [] a.1
      rw [fold_none zs a.1 _ c] at e
      exact absurd (m.1.symm.trans e) m.2
  have at_ : ∀ j ∈ zs.map (·.1), j ∈ L ∧ -100 ≤ j ∧ j ≤ 100 := fun j hj => by
    obtain ⟨z, hz, rfl⟩ := List.mem_map.mp hj
    exact ⟨(h z hz).1, (h z hz).2.1, (h z hz).2.2.1⟩
  have val_ : ∀ a ∈ xs, Fr a.2 ∧ 0 < a.2.1 ∧ Sz 650 a.2 := fun a ha => by
    obtain ⟨e, m⟩ := key a ha
    have e2 : a.2 = zs.foldl (fun b kx => if a.1 = kx.1 then fadd b kx.2 else b) (0, 1) := e.symm.trans (lk_gat zs [] a.1)
    have frs : ∀ z ∈ zs, Fr z.2 := fun z hz => (h z hz).2.2.2.1
    refine ⟨by rw [e2]; exact cfold_fr _ _ _ fr01 frs, by rw [e2]; exact cfold_pos _ _ _ fr01 (by decide) (fun z hz => ⟨(h z hz).2.2.2.1, (h z hz).2.2.2.2.1⟩) (.inr m), ?_⟩
    rw [e2, cfold_some]
    have f8 := few a.1
    exact (cfold_sz 80 a.1 (zs.filter fun z => decide (a.1 = z.1)) (0, 1) 1 fr01 (sz01 (by decide)) fun z hz => ⟨(h z (List.mem_filter.mp hz).1).2.2.2.1, (h z (List.mem_filter.mp hz).1).2.2.2.2.2⟩).up (by omega)
  refine ⟨⟨?_, fun a ha => ⟨(at_ _ (key a ha).2).2.1, (at_ _ (key a ha).2).2.2, (val_ a ha).1, (val_ a ha).2.1⟩, is.1⟩, fun a ha => (val_ a ha).2.2⟩
  have nd : (xs.map (·.1)).Nodup := is.1.imp fun e => Int.ne_of_lt e
  have l := nd_len nd (q := L) fun j hj => by
    obtain ⟨a, ha, rfl⟩ := List.mem_map.mp hj
    exact (at_ _ (key a ha).2).1
  rw [List.length_map] at l
  omega
theorem Tab.start_shr {ts : List Stp} (h : Tab ts) {xs : List (Int × Fx)} (is : IsS (gat [] (starts ts)) xs) : Shr xs ∧ Told xs := by
  obtain ⟨L, l8, hL⟩ := h.from8
  obtain ⟨M, m8, hM⟩ := h.to8
  refine side_shr l8 (fun z hz => ?_) (fun j => ?_) is
  · obtain ⟨a, ha, rfl⟩ := List.mem_map.mp hz
    have g := h.good a ha
    exact ⟨hL a ha, g.1, g.2.1, g.2.2.2.2.1, g.2.2.2.2.2, h.small a ha⟩
  · have e : (starts ts).filter (fun z => decide (j = z.1)) = (ts.filter fun a => decide (j = a.1)).map fun a => (a.1, a.2.2) := by
      unfold starts
      rw [List.filter_map]
      rfl
    rw [e, List.length_map]
    have p := (List.pairwise_map.mp h.asc).filter fun a : Stp => decide (j = a.1)
    have nd : ((ts.filter fun a => decide (j = a.1)).map fun a => a.2.1).Nodup := by
      refine List.pairwise_map.mpr (p.imp_of_mem fun {a b} ha hb q => ?_)
      have e1 := of_decide_eq_true (List.mem_filter.mp ha).2
      have e2 := of_decide_eq_true (List.mem_filter.mp hb).2
      unfold PrLt at q
      dsimp only at q
      omega
    have l := nd_len nd (q := M) fun y hy => by
      obtain ⟨a, ha, rfl⟩ := List.mem_map.mp hy
      exact hM a (List.mem_filter.mp ha).1
    rw [List.length_map] at l
    omega
theorem Tab.end_shr {ts : List Stp} (h : Tab ts) {xs : List (Int × Fx)} (is : IsS (gat [] (ends ts)) xs) : Shr xs ∧ Told xs := by
  obtain ⟨L, l8, hL⟩ := h.from8
  obtain ⟨M, m8, hM⟩ := h.to8
  refine side_shr m8 (fun z hz => ?_) (fun j => ?_) is
  · obtain ⟨a, ha, rfl⟩ := List.mem_map.mp hz
    have g := h.good a ha
    exact ⟨hM a ha, g.2.2.1, g.2.2.2.1, g.2.2.2.2.1, g.2.2.2.2.2, h.small a ha⟩
  · have e : (ends ts).filter (fun z => decide (j = z.1)) = (ts.filter fun a => decide (j = a.2.1)).map fun a => (a.2.1, a.2.2) := by
      unfold ends
      rw [List.filter_map]
      rfl
    rw [e, List.length_map]
    have p := (List.pairwise_map.mp h.asc).filter fun a : Stp => decide (j = a.2.1)
    have nd : ((ts.filter fun a => decide (j = a.2.1)).map fun a => a.1).Nodup := by
      refine List.pairwise_map.mpr (p.imp_of_mem fun {a b} ha hb q => ?_)
      have e1 := of_decide_eq_true (List.mem_filter.mp ha).2
      have e2 := of_decide_eq_true (List.mem_filter.mp hb).2
      unfold PrLt at q
      dsimp only at q
      omega
    have l := nd_len nd (q := L) fun y hy => by
      obtain ⟨a, ha, rfl⟩ := List.mem_map.mp hy
      exact hL a (List.mem_filter.mp ha).1
    rw [List.length_map] at l
    omega
theorem Tab.end_some {ts : List Stp} (h : Tab ts) (ne : ts ≠ []) {xs : List (Int × Fx)} (is : IsS (gat [] (ends ts)) xs) : 0 < xs.length := by
  cases ts with
  | nil => exact absurd rfl ne
  | cons a ts =>
    have m := h.end_mem is (a := a) List.mem_cons_self
    have := List.length_pos_of_mem m
    rwa [List.length_map] at this
/-- a share that stands as data -/
theorem prs_of {K : PySem.W.Frag} {H : Hp} : ∀ {xs : List (Int × Fx)} {vs : List V}, DpAll K H vs (xs.map prD) → PrsAt K H vs xs
  | [], _, .nil => .nil
  | (m, x) :: xs, _, .cons a b => by
    have a' : Dp K H _ (.tuple [.int m, .tuple [.int x.1, .int x.2]]) := a
    obtain ⟨q, us, rfl, hq, hu⟩ := a'.tup_inv
    cases hu with
    | cons u1 u2 =>
    cases u1
    cases u2 with
    | cons u3 u4 =>
    cases u4
    obtain ⟨r, ws, rfl, hr, hw⟩ := u3.tup_inv
    cases hw with
    | cons w1 w2 =>
    cases w1
    cases w2 with
    | cons w3 w4 =>
    cases w3
    cases w4
    exact .cons hq hr (prs_of b)
theorem sh_of {K : PySem.W.Frag} {H : Hp} {v : V} {xs : List (Int × Fx)} (h : Dp K H v (shD xs)) : ∃ p, v = .ref p ∧ ShAt K H p xs := by
  have h' : Dp K H v (.tuple (xs.map prD)) := h
  obtain ⟨p, vs, rfl, hs, ha⟩ := h'.tup_inv
  exact ⟨p, rfl, vs, hs, prs_of ha⟩
theorem flat_kind (ups downs : List (Nat × Nat)) : flatD (kindD ups downs) = true := by
  cases ups <;> cases downs <;> rfl
theorem flat_kinds {α : Type} (g : α → PyData) (h : ∀ a, flatD (g a) = true) : ∀ l : List α, flatDs (l.map g) = true
  | [] => rfl
  | a :: l => by
    show (flatD (g a) && flatDs (l.map g)) = true
    rw [h a, flat_kinds g h l]
    rfl
theorem tab_nil : Tab [] := ⟨by decide, (fun a h => nomatch h), (fun a h => nomatch h), List.Pairwise.nil, ⟨[], by decide, (fun a h => nomatch h)⟩, ⟨[], by decide, (fun a h => nomatch h)⟩, fun k => rfl⟩
theorem isS_none : IsS (gat [] []) [] := ⟨List.Pairwise.nil, fun k x => ⟨(fun h => nomatch h), fun h => absurd h.1.symm h.2⟩⟩
end CS
set_option Elab.async false
set_option maxRecDepth 100000
set_option maxHeartbeats 16000000
set_option linter.unusedVariables false
set_option pp.maxSteps 400
namespace CS
open PySem L2 StX
theorem small_big {x : Fx} (h : Sz 1500 x) : (PyData.list [frD x, frD x]).showable = true ∧ (PyData.list [frD x, frD x]).hasDict = false ∧ (PyData.list [frD x, frD x]).depth ≤ 60 ∧ (PyData.list [frD x, frD x]).shown.length + 64 ≤ sizeLine := by
  have one : ∀ i : Int, i.natAbs < 2 ^ 1500 → (PyData.int i).showable = true ∧ (PyData.int i).leavesShort 460 = true ∧ (PyData.int i).weight ≤ 1500 := fun i hi => by
    have h3 : i.natAbs.log2 < 1500 := PySem.Flt.log2_lt_of (by decide) hi
    refine ⟨?_, ?_, ?_⟩
    · simp only [PyData.showable]
      exact decide_eq_true (by omega)
    · simp only [PyData.leavesShort]
      refine decide_eq_true ?_
      have big : (2 : Nat) ^ 1500 ≤ 10 ^ 459 := by decide +kernel
      have e := PySem.int_text_length_le10 (a := i) (k := 459) (by decide) (Nat.lt_of_lt_of_le hi big)
      show (Str.ofString (toString i)).length ≤ 460
      rw [PySem.ofString_length]
      exact e
    · simp only [PyData.weight]
      split
      · exact Nat.zero_le _
      · omega
  obtain ⟨a1, a2, a3⟩ := one x.1 h.1
  obtain ⟨b1, b2, b3⟩ := one x.2 h.2
  refine ⟨by simp only [frD, PyData.showable, PyData.showableAll] at *; simp [a1, b1], rfl, by simp [frD, PyData.depth, PyData.depthAll], ?_⟩
  have lv : (PyData.list [frD x, frD x]).leavesShort 460 = true := by
    simp only [frD, PyData.leavesShort, PyData.leavesShortAll] at *
    simp [a2, b2]
  have wt : (PyData.list [frD x, frD x]).weight ≤ 6010 := by
    simp only [frD, PyData.weight, PyData.weightAll] at *
    omega
  have sl := PyData.shown_le 460 (by decide) _ lv
  have b : (460 + 2) * (PyData.list [frD x, frD x]).weight + 460 ≤ 462 * 6010 + 460 := Nat.add_le_add_right (Nat.mul_le_mul_left 462 wt) 460
  have c : 462 * 6010 + 460 + 64 ≤ sizeLine := by decide
  omega
theorem costF_sz {ts : List Stp} (tab : Tab ts) {xs ys : List (Int × Fx)} (ix : IsS (gat [] (starts ts)) xs) (iy : IsS (gat [] (ends ts)) ys) {rows : List (List Int)} (ok : CostOk rows xs.length ys.length) : Sz 1500 (costF xs ys rows ts) := by
  have l16 := tab.few
  obtain ⟨L, eL⟩ : ∃ L : List Fx, L = ts.map fun a => scl a.2.2 (costAt xs ys rows a.1 a.2.1) := ⟨_, rfl⟩
  have lL : L.length ≤ 16 := by rw [eL, List.length_map]; exact l16
  have all : ∀ z ∈ L, Fr z ∧ Sz 90 z := fun z hz => by
    rw [eL] at hz
    obtain ⟨a, ha, rfl⟩ := List.mem_map.mp hz
    have g := tab.good _ ha
    obtain ⟨_, _, _, e3⟩ := cost_get ok (ixOf_get (tab.start_mem ix ha)).2 (ixOf_get (tab.end_mem iy ha)).2
    exact ⟨scl_fr g.2.2.2.2.1 _, (scl_sz (m := 10) g.2.2.2.2.1 (tab.small _ ha) (Nat.lt_of_le_of_lt e3 (by decide))).up (by decide)⟩
  have e : costF xs ys rows ts = fsum L := by rw [eL]; rfl
  rw [e]
  have base := fold_sz 90 L (0, 1) 1 fr01 (sz01 (by decide)) all
  have le : 1 + L.length * (90 + 1) ≤ 1500 := by omega
  exact Sz.up (x := fsum L) base le
abbrev exX : List (Int × Fx) := [(0, (1, 2)), (1, (1, 2))]
abbrev exY : List (Int × Fx) := [(-2, (1, 4)), (0, (1, 4)), (1, (1, 4)), (3, (1, 4))]
abbrev exR1 : List (List Int) := [[0, 0, 0, 0], [0, 2, 3, 5]]
abbrev exR2 : List (List Int) := [[5, 5, 5, 5], [0, 3, 4, 4]]
abbrev exR3 : List (List Int) := [[0, 0, 0, 0], [4, 0, 0, 4]]
abbrev exR4 : List (List Int) := [[0, 0, 0, 0], [0, 3, 3, 7]]
abbrev exR5 : List (List Int) := [[0, 0, 0, 0], [0, 1, 2, 4]]
abbrev exK (r : List (List Int)) : PyData := kindD (upsO exY r) (downsO exY r)
theorem q_true {Q : VK} {H : Hp} {b : Bool} (e : b = true) (h : Q (.bl true) H) : Q (.bl b) H := e ▸ h
theorem smallL' {n : Nat} (h : n ≤ 1000) : n < sizeLine := Nat.lt_of_le_of_lt h (by decide)
abbrev exW : List (Int × Fx) := [(0, (1, 8)), (3, (1, 8)), (6, (1, 8)), (9, (1, 8)), (12, (1, 8)), (15, (1, 8)), (18, (1, 8)), (21, (1, 8))]
abbrev exWR : List (List Int) := [[0, 0, 0, 0, 0, 0, 0, 0], [0, 0, 0, 0, 0, 0, 0, 0], [0, 0, 0, 0, 0, 0, 0, 0], [0, 0, 0, 0, 0, 0, 0, 0], [0, 0, 0, 0, 0, 0, 0, 0], [0, 0, 0, 0, 0, 0, 0, 0], [0, 0, 0, 0, 0, 0, 0, 0], [0, 0, 0, 0, 0, 0, 0, 1]]
abbrev exRs : List (List (List Int)) := [exR1, exR2, exR3, exR4, exR5]
section
variable {P : Program} {w : World} {K : PySem.W.Frag} {mg : Str → Option Value} {base : Heap}
def spLawK (K : PySem.W.Frag) : Sp := fun vs H Q _ => ∃ (a : Addr) (ns : List Int), vs = [.ref a] ∧ SqL K H a (ns.map V.int) ∧ ns.length ≤ 63 ∧ ∀ H', Q (.bl true) H'
abbrev nsLaw : List Str := ["script", "state", "turn", "steps", "one", "other", "costs_so", "due", "far", "some", "told", "wide", "none", "mark"]
theorem scLawZ : FnScope nsLaw ["script"] (defScope sLaw) := ⟨rfl, rfl, rfl, by decide +kernel, rfl, by decide +kernel, by decide +kernel⟩
theorem ok_lawK {f : Addr} {fd : FuncData} (F : Df K mg "law" sLaw ["script"] f fd) (T : Bt mg) (mmin : mg "min" = none) (mrepr : mg "repr" = none)
    {a_begin : Addr} {fd_begin : FuncData} (Dbegin : Df K mg "_law_begin" sBegin ["script"] a_begin fd_begin) (Gbegin : FnOk P w K mg base CX0 1 a_begin fd_begin ["script"] (spBegin K))
    {a_steps : Addr} {fd_steps : FuncData} (Dsteps : Df K mg "_law_steps" sLawSteps ["state", "many"] a_steps fd_steps) (Gsteps : FnOk P w K mg base CX0 4 a_steps fd_steps ["state", "many"] (spSteps K))
    {a_side : Addr} {fd_side : FuncData} (Dside : Df K mg "_law_side" sLawSide ["steps", "spot"] a_side fd_side) (Gside : FnOk P w K mg base CX0 3 a_side fd_side ["steps", "spot"] (spLSide K))
    {a_costs : Addr} {fd_costs : FuncData} (Dcosts : Df K mg "_law_costs" sLawCosts ["state", "one", "other"] a_costs fd_costs) (Gcosts : FnOk P w K mg base CX0 3 a_costs fd_costs ["state", "one", "other"] (spCosts K))
    {a_lcost : Addr} {fd_lcost : FuncData} (Dlcost : Df K mg "_law_cost" sLawCost ["one", "other", "costs_so", "steps"] a_lcost fd_lcost) (Glcost : FnOk P w K mg base CX0 4 a_lcost fd_lcost ["one", "other", "costs_so", "steps"] (spCost K))
    {a_cost : Addr} {fd_cost : FuncData} (Dcost : Df K mg "cost_of" sCostOf ["one", "other", "costs", "table"] a_cost fd_cost) (Gcost : FnOk P w K mg base CX0 9 a_cost fd_cost ["one", "other", "costs", "table"] (spCost K))
    {a_share : Addr} {fd_share : FuncData} (Dshare : Df K mg "_law_share" sLawShare ["state", "many"] a_share fd_share) (Gshare : FnOk P w K mg base CX0 4 a_share fd_share ["state", "many"] (spShare K))
    {a_kind : Addr} {fd_kind : FuncData} (Dkind : Df K mg "kind_paper" sKindPaper ["one", "other", "costs"] a_kind fd_kind) (Gkind : FnOk P w K mg base CX0 10 a_kind fd_kind ["one", "other", "costs"] (spKind K))
    {a_ups : Addr} {fd_ups : FuncData} (Dups : Df K mg "bends_up" sBendsUp ["one", "other", "costs"] a_ups fd_ups) (Gups : FnOk P w K mg base CX0 9 a_ups fd_ups ["one", "other", "costs"] (spUps K))
    {a_kindof : Addr} {fd_kindof : FuncData} (Dkindof : Df K mg "kind_of" sKindOf ["one", "other", "costs"] a_kindof fd_kindof) (Gkindof : FnOk P w K mg base CX0 11 a_kindof fd_kindof ["one", "other", "costs"] (spKindOf K))
    {a_right : Addr} {fd_right : FuncData} (Dright : Df K mg "_law_kind_right" sLawKindRight ["one", "other", "costs_so"] a_right fd_right) (Gright : FnG P w K mg base CX0 12 a_right fd_right ["one", "other", "costs_so"] (spRight K)) : FnG P w K mg base CX0 13 f fd ["script"] (spLawK K) := by
  refine FnG.of_body F.F scLawZ (fun vs H Q E h => ?_) (fun cdv A outer s H vs Q E hq hr h => ?_)
  · obtain ⟨a, ns, rfl, _⟩ := h
    rfl
  · obtain ⟨a, ns, rfl, hS, hlen, k⟩ := h
    have hq' : (A.deeper (PyProof.Rows.envOfC "law" (defScope sLaw) s.heap.objs.size f cdv)).guards = some [] := hq
    refine ⟨_, PSs.nox (pss_cons (ps_set (i := 1) scLawZ.nd rfl (Or.inl rfl) (pe_call Gbegin (hr.mono (by decide)) (by rfl) Dbegin.g Dbegin.F.kp Dbegin.b .nil pass0 (pa_cons (pv 0) pa_nil)))
      (pss_cons (ps_for PassesOwn.never rfl (pi_range1 rfl T.range (pa_cons (pe_op op_add pe_int (pe_callB (call_min2 rfl) (by rfl) mmin (by decide +kernel) (pa_cons (pe_callB call_len_seq (by rfl) T.len PySem.boot_len (pa_cons (pv 0) pa_nil)) (pa_cons pe_int pa_nil)))) pa_nil)) (pg_name (i := 2) scLawZ.nd rfl (Or.inl rfl))
      (pss_cons (ps_set (i := 3) scLawZ.nd rfl (Or.inl rfl) (pe_call Gsteps (hr.mono (by decide)) (by rfl) Dsteps.g Dsteps.F.kp Dsteps.b .nil pass0 (pa_cons (pv 1) (pa_cons pe_int pa_nil))))
      (pss_cons (ps_asg (pe_tup (pa_cons (pe_call Gside (hr.mono (by decide)) (by rfl) Dside.g Dside.F.kp Dside.b .nil pass0 (pa_cons (pv 3) (pa_cons pe_int pa_nil))) (pa_cons (pe_call Gside (hr.mono (by decide)) (by rfl) Dside.g Dside.F.kp Dside.b .nil pass0 (pa_cons (pv 3) (pa_cons pe_int pa_nil))) pa_nil))) (pg_tup rfl (pgs_cons (pg_name (i := 4) scLawZ.nd rfl (Or.inr rfl)) (pgs_cons (pg_name (i := 5) scLawZ.nd rfl (Or.inr rfl)) pgs_nil))))
      (pss_cons (ps_set (i := 6) scLawZ.nd rfl (Or.inl rfl) (pe_call Gcosts (hr.mono (by decide)) (by rfl) Dcosts.g Dcosts.F.kp Dcosts.b .nil pass0 (pa_cons (pv 1) (pa_cons (pv 4) (pa_cons (pv 5) pa_nil)))))
      (pss_cons (ps_set (i := 7) scLawZ.nd rfl (Or.inl rfl) (pe_call Glcost (hr.mono (by decide)) (by rfl) Dlcost.g Dlcost.F.kp Dlcost.b .nil pass0 (pa_cons (pv 4) (pa_cons (pv 5) (pa_cons (pv 6) (pa_cons (pv 3) pa_nil))))))
      (pss_cons (ps_if (pt_cmpR op_ne (pe_callB (call_show hq' hr.units) (by rfl) mrepr (by decide +kernel) (pa_cons (pe_op op_rep (pe_lst (pa_cons (pe_call Gcost (hr.mono (by decide)) (by rfl) Dcost.g Dcost.F.kp Dcost.b .nil pass0 (pa_cons (pv 4) (pa_cons (pv 5) (pa_cons (pv 6) (pa_cons (pv 3) pa_nil))))) pa_nil)) pe_int) pa_nil)) (pe_callB (call_show hq' hr.units) (by rfl) mrepr (by decide +kernel) (pa_cons (pe_op op_rep (pe_lst (pa_cons (pv 7) pa_nil)) pe_int) pa_nil)) (nomark _)) (pss_one (ps_ret pe_bl)) pss_nil)
      (pss_cons (ps_if (pt_not (pt_val (pe_callG Gright hq' (hr.mono (by decide)) (by rfl) Dright.g Dright.F.kp Dright.b pass0 (pa_cons (pv 4) (pa_cons (pv 5) (pa_cons (pv 6) pa_nil)))))) (pss_one (ps_ret pe_bl)) pss_nil)
      (pss_cons (ps_set (i := 8) scLawZ.nd rfl (Or.inl rfl) (pe_call Gshare (hr.mono (by decide)) (by rfl) Dshare.g Dshare.F.kp Dshare.b .nil pass0 (pa_cons (pv 1) (pa_cons pe_int pa_nil))))
      (pss_one (ps_if (pt_not (pt_val (pe_callG Gright hq' (hr.mono (by decide)) (by rfl) Dright.g Dright.F.kp Dright.b pass0 (pa_cons (pv 4) (pa_cons (pv 8) (pa_cons (pe_call Gcosts (hr.mono (by decide)) (by rfl) Dcosts.g Dcosts.F.kp Dcosts.b .nil pass0 (pa_cons (pv 1) (pa_cons (pv 4) (pa_cons (pv 8) pa_nil)))) pa_nil)))))) (pss_one (ps_ret pe_bl)) pss_nil))))))))))
      (pss_cons (ps_asg (li_tup (la_cons (li_tup (la_cons (li_tup (la_cons (li_int pe_int) (la_cons (li_tup (la_cons (li_int pe_int) (la_cons (li_int pe_int) la_nil)) (by decide)) la_nil)) (by decide)) (la_cons (li_tup (la_cons (li_int pe_int) (la_cons (li_tup (la_cons (li_int pe_int) (la_cons (li_int pe_int) la_nil)) (by decide)) la_nil)) (by decide)) la_nil)) (by decide)) (la_cons (li_tup (la_cons (li_tup (la_cons (li_neg pe_int) (la_cons (li_tup (la_cons (li_int pe_int) (la_cons (li_int pe_int) la_nil)) (by decide)) la_nil)) (by decide)) (la_cons (li_tup (la_cons (li_int pe_int) (la_cons (li_tup (la_cons (li_int pe_int) (la_cons (li_int pe_int) la_nil)) (by decide)) la_nil)) (by decide)) (la_cons (li_tup (la_cons (li_int pe_int) (la_cons (li_tup (la_cons (li_int pe_int) (la_cons (li_int pe_int) la_nil)) (by decide)) la_nil)) (by decide)) (la_cons (li_tup (la_cons (li_int pe_int) (la_cons (li_tup (la_cons (li_int pe_int) (la_cons (li_int pe_int) la_nil)) (by decide)) la_nil)) (by decide)) la_nil)))) (by decide)) la_nil)) (by decide)) (pg_tup rfl (pgs_cons (pg_name (i := 4) scLawZ.nd rfl (Or.inr rfl)) (pgs_cons (pg_name (i := 5) scLawZ.nd rfl (Or.inr rfl)) pgs_nil))))
      (pss_cons (ps_set (i := 9) scLawZ.nd rfl (Or.inl rfl) (li_lst (la_cons (li_tup (la_cons (li_tup (la_cons (li_int pe_int) (la_cons (li_int pe_int) (la_cons (li_int pe_int) (la_cons (li_int pe_int) la_nil)))) (by decide)) (la_cons (li_tup (la_cons (li_int pe_int) (la_cons (li_int pe_int) (la_cons (li_int pe_int) (la_cons (li_int pe_int) la_nil)))) (by decide)) la_nil)) (by decide)) (la_cons (li_tup (la_cons (li_tup (la_cons (li_int pe_int) (la_cons (li_int pe_int) (la_cons (li_int pe_int) (la_cons (li_int pe_int) la_nil)))) (by decide)) (la_cons (li_tup (la_cons (li_int pe_int) (la_cons (li_int pe_int) (la_cons (li_int pe_int) (la_cons (li_int pe_int) la_nil)))) (by decide)) la_nil)) (by decide)) (la_cons (li_tup (la_cons (li_tup (la_cons (li_int pe_int) (la_cons (li_int pe_int) (la_cons (li_int pe_int) (la_cons (li_int pe_int) la_nil)))) (by decide)) (la_cons (li_tup (la_cons (li_int pe_int) (la_cons (li_int pe_int) (la_cons (li_int pe_int) (la_cons (li_int pe_int) la_nil)))) (by decide)) la_nil)) (by decide)) la_nil))) (by decide)))
      (pss_cons (ps_set (i := 9) scLawZ.nd rfl (Or.inl rfl) (pe_op op_cat (pv 9) (li_lst (la_cons (li_tup (la_cons (li_tup (la_cons (li_int pe_int) (la_cons (li_int pe_int) (la_cons (li_int pe_int) (la_cons (li_int pe_int) la_nil)))) (by decide)) (la_cons (li_tup (la_cons (li_int pe_int) (la_cons (li_int pe_int) (la_cons (li_int pe_int) (la_cons (li_int pe_int) la_nil)))) (by decide)) la_nil)) (by decide)) (la_cons (li_tup (la_cons (li_tup (la_cons (li_int pe_int) (la_cons (li_int pe_int) (la_cons (li_int pe_int) (la_cons (li_int pe_int) la_nil)))) (by decide)) (la_cons (li_tup (la_cons (li_int pe_int) (la_cons (li_int pe_int) (la_cons (li_int pe_int) (la_cons (li_int pe_int) la_nil)))) (by decide)) la_nil)) (by decide)) la_nil)) (by decide))))
      (pss_cons (ps_setLc (i := 10) (own := [("costs_so", 6)]) (g := gName 6) (tt := tYes) rfl scLawZ.nd rfl rfl (sw_true rfl rfl rfl (by decide +kernel)) (pi_list (pv 9)) (blkOk_by (N := nsLaw) (sc := defScope sLaw) (by decide +kernel)) (fun _ _ _ _ _ => pg_name (i := 6) scLawZ.nd rfl (Or.inl rfl)) (fun _ _ _ _ _ => pts_nil) (fun _ _ _ _ _ => (pe_call Gkind (hr.mono (by decide)) (by rfl) Dkind.g Dkind.F.kp Dkind.b .nil pass0 (pa_cons (pv 4) (pa_cons (pv 5) (pa_cons (pv 6) pa_nil))))))
      (pss_cons (ps_set (i := 10) scLawZ.nd rfl (Or.inl rfl) (pe_op op_cat (pv 10) (pe_lst (pa_cons (pe_call Gups (hr.mono (by decide)) (by rfl) Dups.g Dups.F.kp Dups.b .nil pass0 (pa_cons (pv 4) (pa_cons (pv 5) (pa_cons (pe_ix ix_list (pv 9) pe_int (fun _ _ => rfl)) pa_nil)))) (pa_cons (pe_call Gcost (hr.mono (by decide)) (by rfl) Dcost.g Dcost.F.kp Dcost.b .nil pass0 (pa_cons (pe_tup pa_nil) (pa_cons (pe_tup pa_nil) (pa_cons (pe_tup pa_nil) (pa_cons (pe_tup pa_nil) pa_nil))))) (pa_cons (pe_call Gkindof (hr.mono (by decide)) (by rfl) Dkindof.g Dkindof.F.kp Dkindof.b .nil pass0 (pa_cons (pe_tup pa_nil) (pa_cons (pv 5) (pa_cons (pe_tup pa_nil) pa_nil)))) pa_nil))))))
      (pss_cons (ps_expr (pe_bm PySem.F.plainAttrs_list PySem.F.slot_list_append PySem.F.type_list_append mt_append (pv 10) (pa_cons (pe_call Gkindof (hr.mono (by decide)) (by rfl) Dkindof.g Dkindof.F.kp Dkindof.b .nil pass0 (pa_cons (pv 4) (pa_cons (pe_tup pa_nil) (pa_cons (li_tup (la_cons (li_tup la_nil (by decide)) (la_cons (li_tup la_nil (by decide)) la_nil)) (by decide)) pa_nil)))) pa_nil)))
      (pss_cons (ps_par (i := 11) (j := 12) (by rfl) scLawZ.nd rfl rfl (by decide) rfl rfl (pa_cons (pe_callTy call_tuple_of (by rfl) T.tuple (by decide +kernel) (pa_cons (pe_lc (own := [("mark", 13)]) (g := gName 13) (tt := tYes) rfl scLawZ.nd (pi_range1 rfl T.range (pa_cons pe_int pa_nil)) (blkOk_by (N := nsLaw) (sc := defScope sLaw) (by decide +kernel)) (fun _ _ _ _ _ => pg_name (i := 13) scLawZ.nd rfl (Or.inl rfl)) (fun _ _ _ _ _ => pts_nil) (fun _ _ _ _ _ => pe_tup (pa_cons (pe_op op_mul pe_int (pv 13)) (pa_cons (pe_tup (pa_cons pe_int (pa_cons pe_int pa_nil))) pa_nil)))) pa_nil)) (pa_cons (pe_op (r := rRepT K) op_repT (pe_tup (pa_cons pe_int pa_nil)) pe_int) pa_nil)) (by rfl))
      (pss_cons (ps_expr (pe_bm PySem.F.plainAttrs_list PySem.F.slot_list_append PySem.F.type_list_append mt_append (pv 10) (pa_cons (pe_call Gups (hr.mono (by decide)) (by rfl) Dups.g Dups.F.kp Dups.b .nil pass0 (pa_cons (pv 11) (pa_cons (pv 11) (pa_cons (pe_op (r := rCatT K) op_catT (pe_op (r := rRepT K) op_repT (pe_tup (pa_cons (pv 12) pa_nil)) pe_int) (pe_tup (pa_cons (pe_op (r := rCatT K) op_catT (pe_op (r := rRepT K) op_repT (pe_tup (pa_cons pe_int pa_nil)) pe_int) (pe_tup (pa_cons pe_int pa_nil))) pa_nil))) pa_nil)))) pa_nil)))
      (pss_cons (ps_set (i := 7) scLawZ.nd rfl (Or.inl rfl) (li_lst (la_cons (li_tup (la_cons (li_str pe_str) la_nil) (by decide)) (la_cons (li_tup (la_cons (li_str pe_str) la_nil) (by decide)) (la_cons (li_tup (la_cons (li_str pe_str) la_nil) (by decide)) (la_cons (li_tup (la_cons (li_str pe_str) (la_cons (li_int pe_int) (la_cons (li_int pe_int) (la_cons (li_int pe_int) (la_cons (li_int pe_int) la_nil))))) (by decide)) (la_cons (li_tup (la_cons (li_str pe_str) la_nil) (by decide)) (la_cons (li_tup (la_cons (li_tup (la_cons (li_int pe_int) (la_cons (li_int pe_int) la_nil)) (by decide)) (la_cons (li_tup (la_cons (li_int pe_int) (la_cons (li_int pe_int) la_nil)) (by decide)) la_nil)) (by decide)) (la_cons (li_tup (la_cons (li_int pe_int) (la_cons (li_int pe_int) la_nil)) (by decide)) (la_cons (li_str pe_str) la_nil)))))))) (by decide)))
      (pss_one (ps_ret (pe_cmpR (op_eqD hr.units) (pv 10) (pe_op op_cat (pv 7) (li_lst (la_cons (li_str pe_str) (la_cons (li_tup (la_cons (li_tup (la_cons (li_int pe_int) (la_cons (li_int pe_int) la_nil)) (by decide)) la_nil) (by decide)) la_nil)) (by decide))) (nomark _))))))))))))))), ?_⟩
    refine ⟨_, rfl, a, ns, rfl, hS, hlen, fun d c l H1 nd s1 S1 => ?_⟩
    have hS1 := s1.seq hS
    refine ⟨_, rfl, a, _, rfl, .inl hS1, _, _, rfl, _, _, rfl, rfl, _, rfl, by split <;> (rw [List.length_map] at *; omega), by split <;> (rw [List.length_map] at *; omega), ?_⟩
    obtain ⟨nn, enn⟩ : ∃ nn : Nat, (6 + (if (9 : Int) < ((ns.map V.int).length : Int) then (9 : Int) else ((ns.map V.int).length : Int))).toNat = nn := ⟨_, rfl⟩
    have nn15 : nn ≤ 15 := by
      rw [List.length_map] at enn
      split at enn <;> omega
    rw [enn]
    refine for_range (lo := 0) (n := nn) (fun i σ H' => ∃ v2 v3 v4 v5 v6 v7 v8 kk, σ = [some (.ref a), some (.ref d), v2, v3, v4, v5, v6, v7, v8, none, none, none, none, none] ∧ StAt H' d c l kk ∧ kk ≤ 400 * i) ⟨none, none, none, none, none, none, none, 0, rfl, S1, by omega⟩ ?_ ?_
    · rintro i σ H2 hi ⟨v2, v3, v4, v5, v6, v7, v8, kk, rfl, S2, hk⟩
      have kk6 : kk ≤ 6000 := by omega
      refine ⟨_, rfl, d, c, l, kk, 4, rfl, S2, by omega, by decide, by decide, fun H3 t ts k3 hk3 S3 f3 ht tab ne => ?_⟩
      refine ⟨_, rfl, t, ts, 0, rfl, .inl rfl, ht, tab, fun H4 p xs s4 hp ix => ?_⟩
      refine ⟨_, rfl, t, ts, 1, rfl, .inr rfl, ht.tk (tk_same s4), tab, fun H5 q ys s5 hq iy => ⟨(by show 2 ≤ sizeLine; decide), fun tt nt => ?_⟩⟩
      have ix : IsS (gat [] (starts ts)) xs := ix
      have iy : IsS (gat [] (ends ts)) ys := iy
      obtain ⟨sx, tx⟩ := tab.start_shr ix
      obtain ⟨sy, ty⟩ := tab.end_shr iy
      have y0 := tab.end_some ne iy
      have st := Same.new (o := .tup [V.ref p, V.ref q]) nt
      have s35 := s4.trans (s5.trans st)
      have S6 := S3.same s35
      have ht6 := ht.tk (tk_same s35)
      have hp6 := hp.tk (tk_same (s5.trans st))
      have hq6 := hq.tk (tk_same st)
      have htt : SqT K (upd H5 tt (.tup [V.ref p, V.ref q])) tt [V.ref p, V.ref q] := SqT.of upd_same
      generalize upd H5 tt (.tup [V.ref p, V.ref q]) = H6 at *
      refine ⟨tt, _, rfl, htt, rfl, _, _, rfl, _, _, rfl, rfl, ?_⟩
      refine ⟨_, rfl, _, rfl, _, rfl, d, c, l, k3, p, q, xs, ys, rfl, S6, by omega, hp6, hq6, sx.1, sy.1, y0, sx.abs, sy.abs, fun H7 cv rows k7 hk7 S7 f7 hcv ok => ?_⟩
      have C7 : CArg K H7 p q cv xs ys rows := ⟨hp6.tk (tk_fm f7 S6), hq6.tk (tk_fm f7 S6), sx, sy, hcv, ok⟩
      have ht7 := ht6.tk (tk_fm f7 S6)
      refine ⟨_, rfl, _, rfl, _, rfl, _, rfl, p, q, cv, t, xs, ys, rows, ts, rfl, C7, ht7, tab, ix, iy, fun H8 r8 s8 h8 => ?_⟩
      have C8 := C7.same s8
      refine ⟨_, rfl, _, rfl, _, rfl, _, rfl, p, q, cv, t, xs, ys, rows, ts, rfl, C8, ht7.tk (tk_same s8), tab, ix, iy, fun H9 r9 s9 h9 => ⟨(by show 1 ≤ sizeLine; decide), fun t9 n9 => ?_⟩⟩
      obtain ⟨z1, z2, z3, z4⟩ := small_big (costF_sz tab ix iy ok)
      refine ⟨t9, 2, _, rfl, rfl, upd_same, by decide, by decide, (by show 2 ≤ sizeLine; decide), fun t10 n10 => ?_⟩
      have k10 := (Same.new (o := .lst [V.ref r9]) n9).trans (Same.new (o := .lst (List.replicate (2 : Int).toNat [V.ref r9]).flatten) n10)
      refine ⟨_, .list [frD (costF xs ys rows ts), frD (costF xs ys rows ts)], rfl, .lst (xs := [V.ref r9, V.ref r9]) (SqL.of upd_same) (.cons (ftDp (k10.tup h9)) (.cons (ftDp (k10.tup h9)) .nil)), z1, z2, z3, z4, ?_⟩
      have s10 := s9.trans k10
      generalize upd (upd H9 t9 (.lst [V.ref r9])) t10 (.lst (List.replicate (2 : Int).toNat [V.ref r9]).flatten) = H10 at *
      refine ⟨_, rfl, (by show 1 ≤ sizeLine; decide), fun t11 n11 => ?_⟩
      refine ⟨t11, 2, _, rfl, rfl, upd_same, by decide, by decide, (by show 2 ≤ sizeLine; decide), fun t12 n12 => ?_⟩
      have k12 := (Same.new (o := .lst [V.ref r8]) n11).trans (Same.new (o := .lst (List.replicate (2 : Int).toNat [V.ref r8]).flatten) n12)
      have h12 := (s10.trans k12).tup h8
      refine ⟨_, .list [frD (costF xs ys rows ts), frD (costF xs ys rows ts)], rfl, .lst (xs := [V.ref r8, V.ref r8]) (SqL.of upd_same) (.cons (ftDp h12) (.cons (ftDp h12) .nil)), z1, z2, z3, z4, rfl, _, rfl, iteFe (by simp) ?_⟩
      have s12 := s8.trans (s10.trans k12)
      have C12 := C7.same s12
      have S12 := S7.same s12
      generalize upd (upd H10 t11 (.lst [V.ref r8])) t12 (.lst (List.replicate (2 : Int).toNat [V.ref r8]).flatten) = H12 at *
      refine ⟨_, rfl, _, rfl, _, rfl, p, q, cv, xs, ys, rows, rfl, C12, tx, ty, fun H13 s13 => ⟨_, rfl, iteF ?_⟩⟩
      have C13 := C12.same s13
      refine ⟨_, rfl, d, c, l, k7, 5, rfl, S12.same s13, by omega, by decide, by decide, fun H14 z zs k14 hk14 gz z8 z0 S14 f14 zz => ?_⟩
      have sz := gz.shr z8
      have tz : Told zs := fun a ha => (gz.all a ha).2.up (by decide)
      have hp14 := C13.1.tk (tk_fm f14 (S12.same s13))
      refine ⟨_, rfl, _, rfl, _, rfl, _, rfl, _, rfl, d, c, l, k14, p, z, xs, zs, rfl, S14, by omega, hp14, zz.sh, sx.1, z8, z0, sx.abs, sz.abs, fun H15 cw rows2 k15 hk15 S15 f15 hcw ok2 => ?_⟩
      have C15 : CArg K H15 p z cw xs zs rows2 := ⟨hp14.tk (tk_fm f15 S14), zz.sh.tk (tk_fm f15 S14), sx, sz, hcw, ok2⟩
      exact ⟨p, z, cw, xs, zs, rows2, rfl, C15, tx, tz, fun H16 s16 => ⟨_, rfl, iteF ⟨_, _, _, _, _, _, _, k15, rfl, S15.same s16, by omega⟩⟩⟩
    · rintro σ H2 ⟨v2, v3, v4, v5, v6, v7, v8, kk, rfl, S2, hk⟩
      intro Ga v1 g1 h1
      have h1 : Dp K Ga v1 (.tuple [shD exX, shD exY]) := h1
      obtain ⟨t1, us1, rfl, hs1, hd1⟩ := h1.tup_inv
      cases hd1 with
      | cons ho hr1 =>
      cases hr1 with
      | cons hoo hn =>
      cases hn
      obtain ⟨p, rfl, hp⟩ := sh_of ho
      obtain ⟨q, rfl, hqq⟩ := sh_of hoo
      clear ho hoo h1
      refine ⟨t1, _, rfl, hs1, rfl, _, _, rfl, _, _, rfl, rfl, ?_⟩
      intro Gb lA wsA g2 hA hwA
      have hwA : DpAll K Gb wsA [costD exR1, costD exR2, costD exR3] := hwA
      refine ⟨_, rfl, ?_⟩
      intro Gc lB wsB g3 hB hwB
      have hwB : DpAll K Gc wsB [costD exR4, costD exR5] := hwB
      have l3 := hwA.len
      have l2 := hwB.len
      refine ⟨lA, lB, _, _, rfl, rfl, g3 _ _ hA, hB, smallL (by rw [l3, l2]; decide), fun lC nC => ?_⟩
      have g4 := Same.new (o := .lst (wsA ++ wsB)) nC
      have hwC : DpAll K (upd Gc lC (.lst (wsA ++ wsB))) (wsA ++ wsB) (exRs.map costD) := ((hwA.same (g3.trans g4)).app (hwB.same g4))
      have hC : (upd Gc lC (.lst (wsA ++ wsB))) lC = some (.lst (wsA ++ wsB)) := upd_same
      have hp4 := hp.tk (tk_same (g2.trans (g3.trans g4)))
      have hq4 := hqq.tk (tk_same (g2.trans (g3.trans g4)))
      generalize wsA ++ wsB = ws at *
      generalize upd Gc lC (.lst ws) = G4 at *
      have sX : Shr exX := by decide +kernel
      have sY : Shr exY := by decide +kernel
      have okR : ∀ r ∈ exRs, CostOk r 2 4 := fun r hr => by
        simp only [List.mem_cons, List.not_mem_nil, or_false] at hr
        rcases hr with rfl | rfl | rfl | rfl | rfl <;> exact ⟨rfl, by decide, by decide⟩
      have lws : ws.length = 5 := hwC.len
      refine ⟨_, rfl, lC, rfl, ⟨_, SqL.of hC⟩, fun D hD => lc_list (K := K) (a := lC) (xs := ws) (fun i H' => LcD K G4 D ((exRs.take i).map exK) H') (LcD.start hD) (fun i H' _ h => SqL.of (h.same _ _ hC)) ?_ ?_⟩
      · rintro i v H' hi h
        obtain ⟨dt, hdt, hv⟩ := hwC.get hi
        rw [List.getElem?_map] at hdt
        cases er : exRs[i]? with
        | none => rw [er] at hdt; cases hdt
        | some r =>
        rw [er] at hdt
        cases hdt
        have C : CArg K H' p q v exX exY r := ⟨hp4.tk (tk_same h.same), hq4.tk (tk_same h.same), sX, sY, hv.same h.same, okR r (List.mem_of_getElem? er)⟩
        refine ⟨rfl, ?_⟩
        dsimp only [tYes]
        rw [if_pos rfl]
        refine ⟨_, rfl, _, rfl, _, rfl, p, q, v, exX, exY, r, rfl, C, fun H5 r5 s5 h5 => ?_⟩
        rw [take_snoc er, List.map_append]
        exact LcD.step hD h s5 h5 (flat_kinds exK (fun r => flat_kind _ _) _) (flat_kind _ _) (by rw [List.length_map, List.length_take]; exact Nat.le_trans (Nat.min_le_right _ _) (by decide))
      intro G5 h5
      rw [lws] at h5
      have h5 : LcD K G4 D (exRs.map exK) G5 := h5
      obtain ⟨us, hus, s5, hd5⟩ := h5
      obtain ⟨v3, hv3, hd3⟩ := hwC.at (i := 2) (d := costD exR3) rfl
      have C3 : CArg K G5 p q v3 exX exY exR3 := ⟨hp4.tk (tk_same s5), hq4.tk (tk_same s5), sX, sY, hd3.same s5, okR exR3 (by simp)⟩
      refine ⟨_, rfl, _, rfl, _, rfl, _, rfl, lC, ws, 2, v3, rfl, rfl, SqL.of (s5 _ _ hC), atI_nat (j := 2) hv3, p, q, v3, exX, exY, exR3, rfl, C3, fun G6 r6 s6 h6 => ?_⟩
      have hus6 := s6 _ _ hus
      have hd6 := hd5.same s6
      have s46 := s5.trans s6
      have fr : ∀ {Ha : Hp} {e : Addr}, Ha e = none → SqT K (upd Ha e (.tup [])) e [] := fun _ => SqT.of upd_same
      refine ⟨(by show 0 ≤ sizeLine; decide), fun e1 n1 => ?_⟩
      have k1 := Same.new (o := .tup []) n1
      have E1 := fr n1
      generalize upd G6 e1 (.tup []) = J1 at *
      refine ⟨(by show 0 ≤ sizeLine; decide), fun e2 n2 => ?_⟩
      have k2 := Same.new (o := .tup []) n2
      have E2 := fr n2
      generalize upd J1 e2 (.tup []) = J2 at *
      refine ⟨(by show 0 ≤ sizeLine; decide), fun e3 n3 => ?_⟩
      have k3 := Same.new (o := .tup []) n3
      have E3 := fr n3
      generalize upd J2 e3 (.tup []) = J3 at *
      refine ⟨(by show 0 ≤ sizeLine; decide), fun e4 n4 => ?_⟩
      have k4 := Same.new (o := .tup []) n4
      have E4 := fr n4
      generalize upd J3 e4 (.tup []) = J4 at *
      have s0E : Shr [] := by decide +kernel
      have okE : CostOk [] 0 0 := ⟨rfl, by simp, by simp⟩
      have CE : CArg K J4 e1 e2 (.ref e3) [] [] [] := ⟨⟨[], (k2.trans (k3.trans k4)).tup E1, .nil⟩, ⟨[], (k3.trans k4).tup E2, .nil⟩, s0E, s0E, .tup (k4.tup E3) .nil, okE⟩
      refine ⟨e1, e2, .ref e3, e4, [], [], [], [], rfl, CE, ⟨[], E4, .nil⟩, tab_nil, isS_none, isS_none, fun J5 r8 s8 h8 => ?_⟩
      have s68 := k1.trans (k2.trans (k3.trans (k4.trans s8)))
      refine ⟨(by show 0 ≤ sizeLine; decide), fun e5 n5 => ?_⟩
      have k5 := Same.new (o := .tup []) n5
      have E5 := fr n5
      generalize upd J5 e5 (.tup []) = J6 at *
      refine ⟨_, rfl, (by show 0 ≤ sizeLine; decide), fun e6 n6 => ?_⟩
      have k6 := Same.new (o := .tup []) n6
      have E6 := fr n6
      generalize upd J6 e6 (.tup []) = J7 at *
      have hq7 : ShAt K J7 q exY := hq4.tk (tk_same (s46.trans (s68.trans (k5.trans k6))))
      have CF : CArg K J7 e5 q (.ref e6) [] exY [] := ⟨⟨[], k6.tup E5, .nil⟩, hq7, s0E, sY, .tup E6 .nil, ⟨rfl, by simp, by simp⟩⟩
      refine ⟨e5, q, .ref e6, [], exY, [], rfl, CF, fun J8 r9 s9 h9 => ⟨(by show 3 ≤ sizeLine; decide), fun l9 n9 => ?_⟩⟩
      have k9 := s9.trans (Same.new (o := .lst [r6, .ref r8, r9]) n9)
      have s69 := s68.trans (k5.trans (k6.trans k9))
      have hl9 : (upd J8 l9 (.lst [r6, .ref r8, r9])) l9 = some (.lst [r6, .ref r8, r9]) := upd_same
      have h6' := h6.same s69
      have h8' := (ftDp h8).same (k5.trans (k6.trans k9))
      have h9' := h9.same (Same.new (o := .lst [r6, .ref r8, r9]) n9)
      generalize upd J8 l9 (.lst [r6, .ref r8, r9]) = J9 at *
      refine ⟨D, l9, _, _, rfl, rfl, s69 _ _ hus6, hl9, smallL (by rw [hd5.len]; show 8 ≤ 1000; decide), fun T1 nT1 => ?_⟩
      have kT := Same.new (o := .lst (us ++ [r6, .ref r8, r9])) nT1
      have hT1 : (upd J9 T1 (.lst (us ++ [r6, .ref r8, r9]))) T1 = some (.lst (us ++ [r6, .ref r8, r9])) := upd_same
      have d1 : DpAll K (upd J9 T1 (.lst (us ++ [r6, .ref r8, r9]))) (us ++ [r6, .ref r8, r9]) (exRs.map exK ++ [.tuple ((upsO exY exR3).map plD), frD (costF [] [] [] []), kindO (upsO exY []) (downsO exY [])]) := ((hd6.same (s69.trans kT)).app (.cons (h6'.same kT) (.cons (h8'.same kT) (.cons (h9'.same kT) .nil))))
      have s6T := s69.trans kT
      generalize eus : us ++ [r6, .ref r8, r9] = us1 at *
      generalize upd J9 T1 (.lst us1) = Ka at *
      have lus1 : us1.length = 8 := d1.len
      have hpK : ShAt K Ka p exX := hp4.tk (tk_same (s46.trans s6T))
      have hqK : ShAt K Ka q exY := hq4.tk (tk_same (s46.trans s6T))
      refine ⟨_, rfl, ?_⟩
      refine ⟨.inl ⟨rfl, _, SqL.of hT1⟩, ?_⟩
      refine ⟨_, rfl, (by show 0 ≤ sizeLine; decide), fun e7 n7 => ?_⟩
      have k7 := Same.new (o := .tup []) n7
      have E7 := fr n7
      generalize upd Ka e7 (.tup []) = Kb at *
      intro Kc v8 g8 hv8
      have hv8 : Dp K Kc v8 (costD [[], []]) := hv8
      have k78 := k7.trans g8
      have CG : CArg K Kc p e7 v8 exX [] [[], []] := ⟨hpK.tk (tk_same k78), ⟨[], g8.tup E7, .nil⟩, sX, s0E, hv8, ⟨rfl, by decide, by decide⟩⟩
      refine ⟨p, e7, v8, exX, [], [[], []], rfl, CG, fun Kd r10 s10 h10 => ?_⟩
      have kd := k78.trans s10
      refine ⟨T1, us1, r10, rfl, rfl, kd _ _ hT1, smallL' (by rw [lus1]; decide), ?_⟩
      have fl1 : flatDs (exRs.map exK ++ [.tuple ((upsO exY exR3).map plD), frD (costF [] [] [] []), kindO (upsO exY []) (downsO exY [])]) = true := by decide +kernel
      have hT2 : (upd Kd T1 (.lst (us1 ++ [r10]))) T1 = some (.lst (us1 ++ [r10])) := upd_same
      have tkT := tk_lst (K := K) (ys := us1 ++ [r10]) (kd _ _ hT1)
      have d2 : DpAll K (upd Kd T1 (.lst (us1 ++ [r10]))) (us1 ++ [r10]) ((exRs.map exK ++ [.tuple ((upsO exY exR3).map plD), frD (costF [] [] [] []), kindO (upsO exY []) (downsO exY [])]) ++ [kindO (upsO [] [[], []]) (downsO [] [[], []])]) := (DpAll.tk tkT fl1 (d1.same kd)).app (.cons (h10.tk tkT (by decide +kernel)) .nil)
      have hpL := (hpK.tk (tk_same kd)).tk tkT
      have hqL := (hqK.tk (tk_same kd)).tk tkT
      generalize eus2 : us1 ++ [r10] = us2 at *
      generalize upd Kd T1 (.lst us2) = La at *
      clear d1 hT1 kd tkT k78 hv8 g8 h10 s10 CG k7 E7
      refine ⟨_, rfl, by decide, by decide, fun Dm nDm => lc_it (walk_range (lo := 0) (n := 8)) (fun i H' => LcP K La Dm (exW.take i) H') (LcP.start nDm) (fun _ _ _ _ => trivial) ?_ ?_⟩
      · rintro i x H' H'' hi ⟨ws', h1', s1', hf'⟩ ⟨rfl, rfl⟩
        refine ⟨rfl, ?_⟩
        dsimp only [tYes]
        rw [if_pos rfl]
        refine ⟨_, rfl, _, _, rfl, rfl, .inl ⟨by decide, by decide⟩, (by show 2 ≤ sizeLine; decide), fun ta na => ⟨(by show 2 ≤ sizeLine; decide), fun tb nb => ?_⟩⟩
        have q1 := (Same.new (o := .tup [V.int 1, V.int 8]) na).trans (Same.new (o := .tup [V.int (3 * (0 + (i : Int))), V.ref ta]) nb)
        have ew : exW[i]? = some (3 * (0 + (i : Int)), ((1, 8) : Fx)) := by
          have : i < 8 := hi
          match i, this with
          | 0, _ => rfl
          | 1, _ => rfl
          | 2, _ => rfl
          | 3, _ => rfl
          | 4, _ => rfl
          | 5, _ => rfl
          | 6, _ => rfl
          | 7, _ => rfl
        refine ⟨ws', q1 _ _ h1', small1000 (by rw [hf'.len, List.length_take]; exact Nat.le_trans (Nat.min_le_right _ _) (by decide)), ?_⟩
        show LcP K La Dm _ _
        rw [take_snoc ew]
        exact LcP.step nDm (q1 _ _ h1') (s1'.trans q1) (hf'.tk (tk_same q1)) (SqT.of upd_same) ((Same.new nb).tup (FT.new (x := (1, 8))))
      intro Lb hb
      obtain ⟨ww, hw1, sw, hw2⟩ := (show LcP K La Dm exW Lb from hb)
      refine ⟨Dm, ww, rfl, .inl ⟨SqL.of hw1, fun wd nwd => ?_⟩⟩
      have q1 := Same.new (o := .tup ww) nwd
      have Hwd : ShAt K (upd Lb wd (.tup ww)) wd exW := ⟨ww, SqT.of upd_same, hw2.tk (tk_same q1)⟩
      have sL1 := sw.trans q1
      generalize upd Lb wd (.tup ww) = L1 at *
      refine ⟨(by show 1 ≤ sizeLine; decide), fun z0 nz0 => ⟨z0, 8, _, rfl, rfl, SqT.of upd_same, by simp, by decide, by decide, by decide, fun nn nnn => ?_⟩⟩
      have q2 := (Same.new (o := .tup [V.int 0]) nz0).trans (Same.new (o := .tup (List.replicate (8 : Int).toNat [V.int 0]).flatten) nnn)
      have Hnn : SqT K (upd (upd L1 z0 (.tup [V.int 0])) nn (.tup (List.replicate (8 : Int).toNat [V.int 0]).flatten)) nn (([0, 0, 0, 0, 0, 0, 0, 0] : List Int).map V.int) := SqT.of upd_same
      have Hwd2 := Hwd.tk (tk_same q2)
      have sL2 := sL1.trans q2
      generalize upd (upd L1 z0 (.tup [V.int 0])) nn (.tup (List.replicate (8 : Int).toNat [V.int 0]).flatten) = L2 at *
      refine ⟨_, _, rfl, ?_⟩
      have hT3 := sL2 _ _ hT2
      have d3 := d2.same sL2
      refine ⟨_, rfl, .inl ⟨rfl, _, SqL.of hT3⟩, _, rfl, _, rfl, ?_⟩
      refine ⟨_, rfl, (by show 1 ≤ sizeLine; decide), fun t1 m1 => ⟨t1, 7, _, rfl, rfl, SqT.of upd_same, by simp, by decide, by decide, by simp, fun t2 m2 => ?_⟩⟩
      have b2 := (Same.new (o := .tup [V.ref nn]) m1).trans (Same.new (o := .tup (List.replicate (7 : Int).toNat [V.ref nn]).flatten) m2)
      have A2 : SqT K (upd (upd L2 t1 (.tup [V.ref nn])) t2 (.tup (List.replicate (7 : Int).toNat [V.ref nn]).flatten)) t2 [V.ref nn, V.ref nn, V.ref nn, V.ref nn, V.ref nn, V.ref nn, V.ref nn] := SqT.of upd_same
      generalize upd (upd L2 t1 (.tup [V.ref nn])) t2 (.tup (List.replicate (7 : Int).toNat [V.ref nn]).flatten) = L3 at *
      refine ⟨(by show 1 ≤ sizeLine; decide), fun t3 m3 => ⟨t3, 7, _, rfl, rfl, SqT.of upd_same, by simp, by decide, by decide, by decide, fun t4 m4 => ?_⟩⟩
      have b4 := (Same.new (o := .tup [V.int 0]) m3).trans (Same.new (o := .tup (List.replicate (7 : Int).toNat [V.int 0]).flatten) m4)
      have A4 : SqT K (upd (upd L3 t3 (.tup [V.int 0])) t4 (.tup (List.replicate (7 : Int).toNat [V.int 0]).flatten)) t4 [V.int 0, V.int 0, V.int 0, V.int 0, V.int 0, V.int 0, V.int 0] := SqT.of upd_same
      generalize upd (upd L3 t3 (.tup [V.int 0])) t4 (.tup (List.replicate (7 : Int).toNat [V.int 0]).flatten) = L4 at *
      refine ⟨(by show 1 ≤ sizeLine; decide), fun t5 m5 => ?_⟩
      have b5 := Same.new (o := .tup [V.int 1]) m5
      have A5 : SqT K (upd L4 t5 (.tup [V.int 1])) t5 [V.int 1] := SqT.of upd_same
      have A4' := b5.tup A4
      generalize upd L4 t5 (.tup [V.int 1]) = L5 at *
      refine ⟨t4, t5, _, _, rfl, rfl, A4', A5, by simp, (by show 8 ≤ sizeLine; decide), (fun z => by cases z), fun _ t6 m6 => ?_⟩
      have b6 := Same.new (o := .tup ([V.int 0, V.int 0, V.int 0, V.int 0, V.int 0, V.int 0, V.int 0] ++ [V.int 1])) m6
      have A6 : SqT K (upd L5 t6 (.tup ([V.int 0, V.int 0, V.int 0, V.int 0, V.int 0, V.int 0, V.int 0] ++ [V.int 1]))) t6 (([0, 0, 0, 0, 0, 0, 0, 1] : List Int).map V.int) := SqT.of upd_same
      generalize upd L5 t6 (.tup ([V.int 0, V.int 0, V.int 0, V.int 0, V.int 0, V.int 0, V.int 0] ++ [V.int 1])) = L6 at *
      refine ⟨(by show 1 ≤ sizeLine; decide), fun t7 m7 => ?_⟩
      have b7 := Same.new (o := .tup [V.ref t6]) m7
      have A7 : SqT K (upd L6 t7 (.tup [V.ref t6])) t7 [V.ref t6] := SqT.of upd_same
      have A6' := b7.tup A6
      have A2' := (b4.trans (b5.trans (b6.trans b7))).tup A2
      generalize upd L6 t7 (.tup [V.ref t6]) = L7 at *
      refine ⟨t2, t7, _, _, rfl, rfl, A2', A7, by simp, (by show 8 ≤ sizeLine; decide), (fun z => by cases z), fun _ t8 m8 => ?_⟩
      have b8 := Same.new (o := .tup ([V.ref nn, V.ref nn, V.ref nn, V.ref nn, V.ref nn, V.ref nn, V.ref nn] ++ [V.ref t6])) m8
      have A8 : SqT K (upd L7 t8 (.tup ([V.ref nn, V.ref nn, V.ref nn, V.ref nn, V.ref nn, V.ref nn, V.ref nn] ++ [V.ref t6]))) t8 [V.ref nn, V.ref nn, V.ref nn, V.ref nn, V.ref nn, V.ref nn, V.ref nn, V.ref t6] := SqT.of upd_same
      have bb := b2.trans (b4.trans (b5.trans (b6.trans (b7.trans b8))))
      have A6'' := b8.tup A6'
      have Hnn8 := bb.tup Hnn
      have Hwd8 := Hwd2.tk (tk_same bb)
      have hT8 := bb _ _ hT3
      have d8 := d3.same bb
      generalize upd L7 t8 (.tup ([V.ref nn, V.ref nn, V.ref nn, V.ref nn, V.ref nn, V.ref nn, V.ref nn] ++ [V.ref t6])) = L8 at *
      have rowA : Dp K L8 (.ref nn) (.tuple (([0, 0, 0, 0, 0, 0, 0, 0] : List Int).map PyData.int)) := .tup Hnn8 (dpInts K L8 _)
      have rowB : Dp K L8 (.ref t6) (.tuple (([0, 0, 0, 0, 0, 0, 0, 1] : List Int).map PyData.int)) := .tup A6'' (dpInts K L8 _)
      have hW : Dp K L8 (.ref t8) (costD exWR) := .tup A8 (.cons rowA (.cons rowA (.cons rowA (.cons rowA (.cons rowA (.cons rowA (.cons rowA (.cons rowB .nil))))))))
      have sW : Shr exW := by decide +kernel
      have CW : CArg K L8 wd wd (.ref t8) exW exW exWR := ⟨Hwd8, Hwd8, sW, sW, hW, ⟨rfl, by decide, by decide⟩⟩
      refine ⟨wd, wd, .ref t8, exW, exW, exWR, rfl, CW, fun M1 r11 s11 h11 => ?_⟩
      have hT9 := s11 _ _ hT8
      have lus2 : us2.length = 9 := d8.len
      refine ⟨T1, us2, r11, rfl, rfl, hT9, smallL' (by rw [lus2]; decide), ?_⟩
      have fl2 : flatDs ((exRs.map exK ++ [.tuple ((upsO exY exR3).map plD), frD (costF [] [] [] []), kindO (upsO exY []) (downsO exY [])]) ++ [kindO (upsO [] [[], []]) (downsO [] [[], []])]) = true := by decide +kernel
      have tk9 := tk_lst (K := K) (ys := us2 ++ [r11]) hT9
      have d9 : DpAll K (upd M1 T1 (.lst (us2 ++ [r11]))) (us2 ++ [r11]) (((exRs.map exK ++ [.tuple ((upsO exY exR3).map plD), frD (costF [] [] [] []), kindO (upsO exY []) (downsO exY [])]) ++ [kindO (upsO [] [[], []]) (downsO [] [[], []])]) ++ [.tuple ((upsO exW exWR).map plD)]) := (DpAll.tk tk9 fl2 (d8.same s11)).app (.cons (h11.tk tk9 (by decide +kernel)) .nil)
      have hT10 : (upd M1 T1 (.lst (us2 ++ [r11]))) T1 = some (.lst (us2 ++ [r11])) := upd_same
      generalize upd M1 T1 (.lst (us2 ++ [r11])) = M2 at *
      intro M3 lD wsD g3' hD' hwD
      refine ⟨_, rfl, _, rfl, ?_⟩
      intro M4 lE wsE g4' hE hwE
      have le1 := hwD.len
      have le2 := hwE.len
      refine ⟨lD, lE, _, _, rfl, rfl, g4' _ _ hD', hE, smallL (by rw [le1, le2]; decide), fun lF nF => ?_⟩
      have kF := Same.new (o := .lst (wsD ++ wsE)) nF
      have told : Dp K (upd M4 lF (.lst (wsD ++ wsE))) (.ref T1) _ := .lst (SqL.of ((g3'.trans (g4'.trans kF)) _ _ hT10)) (d9.same (g3'.trans (g4'.trans kF)))
      have dues : Dp K (upd M4 lF (.lst (wsD ++ wsE))) (.ref lF) _ := .lst (SqL.of upd_same) ((hwD.same (g4'.trans kF)).app (hwE.same kF))
      refine ⟨_, _, told, dues, by decide +kernel, by decide +kernel, ?_⟩
      exact q_true (by decide +kernel) (k _)
end
end CS
set_option Elab.async false
set_option maxRecDepth 100000
set_option linter.unusedVariables false
namespace CS
open PySem L2
set_option maxHeartbeats 16000000 in
theorem all_mk {l : PySem.W.OpenLaw} {w : World} {K : PySem.W.Frag} {h : Heap} {mg : Str → Option Value} {fa fLowered fAdded fScaled fSumOf fIsWhole fIsWord fIsRow fIsRowOf fIsWholeWithin fIsNumber fIsFraction fIsWeight fAscends fIsSharePair fIsShare fHasSort fGathered fIsStep fIsFair fIsTable fStartShare fEndShare fLeads fNeedShare fIsCostRow fNeedCosts fPlaces fCostOf fBow fBends fBendsUp fBendsDown fKindPaper fKindOf fIsAsTold fCheckKind fMixed fBegin fDraw fLawOf fLawRatio fLawPlus fLawLess fLawTimes fLawSum fLawShareOf fLawSide fLawHeft fLawMarks fLawShare fLawSteps fLawCosts fLawCost fLawBends fLawWord fLawKindRight fLaw : Addr} (X : K.In h) (G : h.Ns mainGlobals mg) (hfa : mg "law" = some (.ref fa))
    {odLowered anLowered : Option Addr} {slLowered : Array (Option Value)} {ocLowered kVLowered dcLowered pmLowered ctLowered cdLowered : Value} (aLowered : PySem.W.nsIn K mainGlobals "lowered" = some (some (.ref fLowered))) (lLowered : K.lookup fLowered = some ⟨ocLowered, odLowered, .func (PySem.W.fnOf "lowered" "lowered" (defArgs sLowered) (defBody sLowered) (defScope sLowered) .none kVLowered dcLowered pmLowered anLowered cdLowered ctLowered), slLowered⟩) (cLowered : PySem.W.codeIn K cdLowered "lowered" = true) (kLowered : PySem.W.keepIn K (.ref fLowered) = true)
    {odAdded anAdded : Option Addr} {slAdded : Array (Option Value)} {ocAdded kVAdded dcAdded pmAdded ctAdded cdAdded : Value} (aAdded : PySem.W.nsIn K mainGlobals "added" = some (some (.ref fAdded))) (lAdded : K.lookup fAdded = some ⟨ocAdded, odAdded, .func (PySem.W.fnOf "added" "added" (defArgs sAdded) (defBody sAdded) (defScope sAdded) .none kVAdded dcAdded pmAdded anAdded cdAdded ctAdded), slAdded⟩) (cAdded : PySem.W.codeIn K cdAdded "added" = true) (kAdded : PySem.W.keepIn K (.ref fAdded) = true)
    {odScaled anScaled : Option Addr} {slScaled : Array (Option Value)} {ocScaled kVScaled dcScaled pmScaled ctScaled cdScaled : Value} (aScaled : PySem.W.nsIn K mainGlobals "scaled" = some (some (.ref fScaled))) (lScaled : K.lookup fScaled = some ⟨ocScaled, odScaled, .func (PySem.W.fnOf "scaled" "scaled" (defArgs sScaled) (defBody sScaled) (defScope sScaled) .none kVScaled dcScaled pmScaled anScaled cdScaled ctScaled), slScaled⟩) (cScaled : PySem.W.codeIn K cdScaled "scaled" = true) (kScaled : PySem.W.keepIn K (.ref fScaled) = true)
    {odSumOf anSumOf : Option Addr} {slSumOf : Array (Option Value)} {ocSumOf kVSumOf dcSumOf pmSumOf ctSumOf cdSumOf : Value} (aSumOf : PySem.W.nsIn K mainGlobals "sum_of" = some (some (.ref fSumOf))) (lSumOf : K.lookup fSumOf = some ⟨ocSumOf, odSumOf, .func (PySem.W.fnOf "sum_of" "sum_of" (defArgs sSumOf) (defBody sSumOf) (defScope sSumOf) .none kVSumOf dcSumOf pmSumOf anSumOf cdSumOf ctSumOf), slSumOf⟩) (cSumOf : PySem.W.codeIn K cdSumOf "sum_of" = true) (kSumOf : PySem.W.keepIn K (.ref fSumOf) = true)
    {odIsWhole anIsWhole : Option Addr} {slIsWhole : Array (Option Value)} {ocIsWhole kVIsWhole dcIsWhole pmIsWhole ctIsWhole cdIsWhole : Value} (aIsWhole : PySem.W.nsIn K mainGlobals "is_whole" = some (some (.ref fIsWhole))) (lIsWhole : K.lookup fIsWhole = some ⟨ocIsWhole, odIsWhole, .func (PySem.W.fnOf "is_whole" "is_whole" (defArgs sIsWhole) (defBody sIsWhole) (defScope sIsWhole) .none kVIsWhole dcIsWhole pmIsWhole anIsWhole cdIsWhole ctIsWhole), slIsWhole⟩) (cIsWhole : PySem.W.codeIn K cdIsWhole "is_whole" = true) (kIsWhole : PySem.W.keepIn K (.ref fIsWhole) = true)
    {odIsWord anIsWord : Option Addr} {slIsWord : Array (Option Value)} {ocIsWord kVIsWord dcIsWord pmIsWord ctIsWord cdIsWord : Value} (aIsWord : PySem.W.nsIn K mainGlobals "is_word" = some (some (.ref fIsWord))) (lIsWord : K.lookup fIsWord = some ⟨ocIsWord, odIsWord, .func (PySem.W.fnOf "is_word" "is_word" (defArgs sIsWord) (defBody sIsWord) (defScope sIsWord) .none kVIsWord dcIsWord pmIsWord anIsWord cdIsWord ctIsWord), slIsWord⟩) (cIsWord : PySem.W.codeIn K cdIsWord "is_word" = true) (kIsWord : PySem.W.keepIn K (.ref fIsWord) = true)
    {odIsRow anIsRow : Option Addr} {slIsRow : Array (Option Value)} {ocIsRow kVIsRow dcIsRow pmIsRow ctIsRow cdIsRow : Value} (aIsRow : PySem.W.nsIn K mainGlobals "is_row" = some (some (.ref fIsRow))) (lIsRow : K.lookup fIsRow = some ⟨ocIsRow, odIsRow, .func (PySem.W.fnOf "is_row" "is_row" (defArgs sIsRow) (defBody sIsRow) (defScope sIsRow) .none kVIsRow dcIsRow pmIsRow anIsRow cdIsRow ctIsRow), slIsRow⟩) (cIsRow : PySem.W.codeIn K cdIsRow "is_row" = true) (kIsRow : PySem.W.keepIn K (.ref fIsRow) = true)
    {odIsRowOf anIsRowOf : Option Addr} {slIsRowOf : Array (Option Value)} {ocIsRowOf kVIsRowOf dcIsRowOf pmIsRowOf ctIsRowOf cdIsRowOf : Value} (aIsRowOf : PySem.W.nsIn K mainGlobals "is_row_of" = some (some (.ref fIsRowOf))) (lIsRowOf : K.lookup fIsRowOf = some ⟨ocIsRowOf, odIsRowOf, .func (PySem.W.fnOf "is_row_of" "is_row_of" (defArgs sIsRowOf) (defBody sIsRowOf) (defScope sIsRowOf) .none kVIsRowOf dcIsRowOf pmIsRowOf anIsRowOf cdIsRowOf ctIsRowOf), slIsRowOf⟩) (cIsRowOf : PySem.W.codeIn K cdIsRowOf "is_row_of" = true) (kIsRowOf : PySem.W.keepIn K (.ref fIsRowOf) = true)
    {odIsWholeWithin anIsWholeWithin : Option Addr} {slIsWholeWithin : Array (Option Value)} {ocIsWholeWithin kVIsWholeWithin dcIsWholeWithin pmIsWholeWithin ctIsWholeWithin cdIsWholeWithin : Value} (aIsWholeWithin : PySem.W.nsIn K mainGlobals "is_whole_within" = some (some (.ref fIsWholeWithin))) (lIsWholeWithin : K.lookup fIsWholeWithin = some ⟨ocIsWholeWithin, odIsWholeWithin, .func (PySem.W.fnOf "is_whole_within" "is_whole_within" (defArgs sIsWholeWithin) (defBody sIsWholeWithin) (defScope sIsWholeWithin) .none kVIsWholeWithin dcIsWholeWithin pmIsWholeWithin anIsWholeWithin cdIsWholeWithin ctIsWholeWithin), slIsWholeWithin⟩) (cIsWholeWithin : PySem.W.codeIn K cdIsWholeWithin "is_whole_within" = true) (kIsWholeWithin : PySem.W.keepIn K (.ref fIsWholeWithin) = true)
    {odIsNumber anIsNumber : Option Addr} {slIsNumber : Array (Option Value)} {ocIsNumber kVIsNumber dcIsNumber pmIsNumber ctIsNumber cdIsNumber : Value} (aIsNumber : PySem.W.nsIn K mainGlobals "is_number" = some (some (.ref fIsNumber))) (lIsNumber : K.lookup fIsNumber = some ⟨ocIsNumber, odIsNumber, .func (PySem.W.fnOf "is_number" "is_number" (defArgs sIsNumber) (defBody sIsNumber) (defScope sIsNumber) .none kVIsNumber dcIsNumber pmIsNumber anIsNumber cdIsNumber ctIsNumber), slIsNumber⟩) (cIsNumber : PySem.W.codeIn K cdIsNumber "is_number" = true) (kIsNumber : PySem.W.keepIn K (.ref fIsNumber) = true)
    {odIsFraction anIsFraction : Option Addr} {slIsFraction : Array (Option Value)} {ocIsFraction kVIsFraction dcIsFraction pmIsFraction ctIsFraction cdIsFraction : Value} (aIsFraction : PySem.W.nsIn K mainGlobals "is_fraction" = some (some (.ref fIsFraction))) (lIsFraction : K.lookup fIsFraction = some ⟨ocIsFraction, odIsFraction, .func (PySem.W.fnOf "is_fraction" "is_fraction" (defArgs sIsFraction) (defBody sIsFraction) (defScope sIsFraction) .none kVIsFraction dcIsFraction pmIsFraction anIsFraction cdIsFraction ctIsFraction), slIsFraction⟩) (cIsFraction : PySem.W.codeIn K cdIsFraction "is_fraction" = true) (kIsFraction : PySem.W.keepIn K (.ref fIsFraction) = true)
    {odIsWeight anIsWeight : Option Addr} {slIsWeight : Array (Option Value)} {ocIsWeight kVIsWeight dcIsWeight pmIsWeight ctIsWeight cdIsWeight : Value} (aIsWeight : PySem.W.nsIn K mainGlobals "is_weight" = some (some (.ref fIsWeight))) (lIsWeight : K.lookup fIsWeight = some ⟨ocIsWeight, odIsWeight, .func (PySem.W.fnOf "is_weight" "is_weight" (defArgs sIsWeight) (defBody sIsWeight) (defScope sIsWeight) .none kVIsWeight dcIsWeight pmIsWeight anIsWeight cdIsWeight ctIsWeight), slIsWeight⟩) (cIsWeight : PySem.W.codeIn K cdIsWeight "is_weight" = true) (kIsWeight : PySem.W.keepIn K (.ref fIsWeight) = true)
    {odAscends anAscends : Option Addr} {slAscends : Array (Option Value)} {ocAscends kVAscends dcAscends pmAscends ctAscends cdAscends : Value} (aAscends : PySem.W.nsIn K mainGlobals "ascends" = some (some (.ref fAscends))) (lAscends : K.lookup fAscends = some ⟨ocAscends, odAscends, .func (PySem.W.fnOf "ascends" "ascends" (defArgs sAscends) (defBody sAscends) (defScope sAscends) .none kVAscends dcAscends pmAscends anAscends cdAscends ctAscends), slAscends⟩) (cAscends : PySem.W.codeIn K cdAscends "ascends" = true) (kAscends : PySem.W.keepIn K (.ref fAscends) = true)
    {odIsSharePair anIsSharePair : Option Addr} {slIsSharePair : Array (Option Value)} {ocIsSharePair kVIsSharePair dcIsSharePair pmIsSharePair ctIsSharePair cdIsSharePair : Value} (aIsSharePair : PySem.W.nsIn K mainGlobals "is_share_pair" = some (some (.ref fIsSharePair))) (lIsSharePair : K.lookup fIsSharePair = some ⟨ocIsSharePair, odIsSharePair, .func (PySem.W.fnOf "is_share_pair" "is_share_pair" (defArgs sIsSharePair) (defBody sIsSharePair) (defScope sIsSharePair) .none kVIsSharePair dcIsSharePair pmIsSharePair anIsSharePair cdIsSharePair ctIsSharePair), slIsSharePair⟩) (cIsSharePair : PySem.W.codeIn K cdIsSharePair "is_share_pair" = true) (kIsSharePair : PySem.W.keepIn K (.ref fIsSharePair) = true)
    {odIsShare anIsShare : Option Addr} {slIsShare : Array (Option Value)} {ocIsShare kVIsShare dcIsShare pmIsShare ctIsShare cdIsShare : Value} (aIsShare : PySem.W.nsIn K mainGlobals "is_share" = some (some (.ref fIsShare))) (lIsShare : K.lookup fIsShare = some ⟨ocIsShare, odIsShare, .func (PySem.W.fnOf "is_share" "is_share" (defArgs sIsShare) (defBody sIsShare) (defScope sIsShare) .none kVIsShare dcIsShare pmIsShare anIsShare cdIsShare ctIsShare), slIsShare⟩) (cIsShare : PySem.W.codeIn K cdIsShare "is_share" = true) (kIsShare : PySem.W.keepIn K (.ref fIsShare) = true)
    {odHasSort anHasSort : Option Addr} {slHasSort : Array (Option Value)} {ocHasSort kVHasSort dcHasSort pmHasSort ctHasSort cdHasSort : Value} (aHasSort : PySem.W.nsIn K mainGlobals "has_sort" = some (some (.ref fHasSort))) (lHasSort : K.lookup fHasSort = some ⟨ocHasSort, odHasSort, .func (PySem.W.fnOf "has_sort" "has_sort" (defArgs sHasSort) (defBody sHasSort) (defScope sHasSort) .none kVHasSort dcHasSort pmHasSort anHasSort cdHasSort ctHasSort), slHasSort⟩) (cHasSort : PySem.W.codeIn K cdHasSort "has_sort" = true) (kHasSort : PySem.W.keepIn K (.ref fHasSort) = true)
    {odGathered anGathered : Option Addr} {slGathered : Array (Option Value)} {ocGathered kVGathered dcGathered pmGathered ctGathered cdGathered : Value} (aGathered : PySem.W.nsIn K mainGlobals "gathered" = some (some (.ref fGathered))) (lGathered : K.lookup fGathered = some ⟨ocGathered, odGathered, .func (PySem.W.fnOf "gathered" "gathered" (defArgs sGathered) (defBody sGathered) (defScope sGathered) .none kVGathered dcGathered pmGathered anGathered cdGathered ctGathered), slGathered⟩) (cGathered : PySem.W.codeIn K cdGathered "gathered" = true) (kGathered : PySem.W.keepIn K (.ref fGathered) = true)
    {odIsStep anIsStep : Option Addr} {slIsStep : Array (Option Value)} {ocIsStep kVIsStep dcIsStep pmIsStep ctIsStep cdIsStep : Value} (aIsStep : PySem.W.nsIn K mainGlobals "is_step" = some (some (.ref fIsStep))) (lIsStep : K.lookup fIsStep = some ⟨ocIsStep, odIsStep, .func (PySem.W.fnOf "is_step" "is_step" (defArgs sIsStep) (defBody sIsStep) (defScope sIsStep) .none kVIsStep dcIsStep pmIsStep anIsStep cdIsStep ctIsStep), slIsStep⟩) (cIsStep : PySem.W.codeIn K cdIsStep "is_step" = true) (kIsStep : PySem.W.keepIn K (.ref fIsStep) = true)
    {odIsFair anIsFair : Option Addr} {slIsFair : Array (Option Value)} {ocIsFair kVIsFair dcIsFair pmIsFair ctIsFair cdIsFair : Value} (aIsFair : PySem.W.nsIn K mainGlobals "is_fair" = some (some (.ref fIsFair))) (lIsFair : K.lookup fIsFair = some ⟨ocIsFair, odIsFair, .func (PySem.W.fnOf "is_fair" "is_fair" (defArgs sIsFair) (defBody sIsFair) (defScope sIsFair) .none kVIsFair dcIsFair pmIsFair anIsFair cdIsFair ctIsFair), slIsFair⟩) (cIsFair : PySem.W.codeIn K cdIsFair "is_fair" = true) (kIsFair : PySem.W.keepIn K (.ref fIsFair) = true)
    {odIsTable anIsTable : Option Addr} {slIsTable : Array (Option Value)} {ocIsTable kVIsTable dcIsTable pmIsTable ctIsTable cdIsTable : Value} (aIsTable : PySem.W.nsIn K mainGlobals "is_table" = some (some (.ref fIsTable))) (lIsTable : K.lookup fIsTable = some ⟨ocIsTable, odIsTable, .func (PySem.W.fnOf "is_table" "is_table" (defArgs sIsTable) (defBody sIsTable) (defScope sIsTable) .none kVIsTable dcIsTable pmIsTable anIsTable cdIsTable ctIsTable), slIsTable⟩) (cIsTable : PySem.W.codeIn K cdIsTable "is_table" = true) (kIsTable : PySem.W.keepIn K (.ref fIsTable) = true)
    {odStartShare anStartShare : Option Addr} {slStartShare : Array (Option Value)} {ocStartShare kVStartShare dcStartShare pmStartShare ctStartShare cdStartShare : Value} (aStartShare : PySem.W.nsIn K mainGlobals "start_share" = some (some (.ref fStartShare))) (lStartShare : K.lookup fStartShare = some ⟨ocStartShare, odStartShare, .func (PySem.W.fnOf "start_share" "start_share" (defArgs sStartShare) (defBody sStartShare) (defScope sStartShare) .none kVStartShare dcStartShare pmStartShare anStartShare cdStartShare ctStartShare), slStartShare⟩) (cStartShare : PySem.W.codeIn K cdStartShare "start_share" = true) (kStartShare : PySem.W.keepIn K (.ref fStartShare) = true)
    {odEndShare anEndShare : Option Addr} {slEndShare : Array (Option Value)} {ocEndShare kVEndShare dcEndShare pmEndShare ctEndShare cdEndShare : Value} (aEndShare : PySem.W.nsIn K mainGlobals "end_share" = some (some (.ref fEndShare))) (lEndShare : K.lookup fEndShare = some ⟨ocEndShare, odEndShare, .func (PySem.W.fnOf "end_share" "end_share" (defArgs sEndShare) (defBody sEndShare) (defScope sEndShare) .none kVEndShare dcEndShare pmEndShare anEndShare cdEndShare ctEndShare), slEndShare⟩) (cEndShare : PySem.W.codeIn K cdEndShare "end_share" = true) (kEndShare : PySem.W.keepIn K (.ref fEndShare) = true)
    {odLeads anLeads : Option Addr} {slLeads : Array (Option Value)} {ocLeads kVLeads dcLeads pmLeads ctLeads cdLeads : Value} (aLeads : PySem.W.nsIn K mainGlobals "leads" = some (some (.ref fLeads))) (lLeads : K.lookup fLeads = some ⟨ocLeads, odLeads, .func (PySem.W.fnOf "leads" "leads" (defArgs sLeads) (defBody sLeads) (defScope sLeads) .none kVLeads dcLeads pmLeads anLeads cdLeads ctLeads), slLeads⟩) (cLeads : PySem.W.codeIn K cdLeads "leads" = true) (kLeads : PySem.W.keepIn K (.ref fLeads) = true)
    {odNeedShare anNeedShare : Option Addr} {slNeedShare : Array (Option Value)} {ocNeedShare kVNeedShare dcNeedShare pmNeedShare ctNeedShare cdNeedShare : Value} (aNeedShare : PySem.W.nsIn K mainGlobals "need_share" = some (some (.ref fNeedShare))) (lNeedShare : K.lookup fNeedShare = some ⟨ocNeedShare, odNeedShare, .func (PySem.W.fnOf "need_share" "need_share" (defArgs sNeedShare) (defBody sNeedShare) (defScope sNeedShare) .none kVNeedShare dcNeedShare pmNeedShare anNeedShare cdNeedShare ctNeedShare), slNeedShare⟩) (cNeedShare : PySem.W.codeIn K cdNeedShare "need_share" = true) (kNeedShare : PySem.W.keepIn K (.ref fNeedShare) = true)
    {odIsCostRow anIsCostRow : Option Addr} {slIsCostRow : Array (Option Value)} {ocIsCostRow kVIsCostRow dcIsCostRow pmIsCostRow ctIsCostRow cdIsCostRow : Value} (aIsCostRow : PySem.W.nsIn K mainGlobals "is_cost_row" = some (some (.ref fIsCostRow))) (lIsCostRow : K.lookup fIsCostRow = some ⟨ocIsCostRow, odIsCostRow, .func (PySem.W.fnOf "is_cost_row" "is_cost_row" (defArgs sIsCostRow) (defBody sIsCostRow) (defScope sIsCostRow) .none kVIsCostRow dcIsCostRow pmIsCostRow anIsCostRow cdIsCostRow ctIsCostRow), slIsCostRow⟩) (cIsCostRow : PySem.W.codeIn K cdIsCostRow "is_cost_row" = true) (kIsCostRow : PySem.W.keepIn K (.ref fIsCostRow) = true)
    {odNeedCosts anNeedCosts : Option Addr} {slNeedCosts : Array (Option Value)} {ocNeedCosts kVNeedCosts dcNeedCosts pmNeedCosts ctNeedCosts cdNeedCosts : Value} (aNeedCosts : PySem.W.nsIn K mainGlobals "need_costs" = some (some (.ref fNeedCosts))) (lNeedCosts : K.lookup fNeedCosts = some ⟨ocNeedCosts, odNeedCosts, .func (PySem.W.fnOf "need_costs" "need_costs" (defArgs sNeedCosts) (defBody sNeedCosts) (defScope sNeedCosts) .none kVNeedCosts dcNeedCosts pmNeedCosts anNeedCosts cdNeedCosts ctNeedCosts), slNeedCosts⟩) (cNeedCosts : PySem.W.codeIn K cdNeedCosts "need_costs" = true) (kNeedCosts : PySem.W.keepIn K (.ref fNeedCosts) = true)
    {odPlaces anPlaces : Option Addr} {slPlaces : Array (Option Value)} {ocPlaces kVPlaces dcPlaces pmPlaces ctPlaces cdPlaces : Value} (aPlaces : PySem.W.nsIn K mainGlobals "places" = some (some (.ref fPlaces))) (lPlaces : K.lookup fPlaces = some ⟨ocPlaces, odPlaces, .func (PySem.W.fnOf "places" "places" (defArgs sPlaces) (defBody sPlaces) (defScope sPlaces) .none kVPlaces dcPlaces pmPlaces anPlaces cdPlaces ctPlaces), slPlaces⟩) (cPlaces : PySem.W.codeIn K cdPlaces "places" = true) (kPlaces : PySem.W.keepIn K (.ref fPlaces) = true)
    {odCostOf anCostOf : Option Addr} {slCostOf : Array (Option Value)} {ocCostOf kVCostOf dcCostOf pmCostOf ctCostOf cdCostOf : Value} (aCostOf : PySem.W.nsIn K mainGlobals "cost_of" = some (some (.ref fCostOf))) (lCostOf : K.lookup fCostOf = some ⟨ocCostOf, odCostOf, .func (PySem.W.fnOf "cost_of" "cost_of" (defArgs sCostOf) (defBody sCostOf) (defScope sCostOf) .none kVCostOf dcCostOf pmCostOf anCostOf cdCostOf ctCostOf), slCostOf⟩) (cCostOf : PySem.W.codeIn K cdCostOf "cost_of" = true) (kCostOf : PySem.W.keepIn K (.ref fCostOf) = true)
    {odBow anBow : Option Addr} {slBow : Array (Option Value)} {ocBow kVBow dcBow pmBow ctBow cdBow : Value} (aBow : PySem.W.nsIn K mainGlobals "bow" = some (some (.ref fBow))) (lBow : K.lookup fBow = some ⟨ocBow, odBow, .func (PySem.W.fnOf "bow" "bow" (defArgs sBow) (defBody sBow) (defScope sBow) .none kVBow dcBow pmBow anBow cdBow ctBow), slBow⟩) (cBow : PySem.W.codeIn K cdBow "bow" = true) (kBow : PySem.W.keepIn K (.ref fBow) = true)
    {odBends anBends : Option Addr} {slBends : Array (Option Value)} {ocBends kVBends dcBends pmBends ctBends cdBends : Value} (aBends : PySem.W.nsIn K mainGlobals "bends" = some (some (.ref fBends))) (lBends : K.lookup fBends = some ⟨ocBends, odBends, .func (PySem.W.fnOf "bends" "bends" (defArgs sBends) (defBody sBends) (defScope sBends) .none kVBends dcBends pmBends anBends cdBends ctBends), slBends⟩) (cBends : PySem.W.codeIn K cdBends "bends" = true) (kBends : PySem.W.keepIn K (.ref fBends) = true)
    {odBendsUp anBendsUp : Option Addr} {slBendsUp : Array (Option Value)} {ocBendsUp kVBendsUp dcBendsUp pmBendsUp ctBendsUp cdBendsUp : Value} (aBendsUp : PySem.W.nsIn K mainGlobals "bends_up" = some (some (.ref fBendsUp))) (lBendsUp : K.lookup fBendsUp = some ⟨ocBendsUp, odBendsUp, .func (PySem.W.fnOf "bends_up" "bends_up" (defArgs sBendsUp) (defBody sBendsUp) (defScope sBendsUp) .none kVBendsUp dcBendsUp pmBendsUp anBendsUp cdBendsUp ctBendsUp), slBendsUp⟩) (cBendsUp : PySem.W.codeIn K cdBendsUp "bends_up" = true) (kBendsUp : PySem.W.keepIn K (.ref fBendsUp) = true)
    {odBendsDown anBendsDown : Option Addr} {slBendsDown : Array (Option Value)} {ocBendsDown kVBendsDown dcBendsDown pmBendsDown ctBendsDown cdBendsDown : Value} (aBendsDown : PySem.W.nsIn K mainGlobals "bends_down" = some (some (.ref fBendsDown))) (lBendsDown : K.lookup fBendsDown = some ⟨ocBendsDown, odBendsDown, .func (PySem.W.fnOf "bends_down" "bends_down" (defArgs sBendsDown) (defBody sBendsDown) (defScope sBendsDown) .none kVBendsDown dcBendsDown pmBendsDown anBendsDown cdBendsDown ctBendsDown), slBendsDown⟩) (cBendsDown : PySem.W.codeIn K cdBendsDown "bends_down" = true) (kBendsDown : PySem.W.keepIn K (.ref fBendsDown) = true)
    {odKindPaper anKindPaper : Option Addr} {slKindPaper : Array (Option Value)} {ocKindPaper kVKindPaper dcKindPaper pmKindPaper ctKindPaper cdKindPaper : Value} (aKindPaper : PySem.W.nsIn K mainGlobals "kind_paper" = some (some (.ref fKindPaper))) (lKindPaper : K.lookup fKindPaper = some ⟨ocKindPaper, odKindPaper, .func (PySem.W.fnOf "kind_paper" "kind_paper" (defArgs sKindPaper) (defBody sKindPaper) (defScope sKindPaper) .none kVKindPaper dcKindPaper pmKindPaper anKindPaper cdKindPaper ctKindPaper), slKindPaper⟩) (cKindPaper : PySem.W.codeIn K cdKindPaper "kind_paper" = true) (kKindPaper : PySem.W.keepIn K (.ref fKindPaper) = true)
    {odKindOf anKindOf : Option Addr} {slKindOf : Array (Option Value)} {ocKindOf kVKindOf dcKindOf pmKindOf ctKindOf cdKindOf : Value} (aKindOf : PySem.W.nsIn K mainGlobals "kind_of" = some (some (.ref fKindOf))) (lKindOf : K.lookup fKindOf = some ⟨ocKindOf, odKindOf, .func (PySem.W.fnOf "kind_of" "kind_of" (defArgs sKindOf) (defBody sKindOf) (defScope sKindOf) .none kVKindOf dcKindOf pmKindOf anKindOf cdKindOf ctKindOf), slKindOf⟩) (cKindOf : PySem.W.codeIn K cdKindOf "kind_of" = true) (kKindOf : PySem.W.keepIn K (.ref fKindOf) = true)
    {odIsAsTold anIsAsTold : Option Addr} {slIsAsTold : Array (Option Value)} {ocIsAsTold kVIsAsTold dcIsAsTold pmIsAsTold ctIsAsTold cdIsAsTold : Value} (aIsAsTold : PySem.W.nsIn K mainGlobals "is_as_told" = some (some (.ref fIsAsTold))) (lIsAsTold : K.lookup fIsAsTold = some ⟨ocIsAsTold, odIsAsTold, .func (PySem.W.fnOf "is_as_told" "is_as_told" (defArgs sIsAsTold) (defBody sIsAsTold) (defScope sIsAsTold) .none kVIsAsTold dcIsAsTold pmIsAsTold anIsAsTold cdIsAsTold ctIsAsTold), slIsAsTold⟩) (cIsAsTold : PySem.W.codeIn K cdIsAsTold "is_as_told" = true) (kIsAsTold : PySem.W.keepIn K (.ref fIsAsTold) = true)
    {odCheckKind anCheckKind : Option Addr} {slCheckKind : Array (Option Value)} {ocCheckKind kVCheckKind dcCheckKind pmCheckKind ctCheckKind cdCheckKind : Value} (aCheckKind : PySem.W.nsIn K mainGlobals "check_kind" = some (some (.ref fCheckKind))) (lCheckKind : K.lookup fCheckKind = some ⟨ocCheckKind, odCheckKind, .func (PySem.W.fnOf "check_kind" "check_kind" (defArgs sCheckKind) (defBody sCheckKind) (defScope sCheckKind) .none kVCheckKind dcCheckKind pmCheckKind anCheckKind cdCheckKind ctCheckKind), slCheckKind⟩) (cCheckKind : PySem.W.codeIn K cdCheckKind "check_kind" = true) (kCheckKind : PySem.W.keepIn K (.ref fCheckKind) = true)
    {odMixed anMixed : Option Addr} {slMixed : Array (Option Value)} {ocMixed kVMixed dcMixed pmMixed ctMixed cdMixed : Value} (aMixed : PySem.W.nsIn K mainGlobals "_law_mixed" = some (some (.ref fMixed))) (lMixed : K.lookup fMixed = some ⟨ocMixed, odMixed, .func (PySem.W.fnOf "_law_mixed" "_law_mixed" (defArgs sMixed) (defBody sMixed) (defScope sMixed) .none kVMixed dcMixed pmMixed anMixed cdMixed ctMixed), slMixed⟩) (cMixed : PySem.W.codeIn K cdMixed "_law_mixed" = true) (kMixed : PySem.W.keepIn K (.ref fMixed) = true)
    {odBegin anBegin : Option Addr} {slBegin : Array (Option Value)} {ocBegin kVBegin dcBegin pmBegin ctBegin cdBegin : Value} (aBegin : PySem.W.nsIn K mainGlobals "_law_begin" = some (some (.ref fBegin))) (lBegin : K.lookup fBegin = some ⟨ocBegin, odBegin, .func (PySem.W.fnOf "_law_begin" "_law_begin" (defArgs sBegin) (defBody sBegin) (defScope sBegin) .none kVBegin dcBegin pmBegin anBegin cdBegin ctBegin), slBegin⟩) (cBegin : PySem.W.codeIn K cdBegin "_law_begin" = true) (kBegin : PySem.W.keepIn K (.ref fBegin) = true)
    {odDraw anDraw : Option Addr} {slDraw : Array (Option Value)} {ocDraw kVDraw dcDraw pmDraw ctDraw cdDraw : Value} (aDraw : PySem.W.nsIn K mainGlobals "_law_draw" = some (some (.ref fDraw))) (lDraw : K.lookup fDraw = some ⟨ocDraw, odDraw, .func (PySem.W.fnOf "_law_draw" "_law_draw" (defArgs sDraw) (defBody sDraw) (defScope sDraw) .none kVDraw dcDraw pmDraw anDraw cdDraw ctDraw), slDraw⟩) (cDraw : PySem.W.codeIn K cdDraw "_law_draw" = true) (kDraw : PySem.W.keepIn K (.ref fDraw) = true)
    {odLawOf anLawOf : Option Addr} {slLawOf : Array (Option Value)} {ocLawOf kVLawOf dcLawOf pmLawOf ctLawOf cdLawOf : Value} (aLawOf : PySem.W.nsIn K mainGlobals "_law_of" = some (some (.ref fLawOf))) (lLawOf : K.lookup fLawOf = some ⟨ocLawOf, odLawOf, .func (PySem.W.fnOf "_law_of" "_law_of" (defArgs sLawOf) (defBody sLawOf) (defScope sLawOf) .none kVLawOf dcLawOf pmLawOf anLawOf cdLawOf ctLawOf), slLawOf⟩) (cLawOf : PySem.W.codeIn K cdLawOf "_law_of" = true) (kLawOf : PySem.W.keepIn K (.ref fLawOf) = true)
    {odLawRatio anLawRatio : Option Addr} {slLawRatio : Array (Option Value)} {ocLawRatio kVLawRatio dcLawRatio pmLawRatio ctLawRatio cdLawRatio : Value} (aLawRatio : PySem.W.nsIn K mainGlobals "_law_ratio" = some (some (.ref fLawRatio))) (lLawRatio : K.lookup fLawRatio = some ⟨ocLawRatio, odLawRatio, .func (PySem.W.fnOf "_law_ratio" "_law_ratio" (defArgs sLawRatio) (defBody sLawRatio) (defScope sLawRatio) .none kVLawRatio dcLawRatio pmLawRatio anLawRatio cdLawRatio ctLawRatio), slLawRatio⟩) (cLawRatio : PySem.W.codeIn K cdLawRatio "_law_ratio" = true) (kLawRatio : PySem.W.keepIn K (.ref fLawRatio) = true)
    {odLawPlus anLawPlus : Option Addr} {slLawPlus : Array (Option Value)} {ocLawPlus kVLawPlus dcLawPlus pmLawPlus ctLawPlus cdLawPlus : Value} (aLawPlus : PySem.W.nsIn K mainGlobals "_law_plus" = some (some (.ref fLawPlus))) (lLawPlus : K.lookup fLawPlus = some ⟨ocLawPlus, odLawPlus, .func (PySem.W.fnOf "_law_plus" "_law_plus" (defArgs sLawPlus) (defBody sLawPlus) (defScope sLawPlus) .none kVLawPlus dcLawPlus pmLawPlus anLawPlus cdLawPlus ctLawPlus), slLawPlus⟩) (cLawPlus : PySem.W.codeIn K cdLawPlus "_law_plus" = true) (kLawPlus : PySem.W.keepIn K (.ref fLawPlus) = true)
    {odLawLess anLawLess : Option Addr} {slLawLess : Array (Option Value)} {ocLawLess kVLawLess dcLawLess pmLawLess ctLawLess cdLawLess : Value} (aLawLess : PySem.W.nsIn K mainGlobals "_law_less" = some (some (.ref fLawLess))) (lLawLess : K.lookup fLawLess = some ⟨ocLawLess, odLawLess, .func (PySem.W.fnOf "_law_less" "_law_less" (defArgs sLawLess) (defBody sLawLess) (defScope sLawLess) .none kVLawLess dcLawLess pmLawLess anLawLess cdLawLess ctLawLess), slLawLess⟩) (cLawLess : PySem.W.codeIn K cdLawLess "_law_less" = true) (kLawLess : PySem.W.keepIn K (.ref fLawLess) = true)
    {odLawTimes anLawTimes : Option Addr} {slLawTimes : Array (Option Value)} {ocLawTimes kVLawTimes dcLawTimes pmLawTimes ctLawTimes cdLawTimes : Value} (aLawTimes : PySem.W.nsIn K mainGlobals "_law_times" = some (some (.ref fLawTimes))) (lLawTimes : K.lookup fLawTimes = some ⟨ocLawTimes, odLawTimes, .func (PySem.W.fnOf "_law_times" "_law_times" (defArgs sLawTimes) (defBody sLawTimes) (defScope sLawTimes) .none kVLawTimes dcLawTimes pmLawTimes anLawTimes cdLawTimes ctLawTimes), slLawTimes⟩) (cLawTimes : PySem.W.codeIn K cdLawTimes "_law_times" = true) (kLawTimes : PySem.W.keepIn K (.ref fLawTimes) = true)
    {odLawSum anLawSum : Option Addr} {slLawSum : Array (Option Value)} {ocLawSum kVLawSum dcLawSum pmLawSum ctLawSum cdLawSum : Value} (aLawSum : PySem.W.nsIn K mainGlobals "_law_sum" = some (some (.ref fLawSum))) (lLawSum : K.lookup fLawSum = some ⟨ocLawSum, odLawSum, .func (PySem.W.fnOf "_law_sum" "_law_sum" (defArgs sLawSum) (defBody sLawSum) (defScope sLawSum) .none kVLawSum dcLawSum pmLawSum anLawSum cdLawSum ctLawSum), slLawSum⟩) (cLawSum : PySem.W.codeIn K cdLawSum "_law_sum" = true) (kLawSum : PySem.W.keepIn K (.ref fLawSum) = true)
    {odLawShareOf anLawShareOf : Option Addr} {slLawShareOf : Array (Option Value)} {ocLawShareOf kVLawShareOf dcLawShareOf pmLawShareOf ctLawShareOf cdLawShareOf : Value} (aLawShareOf : PySem.W.nsIn K mainGlobals "_law_share_of" = some (some (.ref fLawShareOf))) (lLawShareOf : K.lookup fLawShareOf = some ⟨ocLawShareOf, odLawShareOf, .func (PySem.W.fnOf "_law_share_of" "_law_share_of" (defArgs sLawShareOf) (defBody sLawShareOf) (defScope sLawShareOf) .none kVLawShareOf dcLawShareOf pmLawShareOf anLawShareOf cdLawShareOf ctLawShareOf), slLawShareOf⟩) (cLawShareOf : PySem.W.codeIn K cdLawShareOf "_law_share_of" = true) (kLawShareOf : PySem.W.keepIn K (.ref fLawShareOf) = true)
    {odLawSide anLawSide : Option Addr} {slLawSide : Array (Option Value)} {ocLawSide kVLawSide dcLawSide pmLawSide ctLawSide cdLawSide : Value} (aLawSide : PySem.W.nsIn K mainGlobals "_law_side" = some (some (.ref fLawSide))) (lLawSide : K.lookup fLawSide = some ⟨ocLawSide, odLawSide, .func (PySem.W.fnOf "_law_side" "_law_side" (defArgs sLawSide) (defBody sLawSide) (defScope sLawSide) .none kVLawSide dcLawSide pmLawSide anLawSide cdLawSide ctLawSide), slLawSide⟩) (cLawSide : PySem.W.codeIn K cdLawSide "_law_side" = true) (kLawSide : PySem.W.keepIn K (.ref fLawSide) = true)
    {odLawHeft anLawHeft : Option Addr} {slLawHeft : Array (Option Value)} {ocLawHeft kVLawHeft dcLawHeft pmLawHeft ctLawHeft cdLawHeft : Value} (aLawHeft : PySem.W.nsIn K mainGlobals "_law_heft" = some (some (.ref fLawHeft))) (lLawHeft : K.lookup fLawHeft = some ⟨ocLawHeft, odLawHeft, .func (PySem.W.fnOf "_law_heft" "_law_heft" (defArgs sLawHeft) (defBody sLawHeft) (defScope sLawHeft) .none kVLawHeft dcLawHeft pmLawHeft anLawHeft cdLawHeft ctLawHeft), slLawHeft⟩) (cLawHeft : PySem.W.codeIn K cdLawHeft "_law_heft" = true) (kLawHeft : PySem.W.keepIn K (.ref fLawHeft) = true)
    {odLawMarks anLawMarks : Option Addr} {slLawMarks : Array (Option Value)} {ocLawMarks kVLawMarks dcLawMarks pmLawMarks ctLawMarks cdLawMarks : Value} (aLawMarks : PySem.W.nsIn K mainGlobals "_law_marks" = some (some (.ref fLawMarks))) (lLawMarks : K.lookup fLawMarks = some ⟨ocLawMarks, odLawMarks, .func (PySem.W.fnOf "_law_marks" "_law_marks" (defArgs sLawMarks) (defBody sLawMarks) (defScope sLawMarks) .none kVLawMarks dcLawMarks pmLawMarks anLawMarks cdLawMarks ctLawMarks), slLawMarks⟩) (cLawMarks : PySem.W.codeIn K cdLawMarks "_law_marks" = true) (kLawMarks : PySem.W.keepIn K (.ref fLawMarks) = true)
    {odLawShare anLawShare : Option Addr} {slLawShare : Array (Option Value)} {ocLawShare kVLawShare dcLawShare pmLawShare ctLawShare cdLawShare : Value} (aLawShare : PySem.W.nsIn K mainGlobals "_law_share" = some (some (.ref fLawShare))) (lLawShare : K.lookup fLawShare = some ⟨ocLawShare, odLawShare, .func (PySem.W.fnOf "_law_share" "_law_share" (defArgs sLawShare) (defBody sLawShare) (defScope sLawShare) .none kVLawShare dcLawShare pmLawShare anLawShare cdLawShare ctLawShare), slLawShare⟩) (cLawShare : PySem.W.codeIn K cdLawShare "_law_share" = true) (kLawShare : PySem.W.keepIn K (.ref fLawShare) = true)
    {odLawSteps anLawSteps : Option Addr} {slLawSteps : Array (Option Value)} {ocLawSteps kVLawSteps dcLawSteps pmLawSteps ctLawSteps cdLawSteps : Value} (aLawSteps : PySem.W.nsIn K mainGlobals "_law_steps" = some (some (.ref fLawSteps))) (lLawSteps : K.lookup fLawSteps = some ⟨ocLawSteps, odLawSteps, .func (PySem.W.fnOf "_law_steps" "_law_steps" (defArgs sLawSteps) (defBody sLawSteps) (defScope sLawSteps) .none kVLawSteps dcLawSteps pmLawSteps anLawSteps cdLawSteps ctLawSteps), slLawSteps⟩) (cLawSteps : PySem.W.codeIn K cdLawSteps "_law_steps" = true) (kLawSteps : PySem.W.keepIn K (.ref fLawSteps) = true)
    {odLawCosts anLawCosts : Option Addr} {slLawCosts : Array (Option Value)} {ocLawCosts kVLawCosts dcLawCosts pmLawCosts ctLawCosts cdLawCosts : Value} (aLawCosts : PySem.W.nsIn K mainGlobals "_law_costs" = some (some (.ref fLawCosts))) (lLawCosts : K.lookup fLawCosts = some ⟨ocLawCosts, odLawCosts, .func (PySem.W.fnOf "_law_costs" "_law_costs" (defArgs sLawCosts) (defBody sLawCosts) (defScope sLawCosts) .none kVLawCosts dcLawCosts pmLawCosts anLawCosts cdLawCosts ctLawCosts), slLawCosts⟩) (cLawCosts : PySem.W.codeIn K cdLawCosts "_law_costs" = true) (kLawCosts : PySem.W.keepIn K (.ref fLawCosts) = true)
    {odLawCost anLawCost : Option Addr} {slLawCost : Array (Option Value)} {ocLawCost kVLawCost dcLawCost pmLawCost ctLawCost cdLawCost : Value} (aLawCost : PySem.W.nsIn K mainGlobals "_law_cost" = some (some (.ref fLawCost))) (lLawCost : K.lookup fLawCost = some ⟨ocLawCost, odLawCost, .func (PySem.W.fnOf "_law_cost" "_law_cost" (defArgs sLawCost) (defBody sLawCost) (defScope sLawCost) .none kVLawCost dcLawCost pmLawCost anLawCost cdLawCost ctLawCost), slLawCost⟩) (cLawCost : PySem.W.codeIn K cdLawCost "_law_cost" = true) (kLawCost : PySem.W.keepIn K (.ref fLawCost) = true)
    {odLawBends anLawBends : Option Addr} {slLawBends : Array (Option Value)} {ocLawBends kVLawBends dcLawBends pmLawBends ctLawBends cdLawBends : Value} (aLawBends : PySem.W.nsIn K mainGlobals "_law_bends" = some (some (.ref fLawBends))) (lLawBends : K.lookup fLawBends = some ⟨ocLawBends, odLawBends, .func (PySem.W.fnOf "_law_bends" "_law_bends" (defArgs sLawBends) (defBody sLawBends) (defScope sLawBends) .none kVLawBends dcLawBends pmLawBends anLawBends cdLawBends ctLawBends), slLawBends⟩) (cLawBends : PySem.W.codeIn K cdLawBends "_law_bends" = true) (kLawBends : PySem.W.keepIn K (.ref fLawBends) = true)
    {odLawWord anLawWord : Option Addr} {slLawWord : Array (Option Value)} {ocLawWord kVLawWord dcLawWord pmLawWord ctLawWord cdLawWord : Value} (aLawWord : PySem.W.nsIn K mainGlobals "_law_word" = some (some (.ref fLawWord))) (lLawWord : K.lookup fLawWord = some ⟨ocLawWord, odLawWord, .func (PySem.W.fnOf "_law_word" "_law_word" (defArgs sLawWord) (defBody sLawWord) (defScope sLawWord) .none kVLawWord dcLawWord pmLawWord anLawWord cdLawWord ctLawWord), slLawWord⟩) (cLawWord : PySem.W.codeIn K cdLawWord "_law_word" = true) (kLawWord : PySem.W.keepIn K (.ref fLawWord) = true)
    {odLawKindRight anLawKindRight : Option Addr} {slLawKindRight : Array (Option Value)} {ocLawKindRight kVLawKindRight dcLawKindRight pmLawKindRight ctLawKindRight cdLawKindRight : Value} (aLawKindRight : PySem.W.nsIn K mainGlobals "_law_kind_right" = some (some (.ref fLawKindRight))) (lLawKindRight : K.lookup fLawKindRight = some ⟨ocLawKindRight, odLawKindRight, .func (PySem.W.fnOf "_law_kind_right" "_law_kind_right" (defArgs sLawKindRight) (defBody sLawKindRight) (defScope sLawKindRight) .none kVLawKindRight dcLawKindRight pmLawKindRight anLawKindRight cdLawKindRight ctLawKindRight), slLawKindRight⟩) (cLawKindRight : PySem.W.codeIn K cdLawKindRight "_law_kind_right" = true) (kLawKindRight : PySem.W.keepIn K (.ref fLawKindRight) = true)
    {odLaw anLaw : Option Addr} {slLaw : Array (Option Value)} {ocLaw kVLaw dcLaw pmLaw ctLaw cdLaw : Value} (aLaw : PySem.W.nsIn K mainGlobals "law" = some (some (.ref fLaw))) (lLaw : K.lookup fLaw = some ⟨ocLaw, odLaw, .func (PySem.W.fnOf "law" "law" (defArgs sLaw) (defBody sLaw) (defScope sLaw) .none kVLaw dcLaw pmLaw anLaw cdLaw ctLaw), slLaw⟩) (cLaw : PySem.W.codeIn K cdLaw "law" = true) (kLaw : PySem.W.keepIn K (.ref fLaw) = true)
    (z_isinstance : PySem.W.nsIn K mainGlobals "isinstance" = some none) (z_int : PySem.W.nsIn K mainGlobals "int" = some none) (z_tuple : PySem.W.nsIn K mainGlobals "tuple" = some none) (z_len : PySem.W.nsIn K mainGlobals "len" = some none) (z_abs : PySem.W.nsIn K mainGlobals "abs" = some none) (z_range : PySem.W.nsIn K mainGlobals "range" = some none) (z_list : PySem.W.nsIn K mainGlobals "list" = some none) (z_sorted : PySem.W.nsIn K mainGlobals "sorted" = some none) (z_zip : PySem.W.nsIn K mainGlobals "zip" = some none) (z_all : PySem.W.nsIn K mainGlobals "all" = some none) (z_dict : PySem.W.nsIn K mainGlobals "dict" = some none) (z_str : PySem.W.nsIn K mainGlobals "str" = some none) (z_max : PySem.W.nsIn K mainGlobals "max" = some none) (z_min : PySem.W.nsIn K mainGlobals "min" = some none) (z_repr : PySem.W.nsIn K mainGlobals "repr" = some none) (z_enumerate : PySem.W.nsIn K mainGlobals "enumerate" = some none) (z_gcd : PySem.W.nsIn K mainGlobals "gcd" = some (some (.builtin "math.gcd")))
    {t8 tU tD t64 tN0 tN1 : Tok} {aN : Addr} {odN : Option Addr} {slN : Array (Option Value)} {nN : Nat} (a64 : PySem.W.nsIn K mainGlobals "MOST_STEPS" = some (some (.int 64 t64))) (aNo : PySem.W.nsIn K mainGlobals "NOUGHT" = some (some (.ref aN))) (lNo : K.lookup aN = some ⟨.type "tuple", odN, .seq #[.int 0 tN0, .int 1 tN1] nN, slN⟩) (a8 : PySem.W.nsIn K mainGlobals "MOST_PAIRS" = some (some (.int 8 t8))) (aU : PySem.W.nsIn K mainGlobals "UP" = some (some (.int 1 tU))) (aD : PySem.W.nsIn K mainGlobals "DOWN" = some (some (.int (-1) tD)))
    {aS b0 b1 b2 b3 : Addr} {odS od0 od1 od2 od3 : Option Addr} {slS sl0 sl1 sl2 sl3 : Array (Option Value)} {nS n0 n1 n2 n3 : Nat} {tx0 ty0 tx1 ty1 tx2 ty2 tx3 ty3 : Tok} (aSo : PySem.W.nsIn K mainGlobals "SORTS" = some (some (.ref aS))) (lSo : K.lookup aS = some ⟨.type "tuple", odS, .seq #[.ref b0, .ref b1, .ref b2, .ref b3] nS, slS⟩) (lS0 : K.lookup b0 = some ⟨.type "tuple", od0, .seq #[.str "down" tx0, .int 1 ty0] n0, sl0⟩) (lS1 : K.lookup b1 = some ⟨.type "tuple", od1, .seq #[.str "up" tx1, .int 1 ty1] n1, sl1⟩) (lS2 : K.lookup b2 = some ⟨.type "tuple", od2, .seq #[.str "straight" tx2, .int 1 ty2] n2, sl2⟩) (lS3 : K.lookup b3 = some ⟨.type "tuple", od3, .seq #[.str "mixed" tx3, .int 5 ty3] n3, sl3⟩)
    {CP gP : Addr} {odP anP : Option Addr} {slP : Array (Option Value)} {ocP kVP dcP pmP cdP ctP : Value} (aP : PySem.W.nsIn K mainGlobals "BadPaper" = some (some (.ref CP))) (iP : PySem.W.excInitIn K CP bmV "ValueError.__new__" = true) (oP : PySem.W.excOver K CP bmV = true) (sP : PySem.W.findIn K (.ref CP) "__setattr__" = some (some (.builtin "object.__setattr__"))) (tP : PySem.W.takerIn K CP "part" = some none)
    (xP : xfB K CP = true) (nP : PySem.W.findIn K (.ref CP) "part" = some none) (jP : PySem.W.findIn K (.ref CP) "__init__" = some (some (.ref gP))) (vP : PySem.W.typeIn K (.ref gP) = some (.type "function")) (qP : PySem.W.keepIn K (.ref CP) = true) (yP : PySem.W.typeIn K (.ref CP) = some (.type "type"))
    (lP : K.lookup gP = some ⟨ocP, odP, .func (PySem.W.fnOf "__init__" "BadPaper.__init__" (defArgs (inClass sBadPaper 0)) (defBody (inClass sBadPaper 0)) (defScope (inClass sBadPaper 0)) .none kVP dcP pmP anP cdP ctP), slP⟩) (cP : PySem.W.codeIn K cdP "BadPaper.__init__" = true) (kP : PySem.W.keepIn K (.ref gP) = true) :
    ∃ fd : FuncData, (∀ (s : Shared) (v : Value), BindsTo s fd ⟨[v], []⟩ [("script", v)]) ∧ ∀ base : Heap, K.In base → base.Ns mainGlobals mg → FnG l.prog w K mg base CX0 13 fa fd ["script"] (spLawK K) := by
  have e := hfa.symm.trans (PySem.W.mg_of X G aLaw)
  cases e
  have T : Bt mg := ⟨PySem.W.mg_of X G z_gcd, PySem.W.mg_none_of X G z_isinstance, PySem.W.mg_none_of X G z_int, PySem.W.mg_none_of X G z_tuple, PySem.W.mg_none_of X G z_len, PySem.W.mg_none_of X G z_abs, PySem.W.mg_none_of X G z_range, PySem.W.mg_none_of X G z_list, PySem.W.mg_none_of X G z_sorted, PySem.W.mg_none_of X G z_zip, PySem.W.mg_none_of X G z_all, PySem.W.mg_none_of X G z_dict⟩
  have mstr := PySem.W.mg_none_of X G z_str
  have menum := PySem.W.mg_none_of X G z_enumerate
  have mmax := PySem.W.mg_none_of X G z_max
  have mmin := PySem.W.mg_none_of X G z_min
  have mrepr := PySem.W.mg_none_of X G z_repr
  have g8 := PySem.W.mg_of X G a8
  have gU := PySem.W.mg_of X G aU
  have gD := PySem.W.mg_of X G aD
  have gS := PySem.W.mg_of X G aSo
  have g64 := PySem.W.mg_of X G a64
  have gN := PySem.W.mg_of X G aNo
  have hN : ∀ H, FT K H aN (0, 1) := fun H => .inr ⟨_, _, _, lNo, rfl, rfl, (by show 2 ≤ sizeLine; decide), .cons ⟨tN0, rfl⟩ (.cons ⟨tN1, rfl⟩ .nil)⟩
  have hS : ∀ H, Dp K H (.ref aS) (.tuple kindSorts) := fun H => Dp.tup (xs := [V.ref b0, V.ref b1, V.ref b2, V.ref b3]) (.inr ⟨_, _, _, lSo, rfl, rfl, (by show 4 ≤ sizeLine; decide), .cons rfl (.cons rfl (.cons rfl (.cons rfl .nil)))⟩) (.cons (Dp.tup (xs := [V.str "down", V.int 1]) (.inr ⟨_, _, _, lS0, rfl, rfl, (by show 2 ≤ sizeLine; decide), .cons ⟨tx0, rfl⟩ (.cons ⟨ty0, rfl⟩ .nil)⟩) (.cons (.str _) (.cons (.int _) .nil))) (.cons (Dp.tup (xs := [V.str "up", V.int 1]) (.inr ⟨_, _, _, lS1, rfl, rfl, (by show 2 ≤ sizeLine; decide), .cons ⟨tx1, rfl⟩ (.cons ⟨ty1, rfl⟩ .nil)⟩) (.cons (.str _) (.cons (.int _) .nil))) (.cons (Dp.tup (xs := [V.str "straight", V.int 1]) (.inr ⟨_, _, _, lS2, rfl, rfl, (by show 2 ≤ sizeLine; decide), .cons ⟨tx2, rfl⟩ (.cons ⟨ty2, rfl⟩ .nil)⟩) (.cons (.str _) (.cons (.int _) .nil))) (.cons (Dp.tup (xs := [V.str "mixed", V.int 5]) (.inr ⟨_, _, _, lS3, rfl, rfl, (by show 2 ≤ sizeLine; decide), .cons ⟨tx3, rfl⟩ (.cons ⟨ty3, rfl⟩ .nil)⟩) (.cons (.str _) (.cons (.int _) .nil))) .nil))))
  have FLowered := fun_mk (st := sLowered) lLowered cLowered kLowered
  have DLowered : Df K mg "lowered" sLowered ["top", "bottom"] fLowered _ := ⟨FLowered, FLowered.binds (ps := ["top", "bottom"]) fun _ _ _ _ _ _ us hl => match us, hl with | [_, _], _ => rfl, PySem.W.mg_of X G aLowered⟩
  have FAdded := fun_mk (st := sAdded) lAdded cAdded kAdded
  have DAdded : Df K mg "added" sAdded ["one", "other"] fAdded _ := ⟨FAdded, FAdded.binds (ps := ["one", "other"]) fun _ _ _ _ _ _ us hl => match us, hl with | [_, _], _ => rfl, PySem.W.mg_of X G aAdded⟩
  have FScaled := fun_mk (st := sScaled) lScaled cScaled kScaled
  have DScaled : Df K mg "scaled" sScaled ["fraction", "by"] fScaled _ := ⟨FScaled, FScaled.binds (ps := ["fraction", "by"]) fun _ _ _ _ _ _ us hl => match us, hl with | [_, _], _ => rfl, PySem.W.mg_of X G aScaled⟩
  have FSumOf := fun_mk (st := sSumOf) lSumOf cSumOf kSumOf
  have DSumOf : Df K mg "sum_of" sSumOf ["fractions"] fSumOf _ := ⟨FSumOf, FSumOf.binds (ps := ["fractions"]) fun _ _ _ _ _ _ us hl => match us, hl with | [_], _ => rfl, PySem.W.mg_of X G aSumOf⟩
  have FIsWhole := fun_mk (st := sIsWhole) lIsWhole cIsWhole kIsWhole
  have DIsWhole : Df K mg "is_whole" sIsWhole ["thing"] fIsWhole _ := ⟨FIsWhole, FIsWhole.binds (ps := ["thing"]) fun _ _ _ _ _ _ us hl => match us, hl with | [_], _ => rfl, PySem.W.mg_of X G aIsWhole⟩
  have FIsWord := fun_mk (st := sIsWord) lIsWord cIsWord kIsWord
  have DIsWord : Df K mg "is_word" sIsWord ["thing"] fIsWord _ := ⟨FIsWord, FIsWord.binds (ps := ["thing"]) fun _ _ _ _ _ _ us hl => match us, hl with | [_], _ => rfl, PySem.W.mg_of X G aIsWord⟩
  have FIsRow := fun_mk (st := sIsRow) lIsRow cIsRow kIsRow
  have DIsRow : Df K mg "is_row" sIsRow ["thing"] fIsRow _ := ⟨FIsRow, FIsRow.binds (ps := ["thing"]) fun _ _ _ _ _ _ us hl => match us, hl with | [_], _ => rfl, PySem.W.mg_of X G aIsRow⟩
  have FIsRowOf := fun_mk (st := sIsRowOf) lIsRowOf cIsRowOf kIsRowOf
  have DIsRowOf : Df K mg "is_row_of" sIsRowOf ["thing", "many"] fIsRowOf _ := ⟨FIsRowOf, FIsRowOf.binds (ps := ["thing", "many"]) fun _ _ _ _ _ _ us hl => match us, hl with | [_, _], _ => rfl, PySem.W.mg_of X G aIsRowOf⟩
  have FIsWholeWithin := fun_mk (st := sIsWholeWithin) lIsWholeWithin cIsWholeWithin kIsWholeWithin
  have DIsWholeWithin : Df K mg "is_whole_within" sIsWholeWithin ["thing", "least", "most"] fIsWholeWithin _ := ⟨FIsWholeWithin, FIsWholeWithin.binds (ps := ["thing", "least", "most"]) fun _ _ _ _ _ _ us hl => match us, hl with | [_, _, _], _ => rfl, PySem.W.mg_of X G aIsWholeWithin⟩
  have FIsNumber := fun_mk (st := sIsNumber) lIsNumber cIsNumber kIsNumber
  have DIsNumber : Df K mg "is_number" sIsNumber ["thing"] fIsNumber _ := ⟨FIsNumber, FIsNumber.binds (ps := ["thing"]) fun _ _ _ _ _ _ us hl => match us, hl with | [_], _ => rfl, PySem.W.mg_of X G aIsNumber⟩
  have FIsFraction := fun_mk (st := sIsFraction) lIsFraction cIsFraction kIsFraction
  have DIsFraction : Df K mg "is_fraction" sIsFraction ["thing"] fIsFraction _ := ⟨FIsFraction, FIsFraction.binds (ps := ["thing"]) fun _ _ _ _ _ _ us hl => match us, hl with | [_], _ => rfl, PySem.W.mg_of X G aIsFraction⟩
  have FIsWeight := fun_mk (st := sIsWeight) lIsWeight cIsWeight kIsWeight
  have DIsWeight : Df K mg "is_weight" sIsWeight ["thing"] fIsWeight _ := ⟨FIsWeight, FIsWeight.binds (ps := ["thing"]) fun _ _ _ _ _ _ us hl => match us, hl with | [_], _ => rfl, PySem.W.mg_of X G aIsWeight⟩
  have FAscends := fun_mk (st := sAscends) lAscends cAscends kAscends
  have DAscends : Df K mg "ascends" sAscends ["things"] fAscends _ := ⟨FAscends, FAscends.binds (ps := ["things"]) fun _ _ _ _ _ _ us hl => match us, hl with | [_], _ => rfl, PySem.W.mg_of X G aAscends⟩
  have FIsSharePair := fun_mk (st := sIsSharePair) lIsSharePair cIsSharePair kIsSharePair
  have DIsSharePair : Df K mg "is_share_pair" sIsSharePair ["thing"] fIsSharePair _ := ⟨FIsSharePair, FIsSharePair.binds (ps := ["thing"]) fun _ _ _ _ _ _ us hl => match us, hl with | [_], _ => rfl, PySem.W.mg_of X G aIsSharePair⟩
  have FIsShare := fun_mk (st := sIsShare) lIsShare cIsShare kIsShare
  have DIsShare : Df K mg "is_share" sIsShare ["thing"] fIsShare _ := ⟨FIsShare, FIsShare.binds (ps := ["thing"]) fun _ _ _ _ _ _ us hl => match us, hl with | [_], _ => rfl, PySem.W.mg_of X G aIsShare⟩
  have FHasSort := fun_mk (st := sHasSort) lHasSort cHasSort kHasSort
  have DHasSort : Df K mg "has_sort" sHasSort ["paper", "sorts"] fHasSort _ := ⟨FHasSort, FHasSort.binds (ps := ["paper", "sorts"]) fun _ _ _ _ _ _ us hl => match us, hl with | [_, _], _ => rfl, PySem.W.mg_of X G aHasSort⟩
  have FGathered := fun_mk (st := sGathered) lGathered cGathered kGathered
  have DGathered : Df K mg "gathered" sGathered ["pairs"] fGathered _ := ⟨FGathered, FGathered.binds (ps := ["pairs"]) fun _ _ _ _ _ _ us hl => match us, hl with | [_], _ => rfl, PySem.W.mg_of X G aGathered⟩
  have FIsStep := fun_mk (st := sIsStep) lIsStep cIsStep kIsStep
  have DIsStep : Df K mg "is_step" sIsStep ["thing"] fIsStep _ := ⟨FIsStep, FIsStep.binds (ps := ["thing"]) fun _ _ _ _ _ _ us hl => match us, hl with | [_], _ => rfl, PySem.W.mg_of X G aIsStep⟩
  have FIsFair := fun_mk (st := sIsFair) lIsFair cIsFair kIsFair
  have DIsFair : Df K mg "is_fair" sIsFair ["steps"] fIsFair _ := ⟨FIsFair, FIsFair.binds (ps := ["steps"]) fun _ _ _ _ _ _ us hl => match us, hl with | [_], _ => rfl, PySem.W.mg_of X G aIsFair⟩
  have FIsTable := fun_mk (st := sIsTable) lIsTable cIsTable kIsTable
  have DIsTable : Df K mg "is_table" sIsTable ["thing"] fIsTable _ := ⟨FIsTable, FIsTable.binds (ps := ["thing"]) fun _ _ _ _ _ _ us hl => match us, hl with | [_], _ => rfl, PySem.W.mg_of X G aIsTable⟩
  have FStartShare := fun_mk (st := sStartShare) lStartShare cStartShare kStartShare
  have DStartShare : Df K mg "start_share" sStartShare ["table"] fStartShare _ := ⟨FStartShare, FStartShare.binds (ps := ["table"]) fun _ _ _ _ _ _ us hl => match us, hl with | [_], _ => rfl, PySem.W.mg_of X G aStartShare⟩
  have FEndShare := fun_mk (st := sEndShare) lEndShare cEndShare kEndShare
  have DEndShare : Df K mg "end_share" sEndShare ["table"] fEndShare _ := ⟨FEndShare, FEndShare.binds (ps := ["table"]) fun _ _ _ _ _ _ us hl => match us, hl with | [_], _ => rfl, PySem.W.mg_of X G aEndShare⟩
  have FLeads := fun_mk (st := sLeads) lLeads cLeads kLeads
  have DLeads : Df K mg "leads" sLeads ["table", "one", "other"] fLeads _ := ⟨FLeads, FLeads.binds (ps := ["table", "one", "other"]) fun _ _ _ _ _ _ us hl => match us, hl with | [_, _, _], _ => rfl, PySem.W.mg_of X G aLeads⟩
  have FNeedShare := fun_mk (st := sNeedShare) lNeedShare cNeedShare kNeedShare
  have DNeedShare : Df K mg "need_share" sNeedShare ["thing"] fNeedShare _ := ⟨FNeedShare, FNeedShare.binds (ps := ["thing"]) fun _ _ _ _ _ _ us hl => match us, hl with | [_], _ => rfl, PySem.W.mg_of X G aNeedShare⟩
  have FIsCostRow := fun_mk (st := sIsCostRow) lIsCostRow cIsCostRow kIsCostRow
  have DIsCostRow : Df K mg "is_cost_row" sIsCostRow ["thing", "many"] fIsCostRow _ := ⟨FIsCostRow, FIsCostRow.binds (ps := ["thing", "many"]) fun _ _ _ _ _ _ us hl => match us, hl with | [_, _], _ => rfl, PySem.W.mg_of X G aIsCostRow⟩
  have FNeedCosts := fun_mk (st := sNeedCosts) lNeedCosts cNeedCosts kNeedCosts
  have DNeedCosts : Df K mg "need_costs" sNeedCosts ["one", "other", "thing"] fNeedCosts _ := ⟨FNeedCosts, FNeedCosts.binds (ps := ["one", "other", "thing"]) fun _ _ _ _ _ _ us hl => match us, hl with | [_, _, _], _ => rfl, PySem.W.mg_of X G aNeedCosts⟩
  have FPlaces := fun_mk (st := sPlaces) lPlaces cPlaces kPlaces
  have DPlaces : Df K mg "places" sPlaces ["share"] fPlaces _ := ⟨FPlaces, FPlaces.binds (ps := ["share"]) fun _ _ _ _ _ _ us hl => match us, hl with | [_], _ => rfl, PySem.W.mg_of X G aPlaces⟩
  have FCostOf := fun_mk (st := sCostOf) lCostOf cCostOf kCostOf
  have DCostOf : Df K mg "cost_of" sCostOf ["one", "other", "costs", "table"] fCostOf _ := ⟨FCostOf, FCostOf.binds (ps := ["one", "other", "costs", "table"]) fun _ _ _ _ _ _ us hl => match us, hl with | [_, _, _, _], _ => rfl, PySem.W.mg_of X G aCostOf⟩
  have FBow := fun_mk (st := sBow) lBow cBow kBow
  have DBow : Df K mg "bow" sBow ["other", "rises", "column"] fBow _ := ⟨FBow, FBow.binds (ps := ["other", "rises", "column"]) fun _ _ _ _ _ _ us hl => match us, hl with | [_, _, _], _ => rfl, PySem.W.mg_of X G aBow⟩
  have FBends := fun_mk (st := sBends) lBends cBends kBends
  have DBends : Df K mg "bends" sBends ["other", "costs", "way"] fBends _ := ⟨FBends, FBends.binds (ps := ["other", "costs", "way"]) fun _ _ _ _ _ _ us hl => match us, hl with | [_, _, _], _ => rfl, PySem.W.mg_of X G aBends⟩
  have FBendsUp := fun_mk (st := sBendsUp) lBendsUp cBendsUp kBendsUp
  have DBendsUp : Df K mg "bends_up" sBendsUp ["one", "other", "costs"] fBendsUp _ := ⟨FBendsUp, FBendsUp.binds (ps := ["one", "other", "costs"]) fun _ _ _ _ _ _ us hl => match us, hl with | [_, _, _], _ => rfl, PySem.W.mg_of X G aBendsUp⟩
  have FBendsDown := fun_mk (st := sBendsDown) lBendsDown cBendsDown kBendsDown
  have DBendsDown : Df K mg "bends_down" sBendsDown ["one", "other", "costs"] fBendsDown _ := ⟨FBendsDown, FBendsDown.binds (ps := ["one", "other", "costs"]) fun _ _ _ _ _ _ us hl => match us, hl with | [_, _, _], _ => rfl, PySem.W.mg_of X G aBendsDown⟩
  have FKindPaper := fun_mk (st := sKindPaper) lKindPaper cKindPaper kKindPaper
  have DKindPaper : Df K mg "kind_paper" sKindPaper ["one", "other", "costs"] fKindPaper _ := ⟨FKindPaper, FKindPaper.binds (ps := ["one", "other", "costs"]) fun _ _ _ _ _ _ us hl => match us, hl with | [_, _, _], _ => rfl, PySem.W.mg_of X G aKindPaper⟩
  have FKindOf := fun_mk (st := sKindOf) lKindOf cKindOf kKindOf
  have DKindOf : Df K mg "kind_of" sKindOf ["one", "other", "costs"] fKindOf _ := ⟨FKindOf, FKindOf.binds (ps := ["one", "other", "costs"]) fun _ _ _ _ _ _ us hl => match us, hl with | [_, _, _], _ => rfl, PySem.W.mg_of X G aKindOf⟩
  have FIsAsTold := fun_mk (st := sIsAsTold) lIsAsTold cIsAsTold kIsAsTold
  have DIsAsTold : Df K mg "is_as_told" sIsAsTold ["other", "costs", "paper"] fIsAsTold _ := ⟨FIsAsTold, FIsAsTold.binds (ps := ["other", "costs", "paper"]) fun _ _ _ _ _ _ us hl => match us, hl with | [_, _, _], _ => rfl, PySem.W.mg_of X G aIsAsTold⟩
  have FCheckKind := fun_mk (st := sCheckKind) lCheckKind cCheckKind kCheckKind
  have DCheckKind : Df K mg "check_kind" sCheckKind ["one", "other", "costs", "paper"] fCheckKind _ := ⟨FCheckKind, FCheckKind.binds (ps := ["one", "other", "costs", "paper"]) fun _ _ _ _ _ _ us hl => match us, hl with | [_, _, _, _], _ => rfl, PySem.W.mg_of X G aCheckKind⟩
  have FMixed := fun_mk (st := sMixed) lMixed cMixed kMixed
  have DMixed : Df K mg "_law_mixed" sMixed ["cell", "k"] fMixed _ := ⟨FMixed, FMixed.binds (ps := ["cell", "k"]) fun _ _ _ _ _ _ us hl => match us, hl with | [_, _], _ => rfl, PySem.W.mg_of X G aMixed⟩
  have FBegin := fun_mk (st := sBegin) lBegin cBegin kBegin
  have DBegin : Df K mg "_law_begin" sBegin ["script"] fBegin _ := ⟨FBegin, FBegin.binds (ps := ["script"]) fun _ _ _ _ _ _ us hl => match us, hl with | [_], _ => rfl, PySem.W.mg_of X G aBegin⟩
  have FDraw := fun_mk (st := sDraw) lDraw cDraw kDraw
  have DDraw : Df K mg "_law_draw" sDraw ["state", "many"] fDraw _ := ⟨FDraw, FDraw.binds (ps := ["state", "many"]) fun _ _ _ _ _ _ us hl => match us, hl with | [_, _], _ => rfl, PySem.W.mg_of X G aDraw⟩
  have FLawOf := fun_mk (st := sLawOf) lLawOf cLawOf kLawOf
  have DLawOf : Df K mg "_law_of" sLawOf ["state", "some"] fLawOf _ := ⟨FLawOf, FLawOf.binds (ps := ["state", "some"]) fun _ _ _ _ _ _ us hl => match us, hl with | [_, _], _ => rfl, PySem.W.mg_of X G aLawOf⟩
  have FLawRatio := fun_mk (st := sLawRatio) lLawRatio cLawRatio kLawRatio
  have DLawRatio : Df K mg "_law_ratio" sLawRatio ["top", "bottom"] fLawRatio _ := ⟨FLawRatio, FLawRatio.binds (ps := ["top", "bottom"]) fun _ _ _ _ _ _ us hl => match us, hl with | [_, _], _ => rfl, PySem.W.mg_of X G aLawRatio⟩
  have FLawPlus := fun_mk (st := sLawPlus) lLawPlus cLawPlus kLawPlus
  have DLawPlus : Df K mg "_law_plus" sLawPlus ["one", "other"] fLawPlus _ := ⟨FLawPlus, FLawPlus.binds (ps := ["one", "other"]) fun _ _ _ _ _ _ us hl => match us, hl with | [_, _], _ => rfl, PySem.W.mg_of X G aLawPlus⟩
  have FLawLess := fun_mk (st := sLawLess) lLawLess cLawLess kLawLess
  have DLawLess : Df K mg "_law_less" sLawLess ["one", "other"] fLawLess _ := ⟨FLawLess, FLawLess.binds (ps := ["one", "other"]) fun _ _ _ _ _ _ us hl => match us, hl with | [_, _], _ => rfl, PySem.W.mg_of X G aLawLess⟩
  have FLawTimes := fun_mk (st := sLawTimes) lLawTimes cLawTimes kLawTimes
  have DLawTimes : Df K mg "_law_times" sLawTimes ["one", "other"] fLawTimes _ := ⟨FLawTimes, FLawTimes.binds (ps := ["one", "other"]) fun _ _ _ _ _ _ us hl => match us, hl with | [_, _], _ => rfl, PySem.W.mg_of X G aLawTimes⟩
  have FLawSum := fun_mk (st := sLawSum) lLawSum cLawSum kLawSum
  have DLawSum : Df K mg "_law_sum" sLawSum ["some"] fLawSum _ := ⟨FLawSum, FLawSum.binds (ps := ["some"]) fun _ _ _ _ _ _ us hl => match us, hl with | [_], _ => rfl, PySem.W.mg_of X G aLawSum⟩
  have FLawShareOf := fun_mk (st := sLawShareOf) lLawShareOf cLawShareOf kLawShareOf
  have DLawShareOf : Df K mg "_law_share_of" sLawShareOf ["hefts"] fLawShareOf _ := ⟨FLawShareOf, FLawShareOf.binds (ps := ["hefts"]) fun _ _ _ _ _ _ us hl => match us, hl with | [_], _ => rfl, PySem.W.mg_of X G aLawShareOf⟩
  have FLawSide := fun_mk (st := sLawSide) lLawSide cLawSide kLawSide
  have DLawSide : Df K mg "_law_side" sLawSide ["steps", "spot"] fLawSide _ := ⟨FLawSide, FLawSide.binds (ps := ["steps", "spot"]) fun _ _ _ _ _ _ us hl => match us, hl with | [_, _], _ => rfl, PySem.W.mg_of X G aLawSide⟩
  have FLawHeft := fun_mk (st := sLawHeft) lLawHeft cLawHeft kLawHeft
  have DLawHeft : Df K mg "_law_heft" sLawHeft ["state"] fLawHeft _ := ⟨FLawHeft, FLawHeft.binds (ps := ["state"]) fun _ _ _ _ _ _ us hl => match us, hl with | [_], _ => rfl, PySem.W.mg_of X G aLawHeft⟩
  have FLawMarks := fun_mk (st := sLawMarks) lLawMarks cLawMarks kLawMarks
  have DLawMarks : Df K mg "_law_marks" sLawMarks ["state", "many", "most"] fLawMarks _ := ⟨FLawMarks, FLawMarks.binds (ps := ["state", "many", "most"]) fun _ _ _ _ _ _ us hl => match us, hl with | [_, _, _], _ => rfl, PySem.W.mg_of X G aLawMarks⟩
  have FLawShare := fun_mk (st := sLawShare) lLawShare cLawShare kLawShare
  have DLawShare : Df K mg "_law_share" sLawShare ["state", "many"] fLawShare _ := ⟨FLawShare, FLawShare.binds (ps := ["state", "many"]) fun _ _ _ _ _ _ us hl => match us, hl with | [_, _], _ => rfl, PySem.W.mg_of X G aLawShare⟩
  have FLawSteps := fun_mk (st := sLawSteps) lLawSteps cLawSteps kLawSteps
  have DLawSteps : Df K mg "_law_steps" sLawSteps ["state", "many"] fLawSteps _ := ⟨FLawSteps, FLawSteps.binds (ps := ["state", "many"]) fun _ _ _ _ _ _ us hl => match us, hl with | [_, _], _ => rfl, PySem.W.mg_of X G aLawSteps⟩
  have FLawCosts := fun_mk (st := sLawCosts) lLawCosts cLawCosts kLawCosts
  have DLawCosts : Df K mg "_law_costs" sLawCosts ["state", "one", "other"] fLawCosts _ := ⟨FLawCosts, FLawCosts.binds (ps := ["state", "one", "other"]) fun _ _ _ _ _ _ us hl => match us, hl with | [_, _, _], _ => rfl, PySem.W.mg_of X G aLawCosts⟩
  have FLawCost := fun_mk (st := sLawCost) lLawCost cLawCost kLawCost
  have DLawCost : Df K mg "_law_cost" sLawCost ["one", "other", "costs_so", "steps"] fLawCost _ := ⟨FLawCost, FLawCost.binds (ps := ["one", "other", "costs_so", "steps"]) fun _ _ _ _ _ _ us hl => match us, hl with | [_, _, _, _], _ => rfl, PySem.W.mg_of X G aLawCost⟩
  have FLawBends := fun_mk (st := sLawBends) lLawBends cLawBends kLawBends
  have DLawBends : Df K mg "_law_bends" sLawBends ["one", "other", "costs_so"] fLawBends _ := ⟨FLawBends, FLawBends.binds (ps := ["one", "other", "costs_so"]) fun _ _ _ _ _ _ us hl => match us, hl with | [_, _, _], _ => rfl, PySem.W.mg_of X G aLawBends⟩
  have FLawWord := fun_mk (st := sLawWord) lLawWord cLawWord kLawWord
  have DLawWord : Df K mg "_law_word" sLawWord ["one", "other", "costs_so"] fLawWord _ := ⟨FLawWord, FLawWord.binds (ps := ["one", "other", "costs_so"]) fun _ _ _ _ _ _ us hl => match us, hl with | [_, _, _], _ => rfl, PySem.W.mg_of X G aLawWord⟩
  have FLawKindRight := fun_mk (st := sLawKindRight) lLawKindRight cLawKindRight kLawKindRight
  have DLawKindRight : Df K mg "_law_kind_right" sLawKindRight ["one", "other", "costs_so"] fLawKindRight _ := ⟨FLawKindRight, FLawKindRight.binds (ps := ["one", "other", "costs_so"]) fun _ _ _ _ _ _ us hl => match us, hl with | [_, _, _], _ => rfl, PySem.W.mg_of X G aLawKindRight⟩
  have FP := fun_mk (st := inClass sBadPaper 0) lP cP kP
  have ZP : Xc K mg "BadPaper" "part" CP gP bmV "ValueError.__new__" (inClass sBadPaper 0) "BadPaper.__init__" _ := ⟨⟨PySem.W.mg_of X G aP, iP, oP, sP, tP, xfB_ok xP, nP, jP, vP, qP, yP⟩, FP, FP.binds (ps := ["self", "part"]) fun _ _ _ _ _ _ us hl => match us, hl with | [_, _], _ => rfl⟩
  have FLaw := fun_mk (st := sLaw) lLaw cLaw kLaw
  have DLaw : Df K mg "law" sLaw ["script"] _ _ := ⟨FLaw, FLaw.binds (ps := ["script"]) fun _ _ _ _ _ _ us hl => match us, hl with | [_], _ => rfl, hfa⟩
  refine ⟨PySem.W.fnOf "law" "law" (defArgs sLaw) (defBody sLaw) (defScope sLaw) .none kVLaw dcLaw pmLaw anLaw cdLaw ctLaw, fun s v => .of_eq rfl, fun base _ _ => ?_⟩
  have Gwhole := ok_is_whole (P := l.prog) (w := w) (base := base) DIsWhole T
  have GwholeD := ok_wholeD (P := l.prog) (w := w) (base := base) DIsWhole T
  have GwordD := ok_wordD (P := l.prog) (w := w) (base := base) DIsWord T mstr
  have Grow := ok_is_row (P := l.prog) (w := w) (base := base) DIsRow T
  have GrowD := ok_rowD (P := l.prog) (w := w) (base := base) DIsRow T
  have Growof := ok_is_row_of (P := l.prog) (w := w) (base := base) DIsRowOf DIsRow T
  have GrowofD := ok_row_ofD (P := l.prog) (w := w) (base := base) DIsRowOf DIsRow GrowD T
  have Gww := ok_is_whole_within (P := l.prog) (w := w) (base := base) DIsWholeWithin DIsWhole T
  have Gnum := ok_is_number DIsNumber DIsWholeWithin Gww
  have Gfr := ok_is_fraction (P := l.prog) (w := w) (base := base) DIsFraction DIsRowOf DIsRow DIsWhole T
  have Gwt := ok_is_weight DIsWeight DIsFraction Gfr
  have Gasc := ok_ascends (P := l.prog) (w := w) (base := base) DAscends T
  have Gshp := ok_is_share_pair DIsSharePair DIsRowOf Growof DIsNumber Gnum DIsWeight Gwt
  have Gissh := ok_is_share DIsShare DIsRow Grow DIsSharePair Gshp DAscends Gasc g8 T
  have Gneed := ok_need_share DNeedShare DIsShare Gissh
  have Gsort := ok_has_sort (P := l.prog) (w := w) (base := base) DHasSort DIsRow GrowD DIsWord GwordD T
  have Gcrow := ok_is_cost_row DIsCostRow DIsRowOf GrowofD DIsWholeWithin Gww T
  have Gnc := ok_need_costs DNeedCosts DNeedShare Gneed DIsRowOf GrowofD DIsCostRow Gcrow T
  have Gbow := ok_bow (P := l.prog) (w := w) (base := base) DBow T
  have Gbends := ok_bends DBends DBow Gbow T
  have Gups := ok_bends_up DBendsUp DBends Gbends DNeedCosts Gnc gU
  have Gkind := ok_kind_paper DKindPaper DBends Gbends DBendsUp Gups gD
  have Gtold := ok_is_as_told DIsAsTold DBends Gbends DIsWhole GwholeD gU gD T
  have Gcheck := ok_check_kind DCheckKind DNeedCosts Gnc DHasSort Gsort DIsAsTold Gtold gS hS ZP
  have Gbegin := ok_begin (P := l.prog) (w := w) (base := base) DBegin T
  have Gdraw := ok_draw (P := l.prog) (w := w) (base := base) DDraw DMixed T
  have Gratio := ok_law_ratio (P := l.prog) (w := w) (base := base) DLawRatio T
  have Gheft := ok_law_heft DLawHeft DDraw Gdraw DLawRatio Gratio
  have Gmarks := ok_law_marks DLawMarks DDraw Gdraw T
  have Gshare := ok_law_share DLawShare DLawHeft Gheft DLawMarks Gmarks T
  have Gcosts := ok_law_costs DLawCosts DDraw Gdraw T mmax mmin
  have Glbends := ok_law_bends (P := l.prog) (w := w) (base := base) DLawBends T
  have Glow := ok_lowered (P := l.prog) (w := w) (base := base) DLowered T
  have Gadd := ok_added (P := l.prog) (w := w) (base := base) DAdded DLowered T
  have Gscl := ok_scaled (P := l.prog) (w := w) (base := base) DScaled DLowered T
  have Gsum := ok_sum_of DSumOf DAdded Gadd gN hN
  have Ggat := ok_gatheredL DGathered DAdded Gadd gN hN T
  have Gstep := ok_is_step DIsStep DIsRowOf Growof DIsNumber Gnum DIsWeight Gwt
  have GascQ := ok_ascendsQ (P := l.prog) (w := w) (base := base) DAscends T
  have Gfair := ok_is_fair DIsFair DGathered Ggat DScaled Gscl
  have Gtab := ok_is_table DIsTable DIsRow Grow DIsStep Gstep DAscends GascQ DIsFair Gfair g8 g64 T
  have Gstart := ok_start_share DStartShare DGathered Ggat
  have Gend := ok_end_share DEndShare DGathered Ggat
  have Gleads := ok_leads DLeads DStartShare Gstart DEndShare Gend
  have Gplc := ok_places (P := l.prog) (w := w) (base := base) DPlaces menum
  have Gcost := ok_cost_of DCostOf DNeedCosts Gnc DIsTable Gtab DLeads Gleads DPlaces Gplc DSumOf Gsum DScaled Gscl
  have Gdowns := ok_bends_down DBendsDown DBends Gbends DNeedCosts Gnc gD
  have Gkindof := ok_kind_of DKindOf DKindPaper Gkind
  have Gof := ok_law_of DLawOf DDraw Gdraw T
  have Gplus := ok_law_plus (P := l.prog) (w := w) (base := base) DLawPlus DLawRatio T
  have Gless := ok_law_less (P := l.prog) (w := w) (base := base) DLawLess DLawRatio T
  have Gtimes := ok_law_times (P := l.prog) (w := w) (base := base) DLawTimes DLawRatio T
  have Glsum := ok_law_sum DLawSum DLawPlus Gplus
  have Gshof := ok_law_share_of (P := l.prog) (w := w) (base := base) DLawShareOf T
  have Gside := ok_law_side DLawSide DLawPlus Gplus DLawShareOf Gshof T
  have Gword := ok_law_word DLawWord DLawBends Glbends
  have Glcost := ok_law_cost DLawCost DLawSum Glsum DLawTimes Gtimes T menum
  have Gsteps := ok_law_steps DLawSteps T mmax DLawMarks Gmarks DDraw Gdraw DLawOf Gof DLawHeft Gheft DLawRatio Gratio DLawLess Gless DLawPlus Gplus DLawTimes Gtimes
  have Gright := ok_right DLawKindRight T mrepr DLawBends Glbends DLawWord Gword DBendsUp Gups DBendsDown Gdowns DKindOf Gkindof DNeedCosts Gnc DKindPaper Gkind DCheckKind Gcheck
  exact ok_lawK DLaw T mmin mrepr DBegin Gbegin DLawSteps Gsteps DLawSide Gside DLawCosts Gcosts DLawCost Glcost DCostOf Gcost DLawShare Gshare DKindPaper Gkind DBendsUp Gups DKindOf Gkindof DLawKindRight Gright
theorem walk {l : PySem.W.OpenLaw} {q : Program} {loose : List Str} {XP : (Str → Option Value) → Heap → Prop} {YP : World → Heap → Prop} {d : DefRec} {K : Params → PySem.W.Frag} (hn : l.most = some 63) (hdf : d.params.defaults = [])
    (hY : ∀ (w : World) (h : Heap), YP w h → (K w.params).In h)
    (F : ∀ (w : World) (mg : Str → Option Value) (fa : Addr) (h : Heap), (K w.params).In h → h.Ns mainGlobals mg → mg d.name = some (.ref fa) →
      ∃ fd : FuncData, (∀ (s : Shared) (u : Value), BindsTo s fd ⟨[u], []⟩ [("script", u)]) ∧ ∀ base : Heap, (K w.params).In base → base.Ns mainGlobals mg → FnG l.prog w (K w.params) mg base CX0 13 fa fd ["script"] (spLawK (K w.params))) :
    PySem.W.WalkO q loose XP YP l.row.toRowW d [] (fun f vs => PySem.call f vs) := by
  refine Att.attach_call hn hdf fun w s₀ s₁ mg mb fa o pm cd doc a vs ns gr y ho hd hcd hmg hobj hints hlen hg => ?_
  have inn := hY w _ y
  obtain ⟨fd, hb, hF⟩ := F w mg fa _ inn gr.T.g hmg
  exact law_still inn gr.T.g gr.T.b gr.T.builtins gr.T.nolimit hg hobj hints (Nat.le_trans hlen (by decide)) ⟨rfl, by decide, by decide⟩ hF hb fun H hS => ⟨a, ns, rfl, hS, hlen, fun _ => rfl⟩
end CS
open PySem PySem.W PyProof.Rows
set_option maxRecDepth 100000 in
set_option maxHeartbeats 0 in
theorem PySem.Challenge.cw_curtainsteps_k09_whole_costs_and_kinds_holds : PySem.Challenge.rw_curtainsteps_k09_whole_costs_and_kinds.Holds := by
  w_on; o_law; k_head; (case hw => w_witness2)
  k_fill
  refine CS.walk (l := PySem.Challenge.rw_curtainsteps_k09_whole_costs_and_kinds) rfl rfl (fun w h Y => PySem.W.kIn_of Y) ?F
  case F =>
    intro w mg fa h KX G hmg
    refine' CS.all_mk KX G hmg ?aLowered ?lLowered ?cLowered ?kLowered ?aAdded ?lAdded ?cAdded ?kAdded ?aScaled ?lScaled ?cScaled ?kScaled ?aSumOf ?lSumOf ?cSumOf ?kSumOf ?aIsWhole ?lIsWhole ?cIsWhole ?kIsWhole ?aIsWord ?lIsWord ?cIsWord ?kIsWord ?aIsRow ?lIsRow ?cIsRow ?kIsRow ?aIsRowOf ?lIsRowOf ?cIsRowOf ?kIsRowOf ?aIsWholeWithin ?lIsWholeWithin ?cIsWholeWithin ?kIsWholeWithin ?aIsNumber ?lIsNumber ?cIsNumber ?kIsNumber ?aIsFraction ?lIsFraction ?cIsFraction ?kIsFraction ?aIsWeight ?lIsWeight ?cIsWeight ?kIsWeight ?aAscends ?lAscends ?cAscends ?kAscends ?aIsSharePair ?lIsSharePair ?cIsSharePair ?kIsSharePair ?aIsShare ?lIsShare ?cIsShare ?kIsShare ?aHasSort ?lHasSort ?cHasSort ?kHasSort ?aGathered ?lGathered ?cGathered ?kGathered ?aIsStep ?lIsStep ?cIsStep ?kIsStep ?aIsFair ?lIsFair ?cIsFair ?kIsFair ?aIsTable ?lIsTable ?cIsTable ?kIsTable ?aStartShare ?lStartShare ?cStartShare ?kStartShare ?aEndShare ?lEndShare ?cEndShare ?kEndShare ?aLeads ?lLeads ?cLeads ?kLeads ?aNeedShare ?lNeedShare ?cNeedShare ?kNeedShare ?aIsCostRow ?lIsCostRow ?cIsCostRow ?kIsCostRow ?aNeedCosts ?lNeedCosts ?cNeedCosts ?kNeedCosts ?aPlaces ?lPlaces ?cPlaces ?kPlaces ?aCostOf ?lCostOf ?cCostOf ?kCostOf ?aBow ?lBow ?cBow ?kBow ?aBends ?lBends ?cBends ?kBends ?aBendsUp ?lBendsUp ?cBendsUp ?kBendsUp ?aBendsDown ?lBendsDown ?cBendsDown ?kBendsDown ?aKindPaper ?lKindPaper ?cKindPaper ?kKindPaper ?aKindOf ?lKindOf ?cKindOf ?kKindOf ?aIsAsTold ?lIsAsTold ?cIsAsTold ?kIsAsTold ?aCheckKind ?lCheckKind ?cCheckKind ?kCheckKind ?aMixed ?lMixed ?cMixed ?kMixed ?aBegin ?lBegin ?cBegin ?kBegin ?aDraw ?lDraw ?cDraw ?kDraw ?aLawOf ?lLawOf ?cLawOf ?kLawOf ?aLawRatio ?lLawRatio ?cLawRatio ?kLawRatio ?aLawPlus ?lLawPlus ?cLawPlus ?kLawPlus ?aLawLess ?lLawLess ?cLawLess ?kLawLess ?aLawTimes ?lLawTimes ?cLawTimes ?kLawTimes ?aLawSum ?lLawSum ?cLawSum ?kLawSum ?aLawShareOf ?lLawShareOf ?cLawShareOf ?kLawShareOf ?aLawSide ?lLawSide ?cLawSide ?kLawSide ?aLawHeft ?lLawHeft ?cLawHeft ?kLawHeft ?aLawMarks ?lLawMarks ?cLawMarks ?kLawMarks ?aLawShare ?lLawShare ?cLawShare ?kLawShare ?aLawSteps ?lLawSteps ?cLawSteps ?kLawSteps ?aLawCosts ?lLawCosts ?cLawCosts ?kLawCosts ?aLawCost ?lLawCost ?cLawCost ?kLawCost ?aLawBends ?lLawBends ?cLawBends ?kLawBends ?aLawWord ?lLawWord ?cLawWord ?kLawWord ?aLawKindRight ?lLawKindRight ?cLawKindRight ?kLawKindRight ?aLaw ?lLaw ?cLaw ?kLaw ?z_isinstance ?z_int ?z_tuple ?z_len ?z_abs ?z_range ?z_list ?z_sorted ?z_zip ?z_all ?z_dict ?z_str ?z_max ?z_min ?z_repr ?z_enumerate ?z_gcd ?a64 ?aNo ?lNo ?a8 ?aU ?aD ?aSo ?lSo ?lS0 ?lS1 ?lS2 ?lS3 ?aP ?iP ?oP ?sP ?tP ?xP ?nP ?jP ?vP ?qP ?yP ?lP ?cP ?kP
    (case aLowered => k_is)
    (case lLowered => k_is)
    (case cLowered => k_is)
    (case kLowered => k_is)
    (case aAdded => k_is)
    (case lAdded => k_is)
    (case cAdded => k_is)
    (case kAdded => k_is)
    (case aScaled => k_is)
    (case lScaled => k_is)
    (case cScaled => k_is)
    (case kScaled => k_is)
    (case aSumOf => k_is)
    (case lSumOf => k_is)
    (case cSumOf => k_is)
    (case kSumOf => k_is)
    (case aIsWhole => k_is)
    (case lIsWhole => k_is)
    (case cIsWhole => k_is)
    (case kIsWhole => k_is)
    (case aIsWord => k_is)
    (case lIsWord => k_is)
    (case cIsWord => k_is)
    (case kIsWord => k_is)
    (case aIsRow => k_is)
    (case lIsRow => k_is)
    (case cIsRow => k_is)
    (case kIsRow => k_is)
    (case aIsRowOf => k_is)
    (case lIsRowOf => k_is)
    (case cIsRowOf => k_is)
    (case kIsRowOf => k_is)
    (case aIsWholeWithin => k_is)
    (case lIsWholeWithin => k_is)
    (case cIsWholeWithin => k_is)
    (case kIsWholeWithin => k_is)
    (case aIsNumber => k_is)
    (case lIsNumber => k_is)
    (case cIsNumber => k_is)
    (case kIsNumber => k_is)
    (case aIsFraction => k_is)
    (case lIsFraction => k_is)
    (case cIsFraction => k_is)
    (case kIsFraction => k_is)
    (case aIsWeight => k_is)
    (case lIsWeight => k_is)
    (case cIsWeight => k_is)
    (case kIsWeight => k_is)
    (case aAscends => k_is)
    (case lAscends => k_is)
    (case cAscends => k_is)
    (case kAscends => k_is)
    (case aIsSharePair => k_is)
    (case lIsSharePair => k_is)
    (case cIsSharePair => k_is)
    (case kIsSharePair => k_is)
    (case aIsShare => k_is)
    (case lIsShare => k_is)
    (case cIsShare => k_is)
    (case kIsShare => k_is)
    (case aHasSort => k_is)
    (case lHasSort => k_is)
    (case cHasSort => k_is)
    (case kHasSort => k_is)
    (case aGathered => k_is)
    (case lGathered => k_is)
    (case cGathered => k_is)
    (case kGathered => k_is)
    (case aIsStep => k_is)
    (case lIsStep => k_is)
    (case cIsStep => k_is)
    (case kIsStep => k_is)
    (case aIsFair => k_is)
    (case lIsFair => k_is)
    (case cIsFair => k_is)
    (case kIsFair => k_is)
    (case aIsTable => k_is)
    (case lIsTable => k_is)
    (case cIsTable => k_is)
    (case kIsTable => k_is)
    (case aStartShare => k_is)
    (case lStartShare => k_is)
    (case cStartShare => k_is)
    (case kStartShare => k_is)
    (case aEndShare => k_is)
    (case lEndShare => k_is)
    (case cEndShare => k_is)
    (case kEndShare => k_is)
    (case aLeads => k_is)
    (case lLeads => k_is)
    (case cLeads => k_is)
    (case kLeads => k_is)
    (case aNeedShare => k_is)
    (case lNeedShare => k_is)
    (case cNeedShare => k_is)
    (case kNeedShare => k_is)
    (case aIsCostRow => k_is)
    (case lIsCostRow => k_is)
    (case cIsCostRow => k_is)
    (case kIsCostRow => k_is)
    (case aNeedCosts => k_is)
    (case lNeedCosts => k_is)
    (case cNeedCosts => k_is)
    (case kNeedCosts => k_is)
    (case aPlaces => k_is)
    (case lPlaces => k_is)
    (case cPlaces => k_is)
    (case kPlaces => k_is)
    (case aCostOf => k_is)
    (case lCostOf => k_is)
    (case cCostOf => k_is)
    (case kCostOf => k_is)
    (case aBow => k_is)
    (case lBow => k_is)
    (case cBow => k_is)
    (case kBow => k_is)
    (case aBends => k_is)
    (case lBends => k_is)
    (case cBends => k_is)
    (case kBends => k_is)
    (case aBendsUp => k_is)
    (case lBendsUp => k_is)
    (case cBendsUp => k_is)
    (case kBendsUp => k_is)
    (case aBendsDown => k_is)
    (case lBendsDown => k_is)
    (case cBendsDown => k_is)
    (case kBendsDown => k_is)
    (case aKindPaper => k_is)
    (case lKindPaper => k_is)
    (case cKindPaper => k_is)
    (case kKindPaper => k_is)
    (case aKindOf => k_is)
    (case lKindOf => k_is)
    (case cKindOf => k_is)
    (case kKindOf => k_is)
    (case aIsAsTold => k_is)
    (case lIsAsTold => k_is)
    (case cIsAsTold => k_is)
    (case kIsAsTold => k_is)
    (case aCheckKind => k_is)
    (case lCheckKind => k_is)
    (case cCheckKind => k_is)
    (case kCheckKind => k_is)
    (case aMixed => k_is)
    (case lMixed => k_is)
    (case cMixed => k_is)
    (case kMixed => k_is)
    (case aBegin => k_is)
    (case lBegin => k_is)
    (case cBegin => k_is)
    (case kBegin => k_is)
    (case aDraw => k_is)
    (case lDraw => k_is)
    (case cDraw => k_is)
    (case kDraw => k_is)
    (case aLawOf => k_is)
    (case lLawOf => k_is)
    (case cLawOf => k_is)
    (case kLawOf => k_is)
    (case aLawRatio => k_is)
    (case lLawRatio => k_is)
    (case cLawRatio => k_is)
    (case kLawRatio => k_is)
    (case aLawPlus => k_is)
    (case lLawPlus => k_is)
    (case cLawPlus => k_is)
    (case kLawPlus => k_is)
    (case aLawLess => k_is)
    (case lLawLess => k_is)
    (case cLawLess => k_is)
    (case kLawLess => k_is)
    (case aLawTimes => k_is)
    (case lLawTimes => k_is)
    (case cLawTimes => k_is)
    (case kLawTimes => k_is)
    (case aLawSum => k_is)
    (case lLawSum => k_is)
    (case cLawSum => k_is)
    (case kLawSum => k_is)
    (case aLawShareOf => k_is)
    (case lLawShareOf => k_is)
    (case cLawShareOf => k_is)
    (case kLawShareOf => k_is)
    (case aLawSide => k_is)
    (case lLawSide => k_is)
    (case cLawSide => k_is)
    (case kLawSide => k_is)
    (case aLawHeft => k_is)
    (case lLawHeft => k_is)
    (case cLawHeft => k_is)
    (case kLawHeft => k_is)
    (case aLawMarks => k_is)
    (case lLawMarks => k_is)
    (case cLawMarks => k_is)
    (case kLawMarks => k_is)
    (case aLawShare => k_is)
    (case lLawShare => k_is)
    (case cLawShare => k_is)
    (case kLawShare => k_is)
    (case aLawSteps => k_is)
    (case lLawSteps => k_is)
    (case cLawSteps => k_is)
    (case kLawSteps => k_is)
    (case aLawCosts => k_is)
    (case lLawCosts => k_is)
    (case cLawCosts => k_is)
    (case kLawCosts => k_is)
    (case aLawCost => k_is)
    (case lLawCost => k_is)
    (case cLawCost => k_is)
    (case kLawCost => k_is)
    (case aLawBends => k_is)
    (case lLawBends => k_is)
    (case cLawBends => k_is)
    (case kLawBends => k_is)
    (case aLawWord => k_is)
    (case lLawWord => k_is)
    (case cLawWord => k_is)
    (case kLawWord => k_is)
    (case aLawKindRight => k_is)
    (case lLawKindRight => k_is)
    (case cLawKindRight => k_is)
    (case kLawKindRight => k_is)
    (case aLaw => k_is)
    (case lLaw => k_is)
    (case cLaw => k_is)
    (case kLaw => k_is)
    (case z_isinstance => k_is)
    (case z_int => k_is)
    (case z_tuple => k_is)
    (case z_len => k_is)
    (case z_abs => k_is)
    (case z_range => k_is)
    (case z_list => k_is)
    (case z_sorted => k_is)
    (case z_zip => k_is)
    (case z_all => k_is)
    (case z_dict => k_is)
    (case z_str => k_is)
    (case z_max => k_is)
    (case z_min => k_is)
    (case z_repr => k_is)
    (case z_enumerate => k_is)
    (case z_gcd => k_is)
    (case a64 => k_is)
    (case aNo => k_is)
    (case lNo => k_is)
    (case a8 => k_is)
    (case aU => k_is)
    (case aD => k_is)
    (case aSo => k_is)
    (case lSo => k_is)
    (case lS0 => k_is)
    (case lS1 => k_is)
    (case lS2 => k_is)
    (case lS3 => k_is)
    (case aP => k_is)
    (case iP => kernel_rfl)
    (case oP => kernel_rfl)
    (case sP => k_is)
    (case tP => k_is)
    (case xP => kernel_rfl)
    (case nP => k_is)
    (case jP => k_is)
    (case vP => k_is)
    (case qP => k_is)
    (case yP => k_is)
    (case lP => k_is)
    (case cP => k_is)
    (case kP => k_is)
